import PyProof.Rows.All
import Wide.All
import OpenK.AllK
import Wide.FinOn
import Lean
import PyProof.EqAt
import PyProof.EqKinds
import PyProof.TupleCall
import KE.KTryMore
import PyProof.NsDelKeeps
import PyProof.EnumStmt
import KE.KRevIter
import PyProof.ListNew
import KE.KIntText
import PyProof.StrBlock2
import PyProof.ExcInit
import PyProof.ExcClass2
import PyProof.ListRange
import PyProof.Rows.Range3
import PyProof.Rows.TupDisplay
import PyProof.DictWalks
import KE.KSortTup
import PyProof.StrLawsTight
import PySem.Challenge.RW_sowring_k70_refusals_stand_alone
open List renaming getD_eq_getElem?_getD->Z09,mem_append_right->Z0A,getElem?_eq_getElem->Z0B,mem_append_left->Z0C,mem_append->Z0F,mem_cons->Z0G,size_toArray->Z0H,getElem?_eq_none->Z0I,getElem?_append_left->Z0J,length_map->Z0K,getElem?_append_right->Z0L,getElem?_set_self->Z0M,getElem?_map->Z0N,mem_cons_of_mem->Z0P,all_eq_true->Z0Q,map_cons->Z0R,getElem?_set_ne->Z0S,length_cons->Z0T,replicate_succ->Z0V,lookup_cons->Z0W,getElem?_eq_some_iff->Z0X,drop_eq_getElem_cons->Z0Y,length_append->Z0Z,mem_range->Z1a,getElem?_eq_none_iff->Z1b,append_nil->Z1d,mem_map->Z1e,contains_iff_mem->Z1f,flatten_cons->Z1m,find?_range_eq_some->Z1n,lookup->Z1o,getElem?_replicate->Z1p,mem_cons_self->Z1q,mem_singleton->Z1r,getElem?_mapIdx->Z1t,length_pos_iff->Z1y,getElem?_range->Z1z,map_map->Z11,mem_filterMap->Z12,getElem?_cons_zero->Z13,length_nil->Z14,drop_eq_nil_of_le->Z15,length_replicate->Z17,singleton_append->Z18,getElem?_replicate_of_lt->Z19,not_mem_nil->Z1B,sum_cons->Z1C,mem_filter->Z1D,filterMap_cons->Z1E,nodup_cons->Z1F,nil_append->Z1G,map_nil->Z1I,set_cons_succ->Z1J,any_cons->Z1N,getElem_mem->Z1P,of_mem_zip->Z1Q,length_set->Z1R,map_append->Z1S,idxOf_cons->Z1T
open Nat renaming le_refl->Z0D,lt_of_lt_of_le->Z0E,ne_of_lt->Z0O,le_trans->Z0U,lt_irrefl->Z1i,lt_of_le_of_lt->Z1s,lt_succ_self->Z1u,zero_le->Z16,ne_of_gt->Z1H,le_succ->Z1K
open Int renaming emod_eq_of_lt->Z1c,emod_nonneg->Z1g,emod_lt_of_pos->Z1h,toNat_of_nonneg->Z1k,natCast_zero->Z1A,le_refl->Z1L
open Array renaming length_toList->Z1j,all_toList->Z1w,toList_inj->Z1x
open Option renaming map_eq_some_iff->Z1l,bind_some->Z1v,isSome_iff_exists->Z10,toList->Z1M,getD_some->Z1O
set_option Elab.async false
set_option linter.all false
set_option maxRecDepth 100000
namespace L2
open PySem PySem.Spec PyProof.Rows
noncomputable abbrev Key:=Sum Int Str
noncomputable def ZoB:Key->Value->Bool
 |.inl k,v=>Value.isInt k v
 |.inr x,v=>Value.isStrOf x v
noncomputable def ZqP (w:World):Key->Int
 |.inl k=>hashInt k
 |.inr x=>hashStr w x
theorem Jw:∀{k:Key}{v:Value},ZoB k v=true->(∃i t,k=Sum.inl i/\v=Value.int i t)\/(∃x t,k=Sum.inr x/\v=Value.str x t)
 |.inl i,v,h=>by
  obtain⟨t,e⟩:=Value.isInt_shape (k:=i) (v:=v) h
  exact .inl ⟨i,t,rfl,e⟩
 |.inr x,v,h=>by
  obtain⟨t,e⟩:=Value.isStrOf_shape (x:=x) (v:=v) h
  exact .inr ⟨x,t,rfl,e⟩
theorem ZoA (a b:Int):decide ((Sum.inl a:Key)=Sum.inl b)=(a==b):=by
 by_cases e:a=b
 ·subst e;simp
 ·have h:¬(Sum.inl a:Key)=Sum.inl b:=fun q=>e (Sum.inl.inj q)
  rw[decide_eq_false h]
  exact(beq_eq_false_iff_ne.mpr e).symm
theorem Zo7 (a b:Str):decide ((Sum.inr a:Key)=Sum.inr b)=decide (a=b):=by
 by_cases e:a=b
 ·subst e;simp
 ·have h:¬(Sum.inr a:Key)=Sum.inr b:=fun q=>e (Sum.inr.inj q)
  rw[decide_eq_false h,decide_eq_false e]
theorem Zo9 (a:Int) (b:Str):decide ((Sum.inl a:Key)=Sum.inr b)=false:=decide_eq_false (fun q=>nomatch q)
theorem Zo8 (a:Str) (b:Int):decide ((Sum.inr a:Key)=Sum.inl b)=false:=decide_eq_false (fun q=>nomatch q)
noncomputable def Zjy (prog:Program) (w:World):PySem.KeyKind prog w Key where
 is:=ZoB
 hash:=ZqP w
 inj:=fun v a b ha hb=>by
  rcases Jw ha with ⟨i,t,rfl,rfl⟩|⟨x,t,rfl,rfl⟩
  ·rcases Jw hb with ⟨j,u,rfl,e⟩|⟨y,u,rfl,e⟩
   ·injection e with e1 _;rw[e1]
   ·exact nomatch e
  ·rcases Jw hb with ⟨j,u,rfl,e⟩|⟨y,u,rfl,e⟩
   ·exact nomatch e
   ·injection e with e1 _;rw[e1]
 byValue:=fun k v h=>by
  rcases Jw h with ⟨i,t,rfl,rfl⟩|⟨x,t,rfl,rfl⟩<;>rfl
 pyHash:=fun hv h=>by
  rcases Jw hv with ⟨i,t,rfl,rfl⟩|⟨x,t,rfl,rfl⟩
  ·exact wpAny_pyHash_int h
  ·exact wpAny_pyHash_str h
 eqBool:=fun hu hv h=>by
  rcases Jw hu with ⟨i,t,rfl,rfl⟩|⟨x,t,rfl,rfl⟩
  ·rcases Jw hv with ⟨j,u,rfl,rfl⟩|⟨y,u,rfl,rfl⟩
   ·rw[ZoA] at h;exact wpAny_eqBool_int h
   ·rw[Zo9] at h;exact SeqAt.EqAt.int_str i t y u _ _ _ _ h
  ·rcases Jw hv with ⟨j,u,rfl,rfl⟩|⟨y,u,rfl,rfl⟩
   ·rw[Zo8] at h;exact SeqAt.EqAt.str_int x t j u _ _ _ _ h
   ·rw[Zo7] at h;exact wpAny_eqBool_str h
 «strs»:=fun k x t v h=>by
  rcases Jw h with ⟨i,u,rfl,e⟩|⟨y,u,rfl,e⟩
  ·exact nomatch e
  ·injection e with e1 _
   subst e1
   cases v<;>rfl
inductive V where
 |non|bl (b:Bool)|int (i:Int)|str (x:Str)|byt (b:Array UInt8)|flt (b:UInt64)|ref (a:Addr)|ty (n:String)
 deriving DecidableEq
noncomputable def Vj:V->Value->Prop
 |.non,u=>u=Value.none
 |.bl b,u=>u=Value.bool b
 |.int i,u=>∃t,u=Value.int i t
 |.str x,u=>∃t,u=Value.str x t
 |.byt b,u=>∃t,u=Value.bytes b t
 |.flt b,u=>∃t,u=Value.float b t
 |.ref a,u=>u=Value.ref a
 |.ty n,u=>u=Value.type n
noncomputable abbrev JD:List V->List Value->Prop:=Paired Vj
theorem JD.length {xs:List V}{us:List Value} (r:JD xs us):xs.length=us.length:=Paired.length r
theorem JD.get:∀{xs:List V}{us:List Value}{i:Nat}{x:V},JD xs us->xs[i]?=some x->∃u,us[i]?=some u/\Vj x u
 |_,_,_,_,.nil,e=>by simp at e
 |_,_,0,_,.cons r _,e=>by simp at e;subst e;exact⟨_,rfl,r⟩
 |_,_,i+1,x,.cons _ t,e=>by
  obtain⟨u,h1,h2⟩:=JD.get (i:=i) (x:=x) t (by simpa using e)
  exact⟨u,by simpa using h1,h2⟩
theorem JD.set {x:V}{u:Value} (r:Vj x u):∀{xs:List V}{us:List Value} (i:Nat),JD xs us->JD (xs.set i x) (us.set i u)
 |_,_,_,.nil=>.nil
 |_,_,0,.cons _ t=>.cons r t
 |_,_,i+1,.cons q t=>.cons q (JD.set r i t)
theorem JD.append:∀{xs ys:List V}{us ws:List Value},JD xs us->JD ys ws->JD (xs++ys) (us++ws)
 |_,_,_,_,.nil,s=>s
 |_,_,_,_,.cons r t,s=>.cons r (JD.append t s)
noncomputable def Ziq:Option V->Option Value->Prop
 |some v,some u=>Vj v u
 |none,none=>True
 |_,_=>False
def KV {κ:Type}:List (κ×V)->List (κ×Value)->Prop:=Paired fun(p:κ×V) (q:κ×Value)=>p.1=q.1/\Vj p.2 q.2
noncomputable def kV:Key->V
 |.inl i=>.int i
 |.inr x=>.str x
inductive HO where
  |lst (xs:List V)
  |tup (xs:List V)
  |dK (kvs:List (Key×V))|dT (kvs:List (List Key×V))
  |set (S:Int->Bool) (n:Nat)
  |ins (C dx:Addr) (fs:List (Str×V))
  |own (x:Addr)
  |xd (fs:List (Str×V))
  |met (f x:Addr)
  |rng (lo hi:Int)
  |frz (o:Obj) (u:HO)
  |tbl (ps:Array Value)
  |ext (φ:Heap->Prop)
noncomputable abbrev Hp:=Addr->Option HO
noncomputable def upd (H:Hp) (a:Addr) (o:HO):Hp:=fun b=>if b=a then some o else H b
theorem ZD {H:Hp}{a:Addr}{o:HO}:upd H a o a=some o:=by unfold upd;rw[if_pos rfl]
theorem Zu {H:Hp}{a b:Addr}{o:HO} (h:b≠a):upd H a o b=H b:=by unfold upd;rw[if_neg h]
theorem ZpR {H:Hp}{a b:Addr}{o u:HO} (h:H a=some o) (h':H b=some u) (d:o≠u):a≠b:=by
 intro e;subst e;rw[h] at h';exact d (Option.some.inj h')
theorem Z0 {H:Hp}{a b:Addr}{o:HO} (h:H a=some o) (h':H b=none):a≠b:=by
 intro e;subst e;rw[h] at h';cases h'
section
variable (P:Program) (w:World)
noncomputable def Uj (H:Hp) (h:Heap) (a:Addr):HO->Prop
 |.lst xs=>xs.length<=sizeLine/\∃(its:List Value) (n:Nat),JD xs its/\h.get? a=some { cls:=.type "list",data:=.seq its.toArray n }
 |.tup xs=>xs.length<=sizeLine/\∃its:List Value,JD xs its/\IsTup h a its.toArray
 |.dK kvs=>kvs.length<=sizeLine/\(a==sysModules)=false/\∃vs,KV kvs vs/\h.DictOf (Zjy P w) a vs
 |.dT kvs=>kvs.length<=sizeLine/\(a==sysModules)=false/\∃xs:List (List Key×Addr×Value),
   Paired (fun(p:List Key×V) (q:List Key×Addr×Value)=>p.1=q.1/\H q.2.1=some (.tup (p.1.map kV))/\Vj p.2 q.2.2) kvs xs /\
   ∃o es ep,h.get? a=some o/\o.ExactDict/\o.data=.dict es ep/\es.toList=xs.map (entryOfKey (tupleKind (Zjy P w)))/\(xs.map (·.1)).Nodup
 |.set S n=>h.SetOf (intKind P w) a S n
 |.ins C dx fs=>H dx=some (.own a)/\fs.length<=1000/\dx≠a/\h.get? a=some (PySem.W.instObj C dx) /\
   ∃mA,h.Ns1 dx mA/\(∀f,Ziq (fs.lookup f) (mA f))/\PySem.Within mA (fs.map (·.1))
 |.own _=>∃o,h.get? a=some o
 |.xd fs=>∃mA,h.Ns1 a mA/\∀f,Ziq (fs.lookup f) (mA f)
 |.rng lo hi=>∃t u v,h.get? a=some { cls:=.type "range",data:=.fields #[.int lo t,.int hi u,.int 1 v] }
 |.frz o u=>h.get? a=some o/\Uj H h a u
 |.tbl ps=>h.get? a=some { cls:=.none,data:=.fields ps }
 |.met f x=>h.get? a=some (PySem.W.methodObj (.ref f) (.ref x))
 |.ext φ=>φ h/\(∃o,h.get? a=some o)/\∀h1 h2:Heap,φ h1->(∀o,h1.get? a=some o->h2.get? a=some o)->φ h2
def HOk (H:Hp) (h:Heap):Prop:=∀a o,H a=some o->Uj P w H h a o
end
section
variable {P:Program}{w:World}{H H':Hp}{h h':Heap}{a:Addr}{o:HO}
theorem Uj.lt (x:Uj P w H h a o):a<h.objs.size:=by
 cases o with
 |lst xs=>obtain⟨_,_,_,_,e⟩:=x;exact Heap.lt_size e
 |tup xs=>obtain⟨_,_,_,p⟩:=x;exact p.lt
 |dK kvs=>obtain⟨_,_,_,_,o,_,_,e,_⟩:=x;exact Heap.lt_size e
 |dT kvs=>obtain⟨_,_,_,_,o,_,_,e,_⟩:=x;exact Heap.lt_size e
 |set S n=>obtain⟨o,_,_,_,e,_⟩:=x;exact Heap.lt_size e
 |ins C dx fs=>obtain⟨_,_,_,e,_⟩:=x;exact Heap.lt_size e
 |own y=>obtain⟨_,e⟩:=x;exact Heap.lt_size e
 |xd fs=>obtain⟨_,⟨_,_,_,e,_⟩,_⟩:=x;exact Heap.lt_size e
 |rng lo hi=>obtain⟨_,_,_,e⟩:=x;exact Heap.lt_size e
 |frz ob u=>obtain⟨e,_⟩:=x;exact Heap.lt_size e
 |tbl ps=>exact Heap.lt_size (show h.get? a=some _ from x)
 |met f y=>exact Heap.lt_size (show h.get? a=some _ from x)
 |ext φ=>obtain⟨_,⟨_,e⟩,_⟩:=x;exact Heap.lt_size e
theorem Paired.mapP {α β:Type}{F G:α->β->Prop}:∀{l₁:List α}{l₂:List β},Paired F l₁ l₂->(∀a b,F a b->G a b)->Paired G l₁ l₂
 |_,_,.nil,_=>.nil
 |_,_,.cons r t,f=>.cons (f _ _ r) (Paired.mapP t f)
theorem Uj.stay (x:Uj P w H h a o) (k:∀b u,(b=a\/H b=some (.own a))->h.get? b=some u->h'.get? b=some u)
  (ho:∀b,H b=some (.own a)->H' b=some (.own a)) (ht:∀b xs,H b=some (.tup xs)->H' b=some (.tup xs)):Uj P w H' h' a o:=by
 induction o with
 |lst xs=>obtain⟨z,its,n,r,e⟩:=x;exact⟨z,its,n,r,k _ _ (.inl rfl) e⟩
 |tup xs=>obtain⟨z,its,r,ob,e,c⟩:=x;exact⟨z,its,r,ob,k _ _ (.inl rfl) e,c⟩
 |dK kvs=>obtain⟨z,y,vs,r,ob,es,ep,e,c⟩:=x;exact⟨z,y,vs,r,ob,es,ep,k _ _ (.inl rfl) e,c⟩
 |dT kvs =>
  obtain⟨z,y,xs,r,ob,es,ep,e,c⟩:=x
  exact⟨z,y,xs,Paired.mapP r fun p q z=>⟨z.1,ht _ _ z.2.1,z.2.2⟩,ob,es,ep,k _ _ (.inl rfl) e,c⟩
 |set S n=>obtain⟨ob,es,ep,t,e,c⟩:=x;exact⟨ob,es,ep,t,k _ _ (.inl rfl) e,c⟩
 |ins C dx fs =>
  obtain⟨d,z,ne,e,mA,⟨od,es,ep,e2,c⟩,r⟩:=x
  exact⟨ho _ d,z,ne,k _ _ (.inl rfl) e,mA,⟨od,es,ep,k _ _ (.inr d) e2,c⟩,r⟩
 |own y=>obtain⟨ob,e⟩:=x;exact⟨ob,k _ _ (.inl rfl) e⟩
 |xd fs=>obtain⟨mA,⟨od,es,ep,e,c⟩,r⟩:=x;exact⟨mA,⟨od,es,ep,k _ _ (.inl rfl) e,c⟩,r⟩
 |rng lo hi=>obtain⟨t,u,v,e⟩:=x;exact⟨t,u,v,k _ _ (.inl rfl) e⟩
 |frz ob u ih=>obtain⟨e,q⟩:=x;exact⟨k _ _ (.inl rfl) e,ih q⟩
 |tbl ps =>
  have e:h.get? a=some { cls:=.none,data:=.fields ps }:=x
  show h'.get? a=some { cls:=.none,data:=.fields ps }
  exact k a _ (.inl rfl) e
 |met f y =>
  have e:h.get? a=some (PySem.W.methodObj (.ref f) (.ref y)):=x
  show h'.get? a=some (PySem.W.methodObj (.ref f) (.ref y))
  exact k a _ (.inl rfl) e
 |ext φ=>obtain⟨p,⟨o,e⟩,st⟩:=x;exact⟨st _ _ p fun o q=>k _ _ (.inl rfl) q,⟨o,k _ _ (.inl rfl) e⟩,st⟩
theorem HOk.lt (x:HOk P w H h) (e:H a=some o):a<h.objs.size:=(x a o e).lt
theorem HOk.fresh (x:HOk P w H h) (e:h.objs.size<=a):H a=none:=by
 cases q:H a with
 |none=>rfl
 |some u=>exact absurd (Z0E (x.lt q) e) (Z1i _)
theorem HOk.kept (x:HOk P w H h) (k:∀b u,h.get? b=some u->h'.get? b=some u):HOk P w H h':=fun a o e =>
 (x a o e).stay (fun b u _ q=>k b u q) (fun _ q=>q) fun _ _ q=>q
theorem HOk.laid (x:HOk P w H h) (k:∀b u,h.get? b=some u->h'.get? b=some u) (hp:h.objs.size<=a) (new:Uj P w (upd H a o) h' a o):HOk P w (upd H a o) h':=fun b u e=>by
 have hn:=x.fresh hp
 by_cases hb:b=a
 ·subst hb;rw[ZD] at e;cases e;exact new
 ·rw[Zu hb] at e
  exact(x b u e).stay (fun c v _ q=>k c v q) (fun c q=>by rw[Zu (Z0 q hn)];exact q) fun c xs q=>by rw[Zu (Z0 q hn)];exact q
end
def Rd (H:Hp) (a:Addr) (u:HO):Prop:=H a=some u\/∃o,H a=some (.frz o u)
theorem Rd.ok {P:Program}{w:World}{H:Hp}{h:Heap}{a:Addr}{u:HO} (r:Rd H a u) (x:HOk P w H h):Uj P w H h a u:=by
 rcases r with r|⟨o,r⟩
 ·exact x a u r
 ·obtain⟨_,q⟩:=x a _ r
  exact q
noncomputable def Mut:Option HO->Prop
 |some (.lst _)=>True
 |some (.dK _)=>True
 |some (.dT _)=>True
 |some (.set _ _)=>True
 |some (.ins _ _ _)=>True
 |some (.ext _)=>True
 |_=>False
section
variable {P:Program}{w:World}{H:Hp}{h h':Heap}{x e:Addr}{o':HO}
theorem HOk.write (ok:HOk P w H h) (mu:Mut (H x)) (he:e=x\/H e=some (.own x)) (k:∀b u,b≠e->h.get? b=some u->h'.get? b=some u) (heo:∃u,h'.get? e=some u)
  (new:Uj P w (upd H x o') h' x o'):HOk P w (upd H x o') h':=fun b u q=>by
 have nown:∀c y,H c=some (.own y)->c≠x:=fun c y r z=>by subst z;rw[r] at mu;exact mu
 have ntup:∀c xs,H c=some (.tup xs)->c≠x:=fun c xs r z=>by subst z;rw[r] at mu;exact mu
 by_cases hb:b=x
 ·subst hb;rw[ZD] at q;cases q;exact new
 ·rw[Zu hb] at q
  by_cases hbe:b=e
  ·have q':H b=some (.own x):=by
    rcases he with z|z
    ·exact absurd (hbe.trans z) hb
    ·rw[hbe];exact z
   rw[q] at q';cases q'
   obtain⟨v,hv⟩:=heo
   exact⟨v,by rw[hbe];exact hv⟩
  ·refine(ok b u q).stay (fun c v hc r=>k c v ?_ r) (fun c r=>by rw[Zu (nown c b r)];exact r) fun c xs r=>by rw[Zu (ntup c xs r)];exact r
   rcases hc with rfl|hc
   ·exact hbe
   ·rintro rfl
    rcases he with z|z
    ·exact nown c b hc z
    ·rw[hc] at z;cases z;exact hb rfl
end
structure Un (fs ex:List Addr) (H H':Hp) (h h':Heap):Prop where
 keep:∀b o,h.get? b=some o->H b=none->b ∉ fs->b ∉ ex->h'.get? b=some o
 slot:∀b o,h.get? b=some o->H b=none->b∈fs->b ∉ ex->∃sl,h'.get? b=some { o with slots:=sl }
 free:∀b o,h.get? b=some o->H b=none->b ∉ ex->H' b=none
 there:∀b o,h.get? b=some o->b ∉ ex->∃o',h'.get? b=some o'
 tups:∀b xs,H b=some (.tup xs)->H' b=some (.tup xs)
 frzs:∀b o u,H b=some (.frz o u)->H' b=some (.frz o u)
 tbls:∀b ps,H b=some (.tbl ps)->∃more,H' b=some (.tbl (ps++more))
section
variable {fs ex:List Addr}{H H1:Hp}{h h1 h':Heap}{a x e:Addr}{o:HO}
theorem Un.any (u:Un fs ex H H1 h h1) {b:Addr}{ob:Obj} (q:h.get? b=some ob) (n:H b=none) (hx:b ∉ ex):∃sl,h1.get? b=some { ob with slots:=sl }:=by
 by_cases hb:b∈fs
 ·exact u.slot b ob q n hb hx
 ·exact⟨ob.slots,u.keep b ob q n hb hx⟩
theorem Un.kept (k:∀b u,h.get? b=some u->h'.get? b=some u):Un fs ex H H h h':=
 ⟨fun b ob q _ _ _=>k b ob q,fun b ob q _ _ _=>⟨ob.slots,k b ob q⟩,fun _ _ _ n _=>n,fun b ob q _=>⟨ob,k b ob q⟩,fun _ _ q=>q,fun _ _ _ q=>q,fun _ ps q=>⟨#[],by rw[q];simp⟩⟩
theorem Un.refl:Un fs ex H H h h:=Un.kept fun _ _ q=>q
theorem Un.laid (k:∀b u,h.get? b=some u->h'.get? b=some u) (hp:h.objs.size<=a) (hn:H a=none):Un fs ex H (upd H a o) h h' where
 keep:=fun b u q _ _ _=>k b u q
 slot:=fun b u q _ _ _=>⟨u.slots,k b u q⟩
 free:=fun b u q n _=>by rw[Zu (Z0O (Z0E (Heap.lt_size q) hp))];exact n
 there:=fun b u q _=>⟨u,k b u q⟩
 tups:=fun b xs q=>by rw[Zu (Z0 q hn)];exact q
 frzs:=fun b u xs q=>by rw[Zu (Z0 q hn)];exact q
 tbls:=fun b ps q=>⟨#[],by rw[Zu (Z0 q hn),q];simp⟩
theorem Un.write (mu:Mut (H x)) (he:e=x\/H e=some (.own x)) (k:∀b u,b≠e->h.get? b=some u->h'.get? b=some u) (heo:∃u,h'.get? e=some u):Un fs ex H (upd H x o) h h':=by
 have hx:∀b,H b=none->b≠x:=fun b n z=>by subst z;rw[n] at mu;exact mu
 have hb:∀b,H b=none->b≠e:=fun b n z=>by
  subst z
  rcases he with r|r
  ·exact hx b n r
  ·rw[n] at r;cases r
 have hm:∀b u,H b=some u->¬Mut (some u)->b≠x:=fun b u q nm z=>by subst z;rw[q] at mu;exact nm mu
 refine⟨fun b u q n _ _=>k b u (hb b n) q,fun b u q n _ _=>⟨u.slots,k b u (hb b n) q⟩,fun b u q n _=>by rw[Zu (hx b n)];exact n,fun b u q _=>?_,
  fun b xs q=>by rw[Zu (hm b _ q fun z=>z)];exact q,fun b u xs q=>by rw[Zu (hm b _ q fun z=>z)];exact q,fun b ps q=>⟨#[],by rw[Zu (hm b _ q fun z=>z),q];simp⟩⟩
 by_cases hbe:b=e
 ·subst hbe;exact heo
 ·exact⟨u,k b u hbe q⟩
end
noncomputable def trk (h:Heap) (H:Hp):List Addr:=(List.range h.objs.size).filter fun a=>(H a).isSome
noncomputable def Zlq (h:Heap) (H:Hp):Heap:=PySem.W.hideAll h (trk h H)
theorem ZjE (h:Heap) (H:Hp):(Zlq h H).objs.size=h.objs.size:=PySem.W.hideAll_size _ _
theorem Zlp {h:Heap}{H:Hp}{b:Addr}{o:Obj} (e:h.get? b=some o) (n:H b=none):(Zlq h H).get? b=some o:=
 PySem.W.hideAll_get _ e fun hm=>by
  have q:(H b).isSome=true:=(Z1D.mp hm).2
  rw[n] at q;simp at q
theorem ZmO {h:Heap}{H:Hp}{b:Addr}{o:Obj} (e:(Zlq h H).get? b=some o):h.get? b=some o/\H b=none:=by
 have e':h.get? b=some o:=PySem.W.of_hideAll (trk h H) e
 refine⟨e', ?_⟩
 cases q:H b with
 |none=>rfl
 |some x =>
  have hm:b∈trk h H:=Z1D.mpr ⟨Z1a.mpr (Heap.lt_size e'),by simp[q]⟩
  have z:(Zlq h H).get? b=none:=PySem.W.hideAll_none (trk h H) hm
  rw[z] at e;cases e
noncomputable def Znu (g h:Heap) (L:Addr):List (Addr×Obj):=(List.range h.objs.size).filterMap fun a=>if a=L\/(g.get? a).isSome=true then none else (h.get? a).map fun o=>(a,o)
noncomputable def Zis (g h:Heap) (L d:Addr):List (Addr×Obj):=(Znu g h L).filter fun p=>decide (p.1≠d)
structure Mod (K:PySem.W.Frag) (mg:Str->Option Value) (base:Heap):Prop where
 kin:K.In base
 glob:base.Ns mainGlobals mg
 blt:∃mb,base.Ns builtinsNs mb/\∀x:Str,x ≠ "__name__"->mb x=bootBuiltins x
 nolimit:base.NoLimit
structure Cx where
 prog:Program
 w:World
 K:PySem.W.Frag
 mg:Str->Option Value
 base:Heap
 A:Around
 N:List Str
 s₀:Shared
 H₀:Hp
 env:Env
 outer:List Env
 stack:List Env
 ex:List Addr
 fn:Str->Bool
 calm:Bool
 pn:List (Addr×Obj)
 xe:Value->Shared->Prop
noncomputable def frs (l:List Env):List Addr:=l.filterMap (·.frame)
noncomputable abbrev Cx.fs (X:Cx):List Addr:=frs X.outer
def Vis (sc:Scope) (x:Str):Prop:=sc.names.lookup x=some .local\/sc.names.lookup x=some .cell\/sc.names.lookup x=some .free
def Loc (sc:Scope) (x:Str):Prop:=sc.names.lookup x=some .local\/sc.names.lookup x=some .cell
def ZqG (env:Env) (h:Heap) (m:Str->Option Value) (x:Str) (u:Value):Prop:=
 (env.kindOf x=some .local/\m x=some u)\/((env.kindOf x=some .cell\/env.kindOf x=some .free)/\∃c,env.cells.lookup x=some c/\h.IsCell c (some u))
structure Cx.Ok (X:Cx):Prop where
 mod:Mod X.K X.mg X.base
 kind:X.env.scope.kind=.function
 glob:X.env.globals=mainGlobals
 blt:X.env.builtins=builtinsNs
 above:X.s₀.heap.objs.size<=X.env.locals
 inj:∀x y c,X.env.cells.lookup x=some c->X.env.cells.lookup y=some c->x=y
 has:∀x,(X.env.kindOf x=some .cell\/X.env.kindOf x=some .free)->∃c,X.env.cells.lookup x=some c
 cab:∀x c,X.fn x=true->X.env.cells.lookup x=some c->X.s₀.heap.objs.size<=c
 hd:X.calm=true->X.A.handled=none
 frames:X.A.frames=some X.stack
 stk:X.stack=X.outer\/(X.stack=X.env::X.outer/\X.env.frame=some X.env.locals)
 exf:∀b∈X.ex,b≠X.env.locals/\∀x c,X.env.cells.lookup x=some c->c≠b
 bs:∀b o,X.base.get? b=some o->X.s₀.heap.get? b=some o/\X.H₀ b=none
 bsz:X.base.objs.size<=X.s₀.heap.objs.size
 noex:∀b o,X.base.get? b=some o->b ∉ X.ex
 exfs:∀b∈X.ex,b ∉ X.fs
 funs:X.s₀.heap.FunFrames X.base X.outer
 frf:∀b∈X.fs,X.H₀ b=none
structure Inv (X:Cx) (pins:List (Addr×Obj)) (σ:List (Option V)) (H:Hp) (s:Shared):Prop where
 ok:X.Ok
 os:s.os=X.s₀.os
 bare:AllBare s.gens
 base:Un X.fs X.ex X.H₀ H X.s₀.heap s.heap
 loc:∃m,s.heap.Ns X.env.locals m/\∀(i:Nat) (x:Str) (v:V),X.N[i]?=some x->σ[i]?=some (some v)->Vis X.env.scope x->∃u,Vj v u/\ZqG X.env s.heap m x u
 cell:∀x c,X.env.cells.lookup x=some c->∃v,s.heap.IsCell c v
 free:H X.env.locals=none
 freeC:∀x c,X.env.cells.lookup x=some c->H c=none
 pin:∀p∈X.pn++pins,s.heap.get? p.1=some p.2/\H p.1=none/\p.1≠X.env.locals/\p.1 ∉ X.fs/\∀v,p.2.data≠.cell v
 hok:HOk X.prog X.w H s.heap
 len:σ.length=X.N.length
section
variable {X:Cx}{pins:List (Addr×Obj)}{σ:List (Option V)}{H H':Hp}{s:Shared}{h':Heap}
theorem Cx.Ok.nofr (ok:X.Ok) {b:Addr}{o:Obj} (e:X.base.get? b=some o):b ∉ X.fs:=fun hb=>by
 have:=(ok.funs.mem hb).1
 rw[e] at this;cases this
theorem Inv.bs (I:Inv X pins σ H s):∀b o,X.base.get? b=some o->s.heap.get? b=some o/\H b=none:=fun b o e =>
 ⟨I.base.keep b o (I.ok.bs b o e).1 (I.ok.bs b o e).2 (I.ok.nofr e) (I.ok.noex b o e),I.base.free b o (I.ok.bs b o e).1 (I.ok.bs b o e).2 (I.ok.noex b o e)⟩
theorem Inv.bk (I:Inv X pins σ H s):∀b o,X.base.get? b=some o->s.heap.get? b=some o:=fun b o e=>(I.bs b o e).1
theorem Inv.mod (I:Inv X pins σ H s):Mod X.K X.mg X.base:=I.ok.mod
theorem Inv.kIn (I:Inv X pins σ H s):X.K.In s.heap:=I.ok.mod.kin.keeps I.bk
theorem Inv.lt (I:Inv X pins σ H s):X.env.locals<s.heap.objs.size:=let ⟨_,hn,_⟩:=I.loc;hn.lt
theorem Inv.sz (I:Inv X pins σ H s):X.s₀.heap.objs.size<=s.heap.objs.size:=Z0U I.ok.above (Nat.le_of_lt I.lt)
theorem Inv.nofs (I:Inv X pins σ H s) {a:Addr} (h:s.heap.objs.size<=a):a ∉ X.fs:=fun hb=>by
 obtain⟨_,o,ho,_⟩:=I.ok.funs.mem hb
 exact absurd (Z0E (Heap.lt_size ho) (Z0U I.sz h)) (Z1i _)
theorem Inv.cne (I:Inv X pins σ H s):∀x c,X.env.cells.lookup x=some c->c≠X.env.locals:=fun x c e z=>by
 obtain⟨v,o,ho,hd⟩:=I.cell x c e
 obtain⟨m,⟨o',es,ep,ho',hd',_⟩,_⟩:=I.loc
 rw[z,ho'] at ho;cases ho;rw[hd'] at hd;cases hd
theorem Inv.funs (I:Inv X pins σ H s):s.heap.FunFrames X.base X.outer:=by
 have all:∀(l:List Env),(∀b∈frs l,b∈X.fs)->X.s₀.heap.FunFrames X.base l->s.heap.FunFrames X.base l:=by
  intro l
  induction l with
  |nil=>intro _ _;trivial
  |cons env r ih =>
   intro hs hl
   obtain⟨hk,⟨L,o,hf,hn,ho,hd⟩,hr⟩:=hl
   have hL:L∈X.fs:=hs L (by unfold frs;rw[Z1E,hf];exact Z1q)
   obtain⟨sl,e⟩:=I.base.slot L o ho (I.ok.frf L hL) hL fun z=>I.ok.exfs L z hL
   exact⟨hk,⟨L,_,hf,hn,e,hd⟩,ih (fun b hb=>hs b (by unfold frs;rw[Z1E,hf];exact Z0P _ hb)) hr⟩
 exact all X.outer (fun _ hb=>hb) I.ok.funs
theorem Inv.stack (I:Inv X pins σ H s):s.heap.FunFrames X.base X.stack:=by
 rcases I.ok.stk with e|⟨e,hf⟩
 ·rw[e];exact I.funs
 ·rw[e]
  obtain⟨m,hn,_⟩:=I.loc
  refine .cons (by rw[I.ok.kind];decide) hf hn ?_ I.funs
  exact Heap.get?_none_of_le (Z0U I.ok.bsz I.ok.above)
theorem Inv.stkSub (I:Inv X pins σ H s):∀b∈frs X.stack,b∈X.env.locals::X.fs:=fun b hb=>by
 rcases I.ok.stk with e|⟨e,hf⟩
 ·rw[e] at hb;exact Z0P _ hb
 ·rw[e] at hb
  unfold frs at hb
  rw[Z1E,hf] at hb
  exact hb
theorem Inv.stkFree (I:Inv X pins σ H s):∀b∈frs X.stack,H b=none:=fun b hb=>by
 rcases Z0G.mp (I.stkSub b hb) with e|hb
 ·rw[e];exact I.free
 ·obtain⟨_,o,ho,_⟩:=I.ok.funs.mem hb
  exact I.base.free b o ho (I.ok.frf b hb) fun z=>I.ok.exfs b z hb
theorem Inv.step {g':Array GenState}{t':Nat}{d':Drawn}{ch:List Addr} (I:Inv X pins σ H s)
  (hch:∀b∈ch,(b∈X.ex\/X.s₀.heap.objs.size<=b)/\b≠X.env.locals/\(∀x c,X.env.cells.lookup x=some c->c≠b)/\∀p∈X.pn++pins,p.1≠b)
  (keep:∀b o,b≠X.env.locals->b ∉ X.fs->b ∉ ch->s.heap.get? b=some o->H b=none->h'.get? b=some o)
  (slot:∀b o,b≠X.env.locals->b∈X.fs->b ∉ ch->s.heap.get? b=some o->H b=none->∃sl,h'.get? b=some { o with slots:=sl }) (free:∀b o,b ∉ ch->s.heap.get? b=some o->H b=none->H' b=none)
  (there:∀b o,b ∉ ch->s.heap.get? b=some o->∃o',h'.get? b=some o')
  (tups:∀b xs,H b=some (.tup xs)->H' b=some (.tup xs)) (frzs:∀b o u,H b=some (.frz o u)->H' b=some (.frz o u)) (tbls:∀b ps,H b=some (.tbl ps)->∃more,H' b=some (.tbl (ps++more)))
  (ns:∀m,s.heap.Ns X.env.locals m->h'.Ns X.env.locals m) (hok:HOk X.prog X.w H' h') (hg:AllBare g') :
  Inv X pins σ H' { s with heap:=h',gens:=g',drawn:=d',toks:=t' }:=by
 have neL:∀b o,X.s₀.heap.get? b=some o->b≠X.env.locals:=fun b o e=>Z0O (Z0E (Heap.lt_size e) I.ok.above)
 have neC:∀b o,X.s₀.heap.get? b=some o->b ∉ X.ex->b ∉ ch:=fun b o e hx hb=>by
  rcases (hch b hb).1 with z|z
  ·exact hx z
  ·exact absurd (Z0E (Heap.lt_size e) z) (Z1i _)
 have cellK:∀x c,X.env.cells.lookup x=some c->∀v,s.heap.IsCell c v->h'.IsCell c v:=fun x c e v ⟨o,ho,hd⟩=>by
  have nch:c ∉ ch:=fun z=>(hch c z).2.2.1 x c e rfl
  by_cases hc:c∈X.fs
  ·obtain⟨sl,q⟩:=slot c o (I.cne x c e) hc nch ho (I.freeC x c e)
   exact⟨_,q,hd⟩
  ·exact⟨o,keep c o (I.cne x c e) hc nch ho (I.freeC x c e),hd⟩
 refine⟨I.ok,I.os,hg,⟨fun b o e n hb hx=>?_,fun b o e n hb hx=>?_,fun b o e n hx=>?_,fun b o e hx=>?_,fun b xs e=>tups b xs (I.base.tups b xs e),fun b o xs e=>frzs b o xs (I.base.frzs b o xs e),fun b ps e=>?_⟩, ?_,fun x c e=>?_, ?_,fun x c e=>?_,fun p hp=>?_,hok,I.len⟩
 ·exact keep b o (neL b o e) hb (neC b o e hx) (I.base.keep b o e n hb hx) (I.base.free b o e n hx)
 ·obtain⟨sl,e1⟩:=I.base.slot b o e n hb hx
  obtain⟨sl',e2⟩:=slot b _ (neL b o e) hb (neC b o e hx) e1 (I.base.free b o e n hx)
  exact⟨sl',e2⟩
 ·obtain⟨o',e1⟩:=I.base.there b o e hx
  exact free b o' (neC b o e hx) e1 (I.base.free b o e n hx)
 ·obtain⟨o',e1⟩:=I.base.there b o e hx
  exact there b o' (neC b o e hx) e1
 ·obtain⟨m1,e1⟩:=I.base.tbls b ps e
  obtain⟨m2,e2⟩:=tbls b _ e1
  exact⟨m1++m2,by rw[e2,Array.append_assoc]⟩
 ·obtain⟨m,hn,hl⟩:=I.loc
  refine⟨m,ns m hn,fun i x v e1 e2 e3=>?_⟩
  obtain⟨u,r,l⟩:=hl i x v e1 e2 e3
  refine⟨u,r, ?_⟩
  rcases l with l|⟨k,c,e,z⟩
  ·exact .inl l
  ·exact .inr ⟨k,c,e,cellK x c e _ z⟩
 ·obtain⟨v,z⟩:=I.cell x c e
  exact⟨v,cellK x c e v z⟩
 ·obtain⟨m,⟨o,_,_,ho,_⟩,_⟩:=I.loc
  exact free _ o (fun z=>(hch _ z).2.1 rfl) ho I.free
 ·obtain⟨v,o,ho,hd⟩:=I.cell x c e
  exact free c o (fun z=>(hch c z).2.2.1 x c e rfl) ho (I.freeC x c e)
 ·obtain⟨e,n,ne,nf,d⟩:=I.pin p hp
  have nch:p.1 ∉ ch:=fun z=>(hch p.1 z).2.2.2 p hp rfl
  exact⟨keep p.1 p.2 ne nf nch e n,free p.1 p.2 nch e n,ne,nf,d⟩
theorem Inv.un {t':Nat} (I:Inv X pins σ H s) (u:Un X.fs [] H H' s.heap h') (hok:HOk X.prog X.w H' h'):Inv X pins σ H' { s with heap:=h',toks:=t' }:=by
 obtain⟨m,⟨o,es,ep,ho,r⟩,_⟩:=id I.loc
 obtain⟨sl,hL⟩:=u.any ho I.free (by simp)
 exact I.step (g':=s.gens) (d':=s.drawn) (ch:=[]) (fun _ z=>nomatch z) (fun b o _ hb _ e n=>u.keep b o e n hb (by simp)) (fun b o _ hb _ e n=>u.slot b o e n hb (by simp)) (fun b o _ e n=>u.free b o e n (by simp)) (fun b o _ e=>u.there b o e (by simp)) u.tups u.frzs u.tbls (fun m' hm=>by
  obtain⟨o',es',ep',ho',r'⟩:=hm
  rw[ho] at ho';cases ho'
  exact⟨_,es',ep',hL,r'⟩) hok I.bare
theorem Inv.call {g':Array GenState}{t':Nat}{d':Drawn}{ch:List Addr} (I:Inv X pins σ H s) (u:Un (frs X.stack) ch H H' s.heap h') (hok:HOk X.prog X.w H' h') (hg:AllBare g')
  (hch:∀b∈ch,(b∈X.ex\/X.s₀.heap.objs.size<=b)/\b≠X.env.locals/\(∀x c,X.env.cells.lookup x=some c->c≠b)/\∀p∈X.pn++pins,p.1≠b) :
  Inv X pins σ H' { s with heap:=h',gens:=g',drawn:=d',toks:=t' }:=by
 obtain⟨m,⟨o,es,ep,ho,r⟩,_⟩:=id I.loc
 obtain⟨sl,hL⟩:=u.any ho I.free fun z=>(hch _ z).2.1 rfl
 exact I.step (ch:=ch) hch (fun b o hL hb hc e n=>u.keep b o e n (fun z=>(Z0G.mp (I.stkSub b z)).elim hL hb) hc) (fun b o _ _ hc e n=>u.any e n hc) (fun b o hc e n=>u.free b o e n hc) (fun b o hc e=>u.there b o e hc) u.tups u.frzs u.tbls (fun m' hm=>by
  obtain⟨o',es',ep',ho',r'⟩:=hm
  rw[ho] at ho';cases ho'
  exact⟨_,es',ep',hL,r'⟩) hok hg
theorem Inv.turned {t':Nat}{it:Addr} (I:Inv X pins σ H s) (k:∀b o,b≠it->s.heap.get? b=some o->h'.get? b=some o) (hn:H it=none) (hL:it≠X.env.locals)
  (h1:it∈X.ex\/X.s₀.heap.objs.size<=it) (h2:∀x c,X.env.cells.lookup x=some c->c≠it) (h3:∀p∈X.pn++pins,p.1≠it):Inv X pins σ H { s with heap:=h',toks:=t' }:=by
 have nit:∀b u,H b=some u->b≠it:=fun b u e z=>by rw[z,hn] at e;cases e
 refine I.step (g':=s.gens) (d':=s.drawn) (ch:=[it]) (fun b hb=>?_) (fun b o _ _ hc e _=>k b o (fun z=>hc (by simp[z])) e) (fun b o _ _ hc e _=>⟨o.slots,k b o (fun z=>hc (by simp[z])) e⟩) (fun _ _ _ _ n=>n)
  (fun b o hc e=>⟨o,k b o (fun z=>hc (by simp[z])) e⟩) (fun _ _ e=>e) (fun _ _ _ e=>e) (fun b ps e=>⟨#[],by rw[e];simp⟩) (fun m hm=>?_) (fun b u e=>?_) I.bare
 ·have e:b=it:=by simpa using hb
  subst e
  exact⟨h1,hL,h2,h3⟩
 ·obtain⟨o,es,ep,ho,r⟩:=hm
  exact⟨o,es,ep,k _ o (Ne.symm hL) ho,r⟩
 ·refine(I.hok b u e).stay (fun c v hc q=>k c v ?_ q) (fun _ q=>q) fun _ _ q=>q
  rcases hc with z|z
  ·rw[z];exact nit b u e
  ·exact nit c _ z
theorem Inv.tok (I:Inv X pins σ H s) (t:Nat):Inv X pins σ H { s with toks:=t }:=I.un (h':=s.heap) (t':=t) Un.refl I.hok
theorem Inv.kept {t':Nat} (I:Inv X pins σ H s) (k:∀b u,s.heap.get? b=some u->h'.get? b=some u):Inv X pins σ H { s with heap:=h',toks:=t' }:=I.un (Un.kept k) (I.hok.kept k)
theorem Inv.laid {a:Addr}{o:HO}{t':Nat} (I:Inv X pins σ H s) (k:∀b u,s.heap.get? b=some u->h'.get? b=some u) (hp:s.heap.objs.size<=a) (new:Uj X.prog X.w (upd H a o) h' a o) :
  Inv X pins σ (upd H a o) { s with heap:=h',toks:=t' }:=I.un (Un.laid k hp (I.hok.fresh hp)) (I.hok.laid k hp new)
theorem Inv.write {x e:Addr}{o:HO}{t':Nat} (I:Inv X pins σ H s) (mu:Mut (H x)) (he:e=x\/H e=some (.own x)) (k:∀b u,b≠e->s.heap.get? b=some u->h'.get? b=some u) (heo:∃u,h'.get? e=some u)
  (new:Uj X.prog X.w (upd H x o) h' x o):Inv X pins σ (upd H x o) { s with heap:=h',toks:=t' }:=I.un (Un.write mu he k heo) (I.hok.write mu he k heo new)
theorem Inv.pins_of {pins':List (Addr×Obj)} (I:Inv X pins σ H s) (h:∀p∈pins',s.heap.get? p.1=some p.2/\H p.1=none/\p.1≠X.env.locals/\p.1 ∉ X.fs/\∀v,p.2.data≠.cell v):Inv X pins' σ H s:=
 ⟨I.ok,I.os,I.bare,I.base,I.loc,I.cell,I.free,I.freeC,fun p hp=>(Z0F.mp hp).elim (fun z=>I.pin p (Z0C _ z)) (h p),I.hok,I.len⟩
theorem Zer {N:List Str} (hN:N.Nodup) {i j:Nat}{x:Str} (a:N[i]?=some x) (b:N[j]?=some x):i=j:=by
 obtain⟨h1,e1⟩:=Z0X.mp a
 obtain⟨h2,e2⟩:=Z0X.mp b
 exact(List.getElem_inj hN).mp (e1.trans e2.symm)
theorem ZeC {M:Model}{A:Around}{E:Value->Shared->Prop}{i:Nat}{x:Str}{v:V}{u:Value}{Q:Unit->Shared->Prop} (I:Inv X pins σ H s) (hN:X.N.Nodup) (hi:X.N[i]?=some x) (hx:Loc X.env.scope x) (r:Vj v u)
  (h:∀s',Inv X pins (σ.set i (some v)) H s'->(∃a,Heap.SameBut a s.heap s'.heap/\(a=X.env.locals\/X.env.cells.lookup x=some a))->Q () s') (hf:X.fn x=true\/X.env.scope.names.lookup x=some .local):wpAny M A (storeName X.env x u) Q E s:=by
 obtain⟨m,hn,hl⟩:=id I.loc
 have hcls:(X.env.scope.kind==.class || (X.env.scope.kind==.module&&X.env.locals != X.env.globals))=false:=by rw[I.ok.kind];rfl
 have hiσ:i<σ.length:=by rw[I.len];exact(Z0X.mp hi).1
 have cne:=I.cne
 have tracked:∀{a:Addr}{h':Heap},(∃o,s.heap.get? a=some o/\H a=none)->Heap.SameBut a s.heap h'->HOk X.prog X.w H h':=fun {a h'} ha hs b ob e=>by
  obtain⟨_,_,hfree⟩:=ha
  refine(I.hok b ob e).stay (fun c w' hc q=>(hs.2 c ?_).trans q) (fun _ q=>q) fun _ _ q=>q
  rintro rfl
  rcases hc with rfl|hc
  ·rw[hfree] at e;cases e
  ·rw[hfree] at hc;cases hc
 rcases hx with hk|hk
 ·refine wpAny_storeName_local hk hn (fun h' hn' hs=>?_) hcls
  obtain⟨oL,_,_,hoL,_⟩:=id hn
  refine h _ ⟨I.ok,I.os,I.bare,⟨fun b o e n hb hx=>?_,fun b o e n hb hx=>?_,I.base.free,fun b o e hx=>?_,I.base.tups,I.base.frzs,I.base.tbls⟩,⟨_,hn',fun j y v' e1 e2 e3=>?_⟩,fun y c e=>?_,I.free,I.freeC,fun p hp=>?_,tracked ⟨oL,hoL,I.free⟩ hs,by simpa using I.len⟩ ⟨_,hs,.inl rfl⟩
  ·exact(hs.2 b (Z0O (Z0E (Heap.lt_size e) I.ok.above))).trans (I.base.keep b o e n hb hx)
  ·obtain⟨sl,e1⟩:=I.base.slot b o e n hb hx
   exact⟨sl,(hs.2 b (Z0O (Z0E (Heap.lt_size e) I.ok.above))).trans e1⟩
  ·obtain⟨o',e1⟩:=I.base.there b o e hx
   exact⟨o',(hs.2 b (Z0O (Z0E (Heap.lt_size e) I.ok.above))).trans e1⟩
  ·by_cases hj:j=i
   ·subst hj
    rw[hi] at e1;cases e1
    rw[Z0M hiσ] at e2
    cases e2
    exact⟨u,r,.inl ⟨hk,by simp⟩⟩
   ·rw[Z0S (Ne.symm hj)] at e2
    obtain⟨u',r',q⟩:=hl j y v' e1 e2 e3
    refine⟨u',r', ?_⟩
    rcases q with ⟨k,e⟩|⟨k,c,e,z⟩
    ·refine .inl ⟨k, ?_⟩
     have:y≠x:=fun e=>hj (Zer hN e1 (e▸hi))
     simp[this,e]
    ·exact .inr ⟨k,c,e,z.sameBut hs (cne y c e)⟩
  ·obtain⟨w',z⟩:=I.cell y c e
   exact⟨w',z.sameBut hs (cne y c e)⟩
  ·obtain⟨e,n,ne,nf,d⟩:=I.pin p hp
   exact⟨(hs.2 p.1 ne).trans e,n,ne,nf,d⟩
 ·have hfn:X.fn x=true:=by
   rcases hf with z|z
   ·exact z
   ·rw[z] at hk;cases hk
  obtain⟨c,hc⟩:=I.ok.has x (.inl hk)
  obtain⟨w',z⟩:=I.cell x c hc
  refine wpAny_storeName_cell I.ok.kind hk hc z (fun h' hc' hs=>?_)
  obtain⟨oc,hoc,hocd⟩:=id z
  refine h { s with heap:=h' } ⟨I.ok,I.os,I.bare,⟨fun b o e n hb hx=>?_,fun b o e n hb hx=>?_,I.base.free,fun b o e hx=>?_,I.base.tups,I.base.frzs,I.base.tbls⟩,⟨m,hn.sameBut hs (Ne.symm (cne x c hc)),fun j y v' e1 e2 e3=>?_⟩,fun y c' e=>?_,I.free,I.freeC,fun p hp=>?_,tracked ⟨oc,hoc,I.freeC x c hc⟩ hs,by simpa using I.len⟩ ⟨c,hs,.inr hc⟩
  ·exact(hs.2 b (Z0O (Z0E (Heap.lt_size e) (I.ok.cab x c hfn hc)))).trans (I.base.keep b o e n hb hx)
  ·obtain⟨sl,e1⟩:=I.base.slot b o e n hb hx
   exact⟨sl,(hs.2 b (Z0O (Z0E (Heap.lt_size e) (I.ok.cab x c hfn hc)))).trans e1⟩
  ·obtain⟨o',e1⟩:=I.base.there b o e hx
   exact⟨o',(hs.2 b (Z0O (Z0E (Heap.lt_size e) (I.ok.cab x c hfn hc)))).trans e1⟩
  ·by_cases hj:j=i
   ·subst hj
    rw[hi] at e1;cases e1
    rw[Z0M hiσ] at e2
    cases e2
    exact⟨u,r,.inr ⟨.inl hk,c,hc,hc'⟩⟩
   ·rw[Z0S (Ne.symm hj)] at e2
    obtain⟨u',r',q⟩:=hl j y v' e1 e2 e3
    refine⟨u',r', ?_⟩
    rcases q with q|⟨k,c',e,z'⟩
    ·exact .inl q
    ·refine .inr ⟨k,c',e,z'.sameBut hs ?_⟩
     rintro rfl
     exact hj (Zer hN e1 (I.ok.inj _ _ _ e hc▸hi))
  ·by_cases hcc:c'=c
   ·subst hcc;exact⟨_,hc'⟩
   ·obtain⟨w2,z2⟩:=I.cell y c' e
    exact⟨w2,z2.sameBut hs hcc⟩
  ·obtain⟨e,n,ne,nf,d⟩:=I.pin p hp
   refine⟨(hs.2 p.1 ?_).trans e,n,ne,nf,d⟩
   intro q
   rw[q,hoc] at e
   have q':oc=p.2:=Option.some.inj e
   exact d w' (by rw[<- q'];exact hocd)
theorem ZbR {M:Model}{A:Around}{E:Value->Shared->Prop}{i:Nat}{x:Str}{v:V}{u:Value}{Q:Unit->Shared->Prop} (I:Inv X pins σ H s) (hN:X.N.Nodup) (hi:X.N[i]?=some x) (hx:Loc X.env.scope x) (r:Vj v u)
  (h:∀s',Inv X pins (σ.set i (some v)) H s'->Q () s') (hf:X.fn x=true\/X.env.scope.names.lookup x=some .local):wpAny M A (storeName X.env x u) Q E s:=
 ZeC I hN hi hx r (fun s' I' _=>h s' I') hf
theorem Inv.call' {s':Shared}{ch:List Addr} (I:Inv X pins σ H s) (ho:s'.os=s.os) (u:Un (frs X.stack) ch H H' s.heap s'.heap) (hok:HOk X.prog X.w H' s'.heap) (hg:AllBare s'.gens)
  (hch:∀b∈ch,(b∈X.ex\/X.s₀.heap.objs.size<=b)/\b≠X.env.locals/\(∀x c,X.env.cells.lookup x=some c->c≠b)/\∀p∈X.pn++pins,p.1≠b):Inv X pins σ H' s':=by
 obtain⟨h',g',d',t',o'⟩:=s'
 have e:o'=s.os:=ho
 subst e
 exact I.call (g':=g') (t':=t') (d':=d') u hok hg hch
end
noncomputable abbrev XK:=Value->Option Addr->Hp->Prop
noncomputable abbrev St:=List (Option V)
noncomputable abbrev VK:=V->Hp->Prop
noncomputable abbrev TE:=St->Hp->VK->Prop
noncomputable abbrev TT:=St->Hp->(Bool->Hp->Prop)->Prop
noncomputable abbrev TA:=St->Hp->(List V->Hp->Prop)->Prop
structure Zir where
 nx:St->Hp->Prop
 rt:VK
 bk:St->Hp->Prop:=fun _ _=>False
 ct:St->Hp->Prop:=fun _ _=>False
noncomputable abbrev TS:=Zir->St->Hp->Prop
def EP (X:Cx) (pins:List (Addr×Obj)) (σ:St) (Q:VK) (u:Value) (s':Shared):Prop:=∃v H',Inv X pins σ H' s'/\Vj v u/\Q v H'
def TP (X:Cx) (pins:List (Addr×Obj)) (σ:St) (Q:Bool->Hp->Prop) (b:Bool) (s':Shared):Prop:=∃H',Inv X pins σ H' s'/\Q b H'
def AP (X:Cx) (pins:List (Addr×Obj)) (σ:St) (Q:List V->Hp->Prop) (us:List Value) (s':Shared):Prop:=∃vs H',Inv X pins σ H' s'/\JD vs us/\Q vs H'
def SP (X:Cx) (pins:List (Addr×Obj)) (D:Zir) (f:Flow) (s':Shared):Prop:=
 match f with
 |.next=>∃σ' H',Inv X pins σ' H' s'/\D.nx σ' H'
 |.brk=>∃σ' H',Inv X pins σ' H' s'/\D.bk σ' H'
 |.cont=>∃σ' H',Inv X pins σ' H' s'/\D.ct σ' H'
 |.ret u=>∃v σ' H',Inv X pins σ' H' s'/\Vj v u/\D.rt v H'
def PE (X:Cx) (e:Expr) (t:TE):Prop:=
 ∀(pins:List (Addr×Obj)) (s:Shared) (σ:St) (H:Hp) (Q:VK),Inv X pins σ H s->t σ H Q->wpAny (model X.prog X.w) X.A (eval e X.env) (EP X pins σ Q) X.xe s
def PT (X:Cx) (e:Expr) (t:TT):Prop:=
 ∀(pins:List (Addr×Obj)) (s:Shared) (σ:St) (H:Hp) (Q:Bool->Hp->Prop),Inv X pins σ H s->t σ H Q->wpAny (model X.prog X.w) X.A (isTrue e X.env (eval e X.env)) (TP X pins σ Q) X.xe s
def PW (X:Cx) (e:Expr) (t:TT):Prop:=
 ∀(whole:Sem Value) (pins:List (Addr×Obj)) (s:Shared) (σ:St) (H:Hp) (Q:Bool->Hp->Prop),Inv X pins σ H s->t σ H Q->wpAny (model X.prog X.w) X.A (isTrue e X.env whole) (TP X pins σ Q) X.xe s
theorem PW.pt {X:Cx}{e:Expr}{t:TT} (h:PW X e t):PT X e t:=h _
def PA (X:Cx) (es:List Expr) (t:TA):Prop:=
 ∀(pos:Pos) (pins:List (Addr×Obj)) (s:Shared) (σ:St) (H:Hp) (Q:List V->Hp->Prop),Inv X pins σ H s->t σ H Q->wpAny (model X.prog X.w) X.A (spliced (backTo pos (starEach es X.env))) (AP X pins σ Q) X.xe s
def PS (X:Cx) (st:Stmt) (t:TS):Prop:=
 ∀(pins:List (Addr×Obj)) (s:Shared) (σ:St) (H:Hp) (D:Zir),Inv X pins σ H s->t D σ H->wpAny (model X.prog X.w) X.A (exec st X.env) (SP X pins D) X.xe s
def PSs (X:Cx) (st:List Stmt) (t:TS):Prop:=
 ∀(pins:List (Addr×Obj)) (s:Shared) (σ:St) (H:Hp) (D:Zir),Inv X pins σ H s->t D σ H->wpAny (model X.prog X.w) X.A (execs st X.env) (SP X pins D) X.xe s
theorem thn {α:Type}{t:Sem α}{Q Q':α->Shared->Prop}{M:Model}{A:Around}{E:Value->Shared->Prop}{s:Shared} (h:wpAny M A t Q E s) (hQ:∀a s,Q a s->Q' a s):wpAny M A t Q' E s:=wpAny_mono h hQ fun _ _ x=>x
section
variable {X:Cx}
noncomputable def ZfE (i:Nat):TE:=fun σ H Q=>∃v,σ[i]?=some (some v)/\Q v H
noncomputable def tC (v:V):TE:=fun _ H Q=>Q v H
theorem Zoi {i:Nat}{x:Str}{pos:Pos} (hN:X.N[i]?=some x) (hv:Vis X.env.scope x) (hd:(x==("__debug__":Str))=false:=by decide) (hcd:(x==("__classdict__":Str))=false:=by decide):PE X (.Name x pos) (ZfE i):=by
 intro pins s σ H Q I h
 obtain⟨v,e,h⟩:=h
 obtain⟨m,hn,hl⟩:=I.loc
 obtain⟨u,r,l⟩:=hl i x v hN e hv
 have fin:EP X pins σ Q u s:=⟨v,H,I,r,h⟩
 rcases l with ⟨hk,hm⟩|⟨hk,c,hc,hcell⟩
 ·exact wpAny_Name (wpAny_loadName_local I.ok.kind hk hn hm fin) hd
 ·rcases hk with hk|hk
  ·exact wpAny_Name (wpAny_loadName_cell I.ok.kind hk hc hcell fin) hd
  ·exact wpAny_Name (wpAny_loadName_free I.ok.kind hk hc hcell fin hcd) hd
theorem Zl {i j pos}:PE X (.Constant (.int i) j pos) (tC (.int i)):=fun _ _ _ H _ I h=>wpAny_Constant_int ⟨.int i,H,I.tok _,⟨_,rfl⟩,h⟩
theorem ZfT {b j pos}:PE X (.Constant (.bool b) j pos) (tC (.bl b)):=fun _ _ _ H _ I h=>Constant_bool ⟨.bl b,H,I,rfl,h⟩
theorem ZgJ {j pos}:PE X (.Constant .none j pos) (tC .non):=fun _ _ _ H _ I h=>Constant_none ⟨.non,H,I,rfl,h⟩
theorem Z6 {x j pos}:PE X (.Constant (.str x) j pos) (tC (.str x)):=fun _ _ _ H _ I h=>Calls.Constant_str ⟨.str x,H,I.tok _,⟨_,rfl⟩,h⟩
def Gl (X:Cx) (x:Str):Prop:=X.env.kindOf x=some .globalImplicit
theorem ZaS {E:Value->Shared->Prop}{pins:List (Addr×Obj)}{s:Shared}{σ:St}{H:Hp}{x:Str}{u:Value}{pos:Pos}{Q:Value->Shared->Prop} (I:Inv X pins σ H s) (hg:Gl X x) (hm:X.mg x=some u) (h:Q u s)
  (hd:(x==("__debug__":Str))=false:=by decide):wpAny (model X.prog X.w) X.A (eval (.Name x pos) X.env) Q E s:=
 Calls.Name_function_global I.ok.kind hg (Calls.loadGlobal_global (by rw[I.ok.glob];exact I.mod.glob.keeps I.bk) hm h) hd
theorem ZeW {E:Value->Shared->Prop}{pins:List (Addr×Obj)}{s:Shared}{σ:St}{H:Hp}{x:Str}{u:Value}{pos:Pos}{Q:Value->Shared->Prop} (I:Inv X pins σ H s) (hg:Gl X x) (hm:X.mg x=none) (hv:bootBuiltins x=some u) (h:Q u s)
  (hn:x ≠ "__name__":=by decide) (hd:(x==("__debug__":Str))=false:=by decide):wpAny (model X.prog X.w) X.A (eval (.Name x pos) X.env) Q E s:=by
 obtain⟨mb,h1,h2⟩:=I.mod.blt
 exact Calls.Name_function_global I.ok.kind hg (Calls.loadGlobal_builtin (by rw[I.ok.glob];exact I.mod.glob.keeps I.bk) hm (by rw[I.ok.blt];exact h1.keeps I.bk) ((h2 x hn).trans hv) h) hd
theorem J8 {x:Str}{v:V}{u:Value}{pos:Pos} (hg:Gl X x) (hm:X.mg x=some u) (r:Vj v u) (hd:(x==("__debug__":Str))=false:=by decide):PE X (.Name x pos) (tC v):=
 fun _ _ _ H _ I h=>ZaS I hg hm ⟨v,H,I,r,h⟩ hd
theorem Zcu {x:Str}{v:V}{u:Value}{pos:Pos} (hg:Gl X x) (hm:X.mg x=none) (hv:bootBuiltins x=some u) (r:Vj v u) (hn:x ≠ "__name__":=by decide) (hd:(x==("__debug__":Str))=false:=by decide):PE X (.Name x pos) (tC v):=
 fun _ _ _ H _ I h=>ZeW I hg hm hv ⟨v,H,I,r,h⟩ hn hd
variable {a b:Expr}{ta tb:TE}{pos:Pos}
noncomputable def tB (t:TE):TT:=fun σ H Q=>t σ H fun x H1=>∃c,x=.bl c/\Q c H1
theorem JN {e:Expr}{t:TE} (h:PE X e t) (he:∀whole,isTrue e X.env whole=(do let v <- whole;standAt e.pos;holding [v] (truthy v)):=by exact fun _=>rfl):PT X e (tB t):=by
 intro pins s σ H Q I hw
 refine isTrue_plain (thn (h pins s σ H _ I hw) fun v s1 ⟨x,H1,I1,r1,q1⟩=>?_) (he _)
 obtain⟨d,rfl,q⟩:=q1
 cases r1
 exact wpAny_truthy_bool ⟨H1,I1,q⟩
variable {tA tB':TT}{Zis:List Expr}
noncomputable def Zqw (t u:TT):TT:=fun σ H Q=>t σ H fun c H1=>if c=true then u σ H1 Q else Q false H1
noncomputable def tOr (t u:TT):TT:=fun σ H Q=>t σ H fun c H1=>if c=true then Q true H1 else u σ H1 Q
noncomputable def Zqs (t:TT):TT:=fun σ H Q=>t σ H fun c H1=>Q (!c) H1
theorem Zek (ha:PT X a tA):PW X (.BoolOp .And [a] pos) tA:=by
 intro wh pins s σ H Q I h
 refine isTrue_and (thn (ha pins s σ H Q I h) fun c s1 e=>?_)
 cases c with
 |true=>exact isTrue_and_nil e
 |false=>exact e
theorem ZaW (ha:PT X a tA):PW X (.BoolOp .Or [a] pos) tA:=by
 intro wh pins s σ H Q I h
 refine isTrue_or (thn (ha pins s σ H Q I h) fun c s1 e=>?_)
 cases c with
 |false=>exact isTrue_or_nil e
 |true=>exact e
theorem ZgF (ha:PT X a tA) (hb:PW X (.BoolOp .And (b::Zis) pos) tB'):PW X (.BoolOp .And (a::b::Zis) pos) (Zqw tA tB'):=by
 intro wh pins s σ H Q I h
 refine isTrue_and (thn (ha pins s σ H _ I h) fun c s1 ⟨H1,I1,q1⟩=>?_)
 cases c with
 |true=>exact hb wh pins s1 σ H1 Q I1 q1
 |false=>exact⟨H1,I1,q1⟩
theorem ZbW (ha:PT X a tA) (hb:PW X (.BoolOp .Or (b::Zis) pos) tB'):PW X (.BoolOp .Or (a::b::Zis) pos) (tOr tA tB'):=by
 intro wh pins s σ H Q I h
 refine isTrue_or (thn (ha pins s σ H _ I h) fun c s1 ⟨H1,I1,q1⟩=>?_)
 cases c with
 |true=>exact⟨H1,I1,q1⟩
 |false=>exact hb wh pins s1 σ H1 Q I1 q1
theorem JZ (ha:PT X a tA):PT X (.UnaryOp .Not a pos) (Zqs tA):=by
 intro pins s σ H Q I h
 exact isTrue_not (ha pins s σ H (fun c H1=>Q (!c) H1) I h)
noncomputable def ZnV (ta tb:TE):TE:=fun σ H Q=>ta σ H fun x H1=>∃c,x=.bl c/\if c=true then tb σ H1 Q else Q (.bl false) H1
noncomputable def Zqr (ta tb:TE):TE:=fun σ H Q=>ta σ H fun x H1=>∃c,x=.bl c/\if c=true then Q (.bl true) H1 else tb σ H1 Q
noncomputable def ZnO (ta:TE):TE:=fun σ H Q=>ta σ H fun x H1=>∃c,x=.bl c/\Q (.bl (!c)) H1
theorem ZcP {op}{t:TE} (h:PE X a t):PE X (.BoolOp op [a] pos) t:=fun pins s σ H Q I hw=>BoolOp_one (h pins s σ H Q I hw)
theorem ZcQ (ha:PE X a ta) (hb:PE X (.BoolOp .And (b::Zis) pos) tb):PE X (.BoolOp .And (a::b::Zis) pos) (ZnV ta tb):=by
 intro pins s σ H Q I h
 refine BoolOp_and (thn (ha pins s σ H _ I h) fun v s1 ⟨x,H1,I1,r1,q1⟩=>?_)
 obtain⟨c,rfl,q1⟩:=q1
 cases r1
 refine wpAny_truthy_bool ?_
 cases c with
 |true=>exact hb pins s1 σ H1 Q I1 q1
 |false=>exact⟨.bl false,H1,I1,rfl,q1⟩
theorem ZpF (ha:PE X a ta) (hb:PE X (.BoolOp .Or (b::Zis) pos) tb):PE X (.BoolOp .Or (a::b::Zis) pos) (Zqr ta tb):=by
 intro pins s σ H Q I h
 refine BoolOp_or (thn (ha pins s σ H _ I h) fun v s1 ⟨x,H1,I1,r1,q1⟩=>?_)
 obtain⟨c,rfl,q1⟩:=q1
 cases r1
 refine wpAny_truthy_bool ?_
 cases c with
 |false=>exact hb pins s1 σ H1 Q I1 q1
 |true=>exact⟨.bl true,H1,I1,rfl,q1⟩
theorem Zok (ha:PE X a ta):PE X (.UnaryOp .Not a pos) (ZnO ta):=by
 intro pins s σ H Q I h
 refine UnaryOp_ (thn (ha pins s σ H _ I h) fun v s1 ⟨x,H1,I1,r1,q1⟩=>?_)
 obtain⟨c,rfl,q1⟩:=q1
 cases r1
 exact not_of (wpAny_truthy_bool ⟨.bl (!c),H1,I1,rfl,q1⟩)
end
def SqL (K:W.Frag) (H:Hp) (a:Addr) (xs:List V):Prop:=
 Rd H a (.lst xs) \/
  ∃(o:Obj) (its:Array Value) (n:Nat),K.lookup a=some o/\o.cls=.type "list"/\o.dict=none/\o.data=.seq its n/\its.size<=sizeLine/\JD xs its.toList
def SqT (K:W.Frag) (H:Hp) (a:Addr) (xs:List V):Prop:=
 Rd H a (.tup xs) \/
  ∃(o:Obj) (its:Array Value) (n:Nat),K.lookup a=some o/\o.cls=.type "tuple"/\o.data=.seq its n/\its.size<=sizeLine/\JD xs its.toList
noncomputable def ZqX:Value->Option V
 |.none=>some .non
 |.bool b=>some (.bl b)
 |.int i _=>some (.int i)
 |.str x _=>some (.str x)
 |.bytes b _=>some (.byt b)
 |.float b _=>some (.flt b)
 |.ref a=>some (.ref a)
 |.type n=>some (.ty n)
 |_=>none
theorem Vj.abs {x:V}{u:Value} (r:Vj x u):ZqX u=some x:=by
 cases x with
 |non=>cases r;rfl
 |bl _=>cases r;rfl
 |int _=>obtain⟨t,rfl⟩:=r;rfl
 |str _=>obtain⟨t,rfl⟩:=r;rfl
 |byt _=>obtain⟨t,rfl⟩:=r;rfl
 |flt _=>obtain⟨t,rfl⟩:=r;rfl
 |ref _=>cases r;rfl
 |ty _=>cases r;rfl
theorem Vj.inj {x y:V}{u:Value} (r:Vj x u) (q:Vj y u):x=y:=Option.some.inj (r.abs.symm.trans q.abs)
theorem JD.inj:∀{xs ys:List V}{us:List Value},JD xs us->JD ys us->xs=ys
 |_,_,_,.nil,.nil=>rfl
 |_,_,_,.cons r t,.cons r' t'=>by rw[r.inj r',JD.inj t t']
section
variable {X:Cx}{pins:List (Addr×Obj)}{σ:St}{H:Hp}{s:Shared}{a:Addr}{xs ys:List V}
theorem SqL.of {K:W.Frag} (h:H a=some (.lst xs)):SqL K H a xs:=.inl (.inl h)
theorem Inv.list (I:Inv X pins σ H s) (h:SqL X.K H a xs):∃its:List Value,JD xs its/\PlainL s.heap a its.toArray/\xs.length<=sizeLine:=by
 rcases h with h|⟨o,its,n,hk,hc,hd,hs,hz,r⟩
 ·obtain⟨z,its,n,r,e⟩:=h.ok I.hok
  exact⟨its,r,⟨_,n,e,rfl,rfl,rfl⟩,z⟩
 ·refine⟨its.toList,r,⟨o,n,I.kIn a o hk,hc,hd,by simpa using hs⟩, ?_⟩
  have e:=r.length
  simp only[Z1j] at e
  omega
theorem Inv.tuple (I:Inv X pins σ H s) (h:SqT X.K H a xs):∃its:List Value,JD xs its/\IsTup s.heap a its.toArray/\xs.length<=sizeLine:=by
 rcases h with h|⟨o,its,n,hk,hc,hs,hz,r⟩
 ·obtain⟨z,its,r,p⟩:=h.ok I.hok
  exact⟨its,r,p,z⟩
 ·refine⟨its.toList,r,⟨o,I.kIn a o hk,hc,n,by simpa using hs⟩, ?_⟩
  have e:=r.length
  simp only[Z1j] at e
  omega
theorem Inv.list_inj (I:Inv X pins σ H s) (h:SqL X.K H a xs) (h':SqL X.K H a ys):xs=ys:=by
 obtain⟨its,r,⟨o,n,e,_,_,d⟩,_⟩:=I.list h
 obtain⟨its',r',⟨o',n',e',_,_,d'⟩,_⟩:=I.list h'
 rw[e] at e';cases e'
 rw[d] at d'
 injection d' with d1 _
 have:its=its':=by simpa using congrArg Array.toList d1
 subst this
 exact r.inj r'
end
noncomputable abbrev Cx.wish (X:Cx) (E:Value->Shared->Prop):Cx:={ X with xe:=E }
noncomputable abbrev Cx.nox (X:Cx):Cx:=X.wish fun _ _=>False
theorem Cx.Ok.wish {X:Cx} (ok:X.Ok) (E:Value->Shared->Prop):(X.wish E).Ok:=
 ⟨ok.mod,ok.kind,ok.glob,ok.blt,ok.above,ok.inj,ok.has,ok.cab,ok.hd,ok.frames,ok.stk,ok.exf,ok.bs,ok.bsz,ok.noex,ok.exfs,ok.funs,ok.frf⟩
theorem Cx.Ok.unwish {X:Cx}{E:Value->Shared->Prop} (ok:(X.wish E).Ok):X.Ok:=
 ⟨ok.mod,ok.kind,ok.glob,ok.blt,ok.above,ok.inj,ok.has,ok.cab,ok.hd,ok.frames,ok.stk,ok.exf,ok.bs,ok.bsz,ok.noex,ok.exfs,ok.funs,ok.frf⟩
section
variable {X:Cx}{pins:List (Addr×Obj)}{σ:St}{H:Hp}{s:Shared}{E:Value->Shared->Prop}
theorem Inv.wish (I:Inv X pins σ H s) (E:Value->Shared->Prop):Inv (X.wish E) pins σ H s:=⟨I.ok.wish E,I.os,I.bare,I.base,I.loc,I.cell,I.free,I.freeC,I.pin,I.hok,I.len⟩
theorem Inv.unwish (I:Inv (X.wish E) pins σ H s):Inv X pins σ H s:=⟨I.ok.unwish,I.os,I.bare,I.base,I.loc,I.cell,I.free,I.freeC,I.pin,I.hok,I.len⟩
theorem SP.unwish {D:Zir}{f:Flow}{s':Shared} (h:SP (X.wish E) pins D f s'):SP X pins D f s':=by
 cases f with
 |next=>obtain⟨σ',H',I,q⟩:=h;exact⟨σ',H',I.unwish,q⟩
 |brk=>obtain⟨σ',H',I,q⟩:=h;exact⟨σ',H',I.unwish,q⟩
 |cont=>obtain⟨σ',H',I,q⟩:=h;exact⟨σ',H',I.unwish,q⟩
 |ret u=>obtain⟨v,σ',H',I,r,q⟩:=h;exact⟨v,σ',H',I.unwish,r,q⟩
theorem PSs.nox {st:List Stmt}{t:TS} (h:PSs X.nox st t):PSs X st t:=fun pins s σ H D I hw =>
 wpAny_mono (h pins s σ H D (I.wish _) hw) (fun _ _ q=>q.unwish) fun _ _ z=>False.elim z
end
section
variable {X:Cx}{st:Stmt}{Zis:List Stmt}{t u:TS}{e:Expr}{te:TE}{pos:Pos}
noncomputable def ZnP:TS:=fun D σ H=>D.nx σ H
noncomputable def Zp6 (t u:TS):TS:=fun D σ H=>t { D with nx:=u D } σ H
theorem Z7:PSs X [] ZnP:=fun _ _ σ H _ I h=>wpAny_execs_nil ⟨σ,H,I,h⟩
theorem Zi (h1:PS X st t) (h2:PSs X Zis u):PSs X (st::Zis) (Zp6 t u):=by
 intro pins s σ H D I h
 refine wpAny_execs_cons (thn (h1 pins s σ H { D with nx:=u D } I h) fun f s1 q=>?_)
 cases f with
 |next =>
  obtain⟨σ',H',I',q⟩:=q
  exact h2 pins s1 σ' H' D I' q
 |ret v=>exact q
 |brk=>exact q
 |cont=>exact q
theorem Zj (h1:PS X st t):PSs X [st] t:=by
 intro pins s σ H D I h
 refine wpAny_execs_cons (thn (h1 pins s σ H D I h) fun f s1 q=>?_)
 cases f with
 |next=>exact wpAny_execs_nil q
 |ret v=>exact q
 |brk=>exact q
 |cont=>exact q
theorem Inv.quiet {pins:List (Addr×Obj)}{σ:St}{H:Hp}{s:Shared} (I:Inv X pins σ H s):interactive X.env=false:=by simp[interactive,I.ok.kind]
noncomputable def Zk6 (te:TE):TS:=fun D σ H=>te σ H fun _ H1=>D.nx σ H1
theorem ZM (he:PE X e te) (hs:swapsWith e none pos.line X.env=pure false:=by rfl):PS X (.Expr e pos) (Zk6 te):=by
 intro pins s σ H D I h
 exact wpAny_Expr_any (thn (he pins s σ H _ I h) fun v s1 ⟨x,H1,I1,r1,q1⟩=>⟨σ,H1,I1,q1⟩) I.quiet hs
noncomputable def Zpp (te:TE):TS:=fun D σ H=>te σ H D.rt
theorem Zz (he:PE X e te):PS X (.Return (some e) pos) (Zpp te):=by
 intro pins s σ H D I h
 exact wpAny_Return_some (thn (he pins s σ H _ I h) fun v s1 ⟨x,H1,I1,r1,q1⟩=>⟨x,σ,H1,I1,r1,q1⟩)
noncomputable def Zqt (c:TT) (t u:TS):TS:=fun D σ H=>c σ H fun b H1=>if b=true then t D σ H1 else u D σ H1
theorem Jo {c:Expr}{a b:List Stmt}{tc:TT} (hc:PT X c tc) (ha:PSs X a t) (hb:PSs X b u):PS X (.If c a b pos) (Zqt tc t u):=by
 intro pins s σ H D I h
 refine wpAny_If (thn (hc pins s σ H _ I h) fun d s1 ⟨H1,I1,q1⟩=>?_)
 cases d with
 |true=>exact ha pins s1 σ H1 D I1 q1
 |false=>exact hb pins s1 σ H1 D I1 q1
noncomputable def ZlL:TS:=fun _ _ _=>False
theorem J7 {sts:List Stmt}:PSs X sts ZlL:=fun _ _ _ _ _ _ h=>h.elim
end
noncomputable abbrev TG:=V->St->Hp->(St->Hp->Prop)->Prop
noncomputable abbrev TGs:=List V->St->Hp->(St->Hp->Prop)->Prop
def PG (X:Cx) (target:Expr) (t:TG):Prop:=
 ∀(pins:List (Addr×Obj)) (s:Shared) (σ:St) (H:Hp) (v:V) (u:Value) (Q:St->Hp->Prop),Inv X pins σ H s->Vj v u->t v σ H Q ->
  wpAny (model X.prog X.w) X.A (assign target X.env u) (fun _ s'=>∃σ' H',Inv X pins σ' H' s'/\Q σ' H') X.xe s
def PGs (X:Cx) (ts:List Expr) (t:TGs):Prop:=
 ∀(pins:List (Addr×Obj)) (s:Shared) (σ:St) (H:Hp) (vs:List V) (us:List Value) (Q:St->Hp->Prop),Inv X pins σ H s->JD vs us->t vs σ H Q ->
  wpAny (model X.prog X.w) X.A (assignInOrder ((assignEach ts X.env).map (·.2)) us) (fun _ s'=>∃σ' H',Inv X pins σ' H' s'/\Q σ' H') X.xe s
noncomputable abbrev Zpj:=V->V->V->Hp->(Hp->Prop)->Prop
def Zql (X:Cx) (t:Zpj):Prop:=
 ∀(pins:List (Addr×Obj)) (s:Shared) (σ:St) (H:Hp) (o i v:V) (ov iv u:Value) (Q:Hp->Prop),Inv X pins σ H s->Vj o ov->Vj i iv->Vj v u->t o i v H Q ->
  wpAny (model X.prog X.w) X.A (setItem ov iv u) (fun _ s'=>∃H',Inv X pins σ H' s'/\Q H') X.xe s
noncomputable abbrev TIp:=V->V->Hp->VK->Prop
def PIp (X:Cx) (op:Operator) (t:TIp):Prop:=
 ∀(pins:List (Addr×Obj)) (s:Shared) (σ:St) (H:Hp) (x y:V) (v u:Value) (Q:VK),Inv X pins σ H s->Vj x v->Vj y u->t x y H Q ->
  wpAny (model X.prog X.w) X.A (inplaceOp op v u) (EP X pins σ Q) X.xe s
section
variable {X:Cx}{pos:Pos}
noncomputable def Zd9 (i:Nat):TG:=fun v σ H Q=>Q (σ.set i (some v)) H
theorem ZaR {i:Nat}{x:Str} (hN:X.N.Nodup) (hi:X.N[i]?=some x) (hx:Loc X.env.scope x) (hf:X.fn x=true\/X.env.scope.names.lookup x=some .local:=by first|exact .inl rfl|exact .inr rfl|assumption):PG X (.Name x pos) (Zd9 i):=by
 intro pins s σ H v u Q I r h
 exact wpAny_assign_Name (ZbR I hN hi hx r (fun s' I'=>⟨_,H,I',h⟩) hf)
noncomputable def ZpX:TGs:=fun vs σ H Q=>vs=[]/\Q σ H
noncomputable def Zlv (t:TG) (u:TGs):TGs:=fun vs σ H Q=>∃v r,vs=v::r/\t v σ H fun σ' H'=>u r σ' H' Q
theorem ZfS:PGs X [] ZpX:=by
 intro pins s σ H vs us Q I r h
 obtain⟨e,h⟩:=h
 subst e
 cases r
 exact assignInOrder_nil ⟨σ,H,I,h⟩
theorem Zb5 {e:Expr}{es:List Expr}{t:TG}{u:TGs} (h1:PG X e t) (h2:PGs X es u)
  (hs:(assignEach (e::es) X.env).map (·.2)=assign e X.env::(assignEach es X.env).map (·.2):=by rfl):PGs X (e::es) (Zlv t u):=by
 intro pins s σ H vs us Q I r h
 obtain⟨v,vr,e1,h⟩:=h
 subst e1
 cases r with
 |cons r rr =>
  rw[hs]
  refine assignInOrder_cons (thn (h1 pins s σ H _ _ _ I r h) fun _ s1 ⟨σ1,H1,I1,q1⟩=>?_)
  exact h2 pins s1 σ1 H1 _ _ Q I1 rr q1
noncomputable def ZpW (K:W.Frag) (n:Nat) (t:TGs):TG:=fun v σ H Q=>∃a xs,v=.ref a/\SqT K H a xs/\xs.length=n/\t xs σ H Q
theorem ZiR {es:List Expr}{k:Nat}{t:TGs}{n:Nat} (hc:X.calm=true) (h:PGs X es t)
  (hn:(assignEach es X.env).length=n:=by rfl) (hst:(assignEach es X.env).findIdx? (·.1)=none:=by rfl):PG X (.Tuple es k pos) (ZpW X.K n t):=by
 intro pins s σ H v u Q I r hw
 obtain⟨a,xs,e1,hq,hl,hw⟩:=hw
 subst e1
 cases r
 obtain⟨its,rv,ht,hz⟩:=I.tuple hq
 refine assign_Tuple_tuple (I.ok.hd hc) ht (by simp[hn,<- hl,rv.length]) hst fun h' hx=>?_
 have I1:Inv X pins σ H { s with heap:=h' }:=I.kept (t':=s.toks) fun b o e=>hx b o (Z0O (Heap.lt_size e)) e
 exact h pins _ σ H xs _ Q I1 (by simpa using rv) hw
noncomputable def Zq9 (to ti:TE) (t:Zpj):TG:=fun v σ H Q=>to σ H fun o H1=>ti σ H1 fun i H2=>t o i v H2 fun H3=>Q σ H3
theorem ZlS {o i:Expr}{to ti:TE}{t:Zpj} (ho:PE X o to) (hi:PE X i ti) (hs:Zql X t)
  (ha:∀v,assign (.Subscript o i pos) X.env v=(do
   let ov <- holding [v] (eval o X.env)
   let iv <- holding [v,ov] (eval i X.env)
   standAt pos
   holding [v,ov,iv] (setItem ov iv v)
   release [v,ov,iv] []):=by exact fun _=>rfl):PG X (.Subscript o i pos) (Zq9 to ti t):=by
 intro pins s σ H v u Q I r h
 rw[ha]
 refine wpAny_bind (wpAny_holding (thn (ho pins s σ H _ I h) fun ov s1 ⟨x,H1,I1,r1,q1⟩=>?_))
 refine wpAny_bind (wpAny_holding (thn (hi pins s1 σ H1 _ I1 q1) fun iv s2 ⟨y,H2,I2,r2,q2⟩=>?_))
 refine wpAny_bind (wpAny_standAt (wpAny_bind (wpAny_holding (thn (hs pins s2 σ H2 x y v ov iv u _ I2 r1 r2 r q2) fun _ s3 ⟨H3,I3,q3⟩=>?_))))
 exact wpAny_release ⟨σ,H3,I3,q3⟩
noncomputable def Zn4 (te:TE) (g:TG):TS:=fun D σ H=>te σ H fun x H1=>g x σ H1 D.nx
theorem ZlR {tg e:Expr}{te:TE}{g:TG} (he:PE X e te) (hg:PG X tg g) (hs:swapsWithSole [tg] e pos.line X.env=pure false:=by rfl) (hw:swappedStores [tg] e X.env=pure none:=by rfl)
  (h1:(assignEach [tg] X.env).map (·.2)=[assign tg X.env]:=by rfl):PS X (.Assign [tg] e pos) (Zn4 te g):=by
 intro pins s σ H D I h
 refine wpAny_Assign_stores (thn (he pins s σ H _ I h) fun v s1 ⟨x,H1,I1,r1,q1⟩=>?_) hs hw
 rw[h1]
 exact thn (hg pins s1 σ H1 x v _ I1 r1 q1) fun _ s2 q=>q
theorem ZW {i:Nat}{x:Str}{e:Expr}{te:TE}{pos':Pos} (hN:X.N.Nodup) (hi:X.N[i]?=some x) (hx:Loc X.env.scope x) (he:PE X e te) (hs:swapsWith e (some (.Name x pos')) pos.line X.env=pure false:=by rfl) (hf:X.fn x=true\/X.env.scope.names.lookup x=some .local:=by first|exact .inl rfl|exact .inr rfl|assumption) :
  PS X (.Assign [.Name x pos'] e pos) (Zn4 te (Zd9 i)):=by
 intro pins s σ H D I h
 refine wpAny_Assign_Name (thn (he pins s σ H _ I h) fun v s1 ⟨y,H1,I1,r1,q1⟩=>?_) hs
 exact ZbR I1 hN hi hx r1 (fun s2 I2=>⟨_,H1,I2,q1⟩) hf
noncomputable def Zqv (i:Nat) (te:TE) (ti:TIp):TS:=fun D σ H=>∃x,σ[i]?=some (some x)/\te σ H fun y H1=>ti x y H1 fun z H2=>D.nx (σ.set i (some z)) H2
theorem ZlQ {i:Nat}{x:Str}{e:Expr}{te:TE}{op:Operator}{ti:TIp}{pos':Pos} (hN:X.N.Nodup) (hi:X.N[i]?=some x) (hx:Loc X.env.scope x) (he:PE X e te) (ho:PIp X op ti) (hf:X.fn x=true\/X.env.scope.names.lookup x=some .local:=by first|exact .inl rfl|exact .inr rfl|assumption) :
  PS X (.AugAssign (.Name x pos') op e pos) (Zqv i te ti):=by
 intro pins s σ H D I h
 obtain⟨v,e1,h⟩:=h
 obtain⟨m,hn,hl⟩:=I.loc
 have vis:Vis X.env.scope x:=by rcases hx with k|k;exact .inl k;exact .inr (.inl k)
 obtain⟨u,r,l⟩:=hl i x v hi e1 vis
 refine wpAny_AugAssign_Name ?_
 have go:wpAny (model X.prog X.w) X.A (eval e X.env) (fun w s₂=>wpAny (model X.prog X.w) X.A (inplaceOp op u w) (fun r s₃=>wpAny (model X.prog X.w) X.A (storeName X.env x r) (fun _=>SP X pins D .next) X.xe s₃) X.xe s₂) X.xe s:=by
  refine thn (he pins s σ H _ I h) fun w s1 ⟨y,H1,I1,r1,q1⟩=>?_
  refine thn (ho pins s1 σ H1 v y u w _ I1 r r1 q1) fun z s2 ⟨zv,H2,I2,r2,q2⟩=>?_
  exact ZbR I2 hN hi hx r2 (fun s3 I3=>⟨_,H2,I3,q2⟩) hf
 rcases l with ⟨hk,hm⟩|⟨hk,c,hc,hcell⟩
 ·exact wpAny_loadName_local I.ok.kind hk hn hm go
 ·rcases hk with hk|hk
  ·exact wpAny_loadName_cell I.ok.kind hk hc hcell go
  ·rcases hx with k|k
   ·have:X.env.scope.names.lookup x=some .free:=hk
    rw[k] at this;cases this
   ·have:X.env.scope.names.lookup x=some .free:=hk
    rw[k] at this;cases this
noncomputable def ZnU (to ti te:TE) (tget:V->V->Hp->VK->Prop) (tip:TIp) (tset:Zpj):TS:=fun D σ H=>to σ H fun o H1=>ti σ H1 fun i H2=>tget o i H2 fun x H3=>te σ H3 fun y H4=>tip x y H4 fun z H5=>tset o i z H5 fun H6=>D.nx σ H6
def Zqm (X:Cx) (t:V->V->Hp->VK->Prop):Prop:=
 ∀(pins:List (Addr×Obj)) (s:Shared) (σ:St) (H:Hp) (o i:V) (ov iv:Value) (Q:VK),Inv X pins σ H s->Vj o ov->Vj i iv->t o i H Q ->
  wpAny (model X.prog X.w) X.A (getItem ov iv) (EP X pins σ Q) X.xe s
theorem ZiP {o i e:Expr}{to ti te:TE}{tget:V->V->Hp->VK->Prop}{tip:TIp}{tset:Zpj}{op:Operator}{tpos:Pos} (ho:PE X o to) (hi:PE X i ti) (hg:Zqm X tget) (he:PE X e te) (hp:PIp X op tip) (hs:Zql X tset)
  (ha:∀ov iv new,augStore i ov iv new=(do holding [new,ov,iv] (setItem ov iv new);release [new,ov,iv] [];pure .next):=by intros;rfl):PS X (.AugAssign (.Subscript o i tpos) op e pos) (ZnU to ti te tget tip tset):=by
 intro pins s σ H D I h
 refine wpAny_AugAssign_SubscriptAny (thn (ho pins s σ H _ I h) fun ov s1 ⟨x1,H1,I1,r1,q1⟩=>?_) ha
 refine thn (hi pins s1 σ H1 _ I1 q1) fun iv s2 ⟨x2,H2,I2,r2,q2⟩=>?_
 refine thn (hg pins s2 σ H2 x1 x2 ov iv _ I2 r1 r2 q2) fun old s3 ⟨x3,H3,I3,r3,q3⟩=>?_
 refine thn (he pins s3 σ H3 _ I3 q3) fun v s4 ⟨x4,H4,I4,r4,q4⟩=>?_
 refine thn (hp pins s4 σ H4 x3 x4 old v _ I4 r3 r4 q4) fun new s5 ⟨x5,H5,I5,r5,q5⟩=>?_
 exact thn (hs pins s5 σ H5 x1 x2 x5 ov iv new _ I5 r1 r2 r5 q5) fun _ s6 ⟨H6,I6,q6⟩=>⟨σ,H6,I6,q6⟩
noncomputable def ipI (f:Int->Int->Int):TIp:=fun x y H Q=>∃i j,x=.int i/\y=.int j/\Q (.int (f i j)) H
theorem ZjA:PIp X .Add (ipI fun i j=>i+j):=by
 intro pins s σ H x y v u Q I r1 r2 h
 obtain⟨i,j,e1,e2,q⟩:=h
 subst e1;subst e2
 obtain⟨t,rfl⟩:=r1
 obtain⟨t',rfl⟩:=r2
 exact iadd_int ⟨.int _,H,I.tok _,⟨_,rfl⟩,q⟩
theorem ZoH:PIp X .Sub (ipI fun i j=>i-j):=by
 intro pins s σ H x y v u Q I r1 r2 h
 obtain⟨i,j,e1,e2,q⟩:=h
 subst e1;subst e2
 obtain⟨t,rfl⟩:=r1
 obtain⟨t',rfl⟩:=r2
 exact isub_int ⟨.int _,H,I.tok _,⟨_,rfl⟩,q⟩
noncomputable def ZlJ (c:TT) (tb:TS):TS:=fun D σ H=>∃W:Nat->St->Hp->Prop,(∃m,W m σ H)/\∀m σ H,W m σ H ->
 c σ H fun b H1=>if b=true then ∃N:St->Hp->Prop,(∀σ' H',N σ' H'->∃m',m'<m/\W m' σ' H')/\tb { D with nx:=N,ct:=N,bk:=D.nx } σ H1 else D.nx σ H1
theorem Zel {c:Expr}{body:List Stmt}{tc:TT}{tb:TS} (hp:PassesOwn (model X.prog X.w) X.A X.env X.xe) (hc:PT X c tc) (hb:PSs X body tb):PS X (.While c body [] pos) (ZlJ tc tb):=by
 intro pins s σ H D I h
 obtain⟨W,⟨m0,w0⟩,turn⟩:=h
 refine wpAny_While (codeAny_whileLoop (fun n s'=>∃σ' H',Inv X pins σ' H' s'/\W n σ' H') ?_ m0 ⟨σ,H,I,w0⟩)
 rintro n s1 ⟨σ1,H1,I1,w1⟩
 refine wpAny_passesOwn hp (thn (hc pins s1 σ1 H1 _ I1 (turn n σ1 H1 w1)) fun b s2 ⟨H2,I2,q2⟩=>?_)
 cases b with
 |true =>
  obtain⟨N,hN,q2⟩:=q2
  rw[if_pos rfl]
  refine wpAny_passesOwn hp (thn (hb pins s2 σ1 H2 _ I2 q2) fun f s3 q3=>?_)
  cases f with
  |next =>
   obtain⟨σ3,H3,I3,n3⟩:=q3
   obtain⟨m',hm,w3⟩:=hN σ3 H3 n3
   exact⟨m',hm,σ3,H3,I3,w3⟩
  |cont =>
   obtain⟨σ3,H3,I3,n3⟩:=q3
   obtain⟨m',hm,w3⟩:=hN σ3 H3 n3
   exact⟨m',hm,σ3,H3,I3,w3⟩
  |brk=>exact q3
  |ret v=>exact q3
 |false =>
  rw[if_neg Bool.false_ne_true]
  exact wpAny_execs_nil ⟨σ1,H2,I2,q2⟩
end
structure It where
 go:Nat->Hp->Prop
 yld:Nat->Hp->V->Hp->Prop
 stop:Nat->Hp->Prop
def Zkr (X:Cx) (pins:List (Addr×Obj)) (H:Hp) (b:Addr):Prop:=
 H b=none/\b≠X.env.locals/\b ∉ X.fs/\(b∈X.ex\/X.s₀.heap.objs.size<=b)/\(∀x c,X.env.cells.lookup x=some c->c≠b)/\∀p∈X.pn++pins,p.1≠b
theorem Inv.fpOk {X:Cx}{pins:List (Addr×Obj)}{σ:St}{H H':Hp}{s:Shared}{b:Addr} (I:Inv X pins σ H s) (hb:s.heap.objs.size<=b) (hn:H' b=none):Zkr X pins H' b:=by
 refine⟨hn,Z1H (Z0E I.lt hb),I.nofs hb,.inr (Z0U I.sz hb),fun x c e z=>?_,fun p hp z=>?_⟩
 ·obtain⟨v,q⟩:=I.cell x c e
  exact absurd (Z0E q.lt (by rw[z];exact hb)) (Z1i _)
 ·exact absurd (Z0E (Heap.lt_size (I.pin p hp).1) (by rw[z];exact hb)) (Z1i _)
structure Znw (P:Program) (w:World) (K:PySem.W.Frag) (tg:Expr) (J:It) (fp:List Addr) (it:Addr) (tn:Nat->Heap->Prop):Prop where
 mem:it∈fp
 obj:∀i h,tn i h->∀b∈fp,∃o,h.get? b=some o/\∀v,o.data≠.cell v
 keep:∀i h h',tn i h->(∀b∈fp,∀o,h.get? b=some o->h'.get? b=some o)->tn i h'
 item:∀(X:Cx),X.prog=P->X.w=w->X.K=K->X.calm=true->∀(i:Nat) (pins:List (Addr×Obj)) (s:Shared) (σ:St) (H:Hp) (E:Value->Shared->Prop),Inv X pins σ H s->(∀b∈fp,Zkr X pins H b)->tn i s.heap->J.go i H ->
  wpAny (model P w) X.A (pyNext (.ref it)) (fun r s1=>∃u,r=some u /\
   wpAny (model P w) X.A (letOwnedTupleGo tg (.ref it) u) (fun _ s2=>∃x H',Inv X pins σ H' s2/\Vj x u/\J.yld i H x H'/\tn (i+1) s2.heap/\∀b∈fp,H' b=none) E s1) E s
 done:∀(X:Cx),X.prog=P->X.w=w->X.K=K->X.calm=true->∀(i:Nat) (pins:List (Addr×Obj)) (s:Shared) (σ:St) (H:Hp) (E:Value->Shared->Prop),Inv X pins σ H s->(∀b∈fp,Zkr X pins H b)->tn i s.heap->J.stop i H ->
  wpAny (model P w) X.A (pyNext (.ref it)) (fun r s1=>r=none/\Inv X pins σ H s1) E s
 self:∀(A:Around) (i:Nat) (s:Shared) (Q:Value->Shared->Prop) (E:Value->Shared->Prop),tn i s.heap->Q (.ref it) s->wpAny (model P w) A (pyIter (.ref it)) Q E s
noncomputable abbrev TI:=St->Hp->(It->Hp->Prop)->Prop
def PIE (X:Cx) (pins:List (Addr×Obj)) (σ:St) (tg:Expr) (R:It->Hp->Prop) (itv:Value) (s2:Shared):Prop:=
 ∃(it:Addr) (fp:List Addr) (tn:Nat->Heap->Prop) (J:It) (H':Hp),itv=.ref it/\Inv X pins σ H' s2/\Znw X.prog X.w X.K tg J fp it tn/\tn 0 s2.heap/\(∀b∈fp,Zkr X pins H' b)/\R J H'
def PI (X:Cx) (tg iter:Expr) (wi:TI):Prop:=
 ∀(pins:List (Addr×Obj)) (s:Shared) (σ:St) (H:Hp) (R:It->Hp->Prop),Inv X pins σ H s->wi σ H R ->
  wpAny (model X.prog X.w) X.A (eval iter X.env) (fun v s1=>wpAny (model X.prog X.w) X.A (pyIter v) (PIE X pins σ tg R) X.xe s1) X.xe s
theorem Zls {M:Model}{A:Around}{E:Value->Shared->Prop}{s:Shared}{tg:Expr}{it:Addr}{u:Value}{o:Obj}{n:String}{vs:Array Value}{Q:Unit->Shared->Prop} (ho:s.heap.get? it=some o) (hc:o.cls=.type n) (hd:o.data=.fields vs)
  (hn:["enumerate", "zip", "dict_itemiterator", "dict_reverseitemiterator", "odict_iterator", "itertools.zip_longest", "itertools.pairwise"].contains n=false) (hQ:Q () s):wpAny M A (letOwnedTupleGo tg (.ref it) u) Q E s:=by
 unfold letOwnedTupleGo
 cases tg<;>first
  |exact wpAny_pure hQ
  |(cases u<;>first
    |exact wpAny_pure hQ
    |(refine wpAny_bind (wpAny_load ho ?_)
      rw[hc,hd]
      show wpAny M A (if (["enumerate", "zip", "dict_itemiterator", "dict_reverseitemiterator", "odict_iterator", "itertools.zip_longest", "itertools.pairwise"].contains n&&vs[0]?==some (rawInt _))=true then _ else _) Q E s
      rw[if_neg (by intro h;rw[hn,Bool.false_and] at h;cases h)]
      exact wpAny_pure hQ))
noncomputable def Itl (K:W.Frag) (a:Addr):It:=
 ⟨fun i H=>∃xs x,SqL K H a xs/\xs[i]?=some x,fun i H x H'=>H'=H/\∀xs,SqL K H a xs->xs[i]?=some x,fun i H=>∃xs,SqL K H a xs/\xs.length<=i⟩
noncomputable def Itr (lo:Int) (n:Nat):It:=⟨fun i _=>i<n,fun i H x H'=>H'=H/\x=.int (lo+i),fun i _=>n<=i⟩
theorem Zi0 {P:Program}{w:World}{K:W.Frag}{tg:Expr} (a it:Addr):Znw P w K tg (Itl K a) [it] it (fun i h=>h.IsListIter it a i) where
 mem:=by simp
 obj:=fun i h st b hb=>by
  have e:b=it:=by simpa using hb
  subst e
  obtain⟨o,e,c,d⟩:=st
  exact⟨o,e,fun v z=>by rw[d] at z;cases z⟩
 keep:=fun i h h' st k=>st.at fun o e=>k it (by simp) o e
 item:=by
  intro X hP hw hK hc i pins s σ H E I hf st hg
  subst hP hw hK
  obtain⟨xs,x,hq,hx⟩:=hg
  obtain⟨its,rv,p,hz⟩:=I.list hq
  obtain⟨u,hu,ru⟩:=rv.get hx
  obtain⟨f0,f1,f2,f3,f4,f5⟩:=hf it (by simp)
  refine wpAny_pyNext_list_item st p.isList (x:=u) (by simpa using hu) fun h' st' sb=>?_
  have I1:Inv X pins σ H { s with heap:=h' }:=I.turned (t':=s.toks) (fun b o hb e=>(sb.2 b hb).trans e) f0 f1 f3 f4 f5
  obtain⟨o,e,c,d⟩:=id st'
  exact⟨u,rfl,Zls (s:={ s with heap:=h' }) e c d (by decide) ⟨x,H,I1,ru,⟨rfl,fun ys hy=>by rw[I.list_inj hy hq];exact hx⟩,st',fun b hb=>(hf b hb).1⟩⟩
 done:=by
  intro X hP hw hK hc i pins s σ H E I hf st hg
  subst hP hw hK
  obtain⟨xs,hq,hx⟩:=hg
  obtain⟨its,rv,p,hz⟩:=I.list hq
  obtain⟨f0,f1,f2,f3,f4,f5⟩:=hf it (by simp)
  have hl:=rv.length
  exact wpAny_pyNext_list_end (I.ok.hd hc) st p.isList (by simp;omega) fun h' eb=>⟨rfl,I.turned (t':=s.toks) (fun b o hb e=>eb b o hb e) f0 f1 f3 f4 f5⟩
 self:=fun _ _ _ _ _ st h=>wpAny_pyIter_listiter st h
theorem Zh2 {P:Program}{w:World}{K:W.Frag}{tg:Expr} (it:Addr) (lo:Int) (n:Nat):Znw P w K tg (Itr lo n) [it] it (fun i h=>IsRangeIter h it (lo+(i:Nat)*1) ((n:Int)-(i:Nat)) 1) where
 mem:=by simp
 obj:=fun i h st b hb=>by
  have e:b=it:=by simpa using hb
  subst e
  exact⟨_,st,fun v z=>by
   have z':Data.fields _=Data.cell v:=z
   cases z'⟩
 keep:=fun i h h' st k=>k it (by simp) _ st
 item:=by
  intro X hP hw hK hc i pins s σ H E I hf st hg
  subst hP hw hK
  obtain⟨f0,f1,f2,f3,f4,f5⟩:=hf it (by simp)
  have W:=Walks.range (prog:=X.prog) (w:=X.w) (I.ok.hd hc) it lo 1 n
  refine W.item i s _ _ hg st fun v h' tk hv st' kk=>?_
  obtain⟨t,rfl⟩:=hv
  have I1:Inv X pins σ H { s with heap:=h',toks:=tk }:=I.turned (fun b o hb e=>kk b o (by simpa using hb) e) f0 f1 f3 f4 f5
  refine⟨_,rfl,Zls (s:={ s with heap:=h',toks:=tk }) (n := "range_iterator") st' rfl rfl (by decide) ⟨.int (lo+i),H,I1,⟨t, ?_⟩,⟨rfl,rfl⟩,st',fun b hb=>(hf b hb).1⟩⟩
  rw[Int.mul_one]
 done:=by
  intro X hP hw hK hc i pins s σ H E I hf st hg
  subst hP hw hK
  obtain⟨f0,f1,f2,f3,f4,f5⟩:=hf it (by simp)
  exact wpAny_pyNext_range_end (I.ok.hd hc) st (by have:n<=i:=hg;omega) fun h' eb=>⟨rfl,I.turned (t':=s.toks) (fun b o hb e=>eb b o hb e) f0 f1 f3 f4 f5⟩
 self:=fun _ _ _ _ _ st h=>wpAny_pyIter_rangeiter st h
section
variable {X:Cx}{tg:Expr}
noncomputable def Zln (K:W.Frag) (tl:TE):TI:=fun σ H R=>tl σ H fun x H1=>∃a,x=.ref a/\(∃xs,SqL K H1 a xs)/\R (Itl K a) H1
theorem Zm6 {l:Expr}{tl:TE} (hl:PE X l tl):PI X tg l (Zln X.K tl):=by
 intro pins s σ H R I h
 refine thn (hl pins s σ H _ I h) fun v s1 ⟨x,H1,I1,r1,q1⟩=>?_
 obtain⟨a,e,⟨xs,hq⟩,q⟩:=q1
 subst e
 cases r1
 obtain⟨its,rv,p,hz⟩:=I1.list hq
 refine wpAny_pyIter_list p.isList ?_
 refine⟨s1.heap.objs.size,[s1.heap.objs.size],_,_,H1,rfl,I1.kept (t':=s1.toks) fun b o e=>Heap.get?_push_of_some _ e,Zi0 a _,⟨_,Heap.get?_push_size _ rfl,rfl,rfl⟩,fun b hb=>?_,q⟩
 have e:b=s1.heap.objs.size:=by simpa using hb
 subst e
 exact I1.fpOk (Z0D _) (I1.hok.fresh (Z0D _))
theorem ZkC {pins:List (Addr×Obj)}{σ:St}{H:Hp}{s:Shared}{R:It->Hp->Prop}{E:Value->Shared->Prop}{lo hi:Int}{t u v:Tok}{tk:Nat} (I:Inv X pins σ H s) (h1:-(2^62)<=lo) (h2:lo<2^62) (h3:-(2^62)<=hi) (h4:hi<2^62)
  (q:R (Itr lo (hi-lo).toNat) H):wpAny (model X.prog X.w) X.A (pyIter (.ref s.heap.objs.size)) (PIE X pins σ tg R) E { s with heap:=s.heap.push { cls:=.type "range",data:=.fields #[.int lo t,.int hi u,.int 1 v] },toks:=tk }:=by
 refine wpAny_pyIter_range (IsRange.new ..) (small_one h1 h2 h3 h4) ?_
 have I1:Inv X pins σ H { s with heap:=s.heap.push { cls:=.type "range",data:=.fields #[.int lo t,.int hi u,.int 1 v] },toks:=tk }:=I.kept fun b o e=>Heap.get?_push_of_some _ e
 refine⟨(s.heap.push { cls:=.type "range",data:=.fields #[.int lo t,.int hi u,.int 1 v] }).objs.size,[(s.heap.push { cls:=.type "range",data:=.fields #[.int lo t,.int hi u,.int 1 v] }).objs.size],_,_,H,rfl,
  I1.kept (t':=tk) fun b o e=>Heap.get?_push_of_some _ e,Zh2 _ lo (hi-lo).toNat, ?_,fun b hb=>?_,q⟩
 ·have e1:lo+((0:Nat):Int)*1=lo:=by simp
  have e2:(((hi-lo).toNat:Nat):Int)-((0:Nat):Int)=Builtin.Range.rangeSize lo hi 1:=by rw[rangeSize_one];split<;>omega
  show IsRangeIter _ _ (lo+((0:Nat):Int)*1) ((((hi-lo).toNat:Nat):Int)-((0:Nat):Int)) 1
  rw[e1,e2]
  exact Heap.get?_push_size _ rfl
 ·have e:b=(s.heap.push { cls:=.type "range",data:=.fields #[.int lo t,.int hi u,.int 1 v] }).objs.size:=by simpa using hb
  subst e
  exact I1.fpOk (Z0D _) (I1.hok.fresh (Z0D _))
noncomputable def ZoJ (ta:TA):TI:=fun σ H R=>ta σ H fun vs H1=>∃j:Int,vs=[.int j]/\-(2^62)<=j/\j<2^62/\R (Itr 0 j.toNat) H1
theorem Zbv {a:Expr}{ta:TA}{p pos:Pos} (hg:Gl X "range") (hm:X.mg "range"=none) (ha:PA X [a] ta) (hs:starEach [a] X.env=[(false,eval a X.env)]:=by rfl):PI X tg (.Call (.Name "range" p) [a] [] pos) (ZoJ ta):=by
 intro pins s σ H R I h
 refine Call_ (ZeW I hg hm boot_range (PyProof.Rows.callWith_type1 (thn (ha pos pins s σ H _ I h) fun us s1 ⟨vs,H1,I1,r1,q1⟩=>?_) hs rfl))
 obtain⟨j,e,q1,q2,q⟩:=q1
 subst e
 cases r1 with
 |cons r rr =>
  cases rr
  obtain⟨t,rfl⟩:=r
  exact call_range_1 (ZkC I1 (by omega) (by omega) q1 q2 (by simpa using q))
noncomputable def Zqu (wi:TI) (g:TG) (tb:TS):TS:=fun D σ H=>wi σ H fun J H1=>∃W:Nat->Nat->St->Hp->Prop,(∃m,W 0 m σ H1)/\∀i m σ H,W i m σ H ->
 (J.stop i H/\D.nx σ H)\/(J.go i H/\∃N:St->Hp->Prop,(∀σ' H',N σ' H'->∃m',m'<m/\W (i+1) m' σ' H')/\∀x H',J.yld i H x H'->g x σ H' fun σ2 H2=>tb { D with nx:=N,ct:=N,bk:=D.nx } σ2 H2)
noncomputable def ZgI (fp:List Addr) (h:Heap):List (Addr×Obj):=fp.filterMap fun b=>(h.get? b).map fun o=>(b,o)
theorem V6 {fp:List Addr}{h:Heap}{b:Addr}{o:Obj} (hb:b∈fp) (e:h.get? b=some o):(b,o)∈ZgI fp h:=Z12.mpr ⟨b,hb,by rw[e];rfl⟩
theorem Zjo {fp:List Addr}{h:Heap}{p:Addr×Obj} (hp:p∈ZgI fp h):p.1∈fp/\h.get? p.1=some p.2:=by
 obtain⟨b,hb,e⟩:=Z12.mp hp
 cases q:h.get? b with
 |none=>rw[q] at e;cases e
 |some o =>
  rw[q] at e
  have e':(b,o)=p:=Option.some.inj e
  subst e'
  exact⟨hb,q⟩
theorem Inv.pinned {pins:List (Addr×Obj)}{σ:St}{H:Hp}{s:Shared}{fp:List Addr} (I:Inv X pins σ H s) (hf:∀b∈fp,Zkr X pins H b) (ho:∀b∈fp,∃o,s.heap.get? b=some o/\∀v,o.data≠.cell v):Inv X (pins++ZgI fp s.heap) σ H s:=
 I.pins_of fun p hp=>(Z0F.mp hp).elim (fun z=>I.pin p (Z0A _ z)) fun z=>by
  obtain⟨hb,e⟩:=Zjo z
  obtain⟨f0,f1,f2,_⟩:=hf p.1 hb
  obtain⟨o,e',d⟩:=ho p.1 hb
  rw[e] at e';cases e'
  exact⟨e,f0,f1,f2,d⟩
theorem Inv.unpinned {pins pl:List (Addr×Obj)}{σ:St}{H:Hp}{s:Shared} (I:Inv X (pins++pl) σ H s):Inv X pins σ H s:=I.pins_of fun p hp=>I.pin p (Z0A _ (Z0C _ hp))
theorem ZeK {iter:Expr}{body:List Stmt}{wi:TI}{g:TG}{tb:TS}{pos:Pos} (hp:PassesOwn (model X.prog X.w) X.A X.env X.xe) (hc:X.calm=true) (hi:PI X tg iter wi) (hg:PG X tg g) (hb:PSs X body tb)
  (hs:∀x,foldedSetIterable iter X.env x=pure x:=by exact fun _=>rfl):PS X (.For tg iter body [] pos) (Zqu wi g tb):=by
 intro pins s σ H D I h
 refine wpAny_For (thn (hi pins s σ H _ I h) fun v s1 h1=>thn h1 fun itv s2 h2=>?_) hs
 obtain⟨it,fp,tn,J,H2,e,I2,T,st2,f2,W,⟨m0,w0⟩,turn⟩:=h2
 subst e
 have stat:∀{H':Hp},(∀b∈fp,H' b=none)->∀b∈fp,Zkr X pins H' b:=fun hn b hb=>⟨hn b hb,(f2 b hb).2⟩
 refine codeAny_forLoop_any (fun n s'=>∃i σ' H',Inv X pins σ' H' s'/\tn i s'.heap/\(∀b∈fp,H' b=none)/\W i n σ' H') ?_ m0 ⟨0,σ,H2,I2,st2,fun b hb=>(f2 b hb).1,w0⟩
 rintro n s3 ⟨i,σ3,H3,I3,st3,fr3,w3⟩
 rcases turn i n σ3 H3 w3 with ⟨stop,qn⟩|⟨go,N,hN,step⟩
 ·refine wpAny_passesOwn hp (thn (T.done X rfl rfl rfl hc i pins s3 σ3 H3 X.xe I3 (stat fr3) st3 stop) fun r s4 ⟨hr,I4⟩=>?_)
  subst hr
  exact wpAny_execs_nil ⟨σ3,H3,I4,qn⟩
 ·refine wpAny_passesOwn hp (thn (T.item X rfl rfl rfl hc i pins s3 σ3 H3 X.xe I3 (stat fr3) st3 go) fun r s4 ⟨u,hr,h4⟩=>?_)
  subst hr
  refine wpAny_passesOwn hp (thn h4 fun _ s5 ⟨x,H5,I5,r5,y5,st5,fr5⟩=>?_)
  have I5':=I5.pinned (stat fr5) (T.obj _ _ st5)
  refine wpAny_passesOwn hp (thn (hg _ s5 σ3 H5 x u _ I5' r5 (step x H5 y5)) fun _ s6 ⟨σ6,H6,I6,q6⟩=>?_)
  refine wpAny_passesOwn hp (thn (hb _ s6 σ6 H6 _ I6 q6) fun f s7 q7=>?_)
  have again:∀{σ7:St}{H7:Hp},Inv X (pins++ZgI fp s5.heap) σ7 H7 s7->N σ7 H7->∃m,m<n/\∃i σ' H',Inv X pins σ' H' s7/\tn i s7.heap/\(∀b∈fp,H' b=none)/\W i m σ' H':=fun {σ7 H7} I7 n7=>by
   obtain⟨m',hm,w7⟩:=hN σ7 H7 n7
   refine⟨m',hm,i+1,σ7,H7,I7.unpinned,T.keep _ _ _ st5 fun b hb o e=>(I7.pin (b,o) (Z0A _ (Z0A _ (V6 hb e)))).1,fun b hb=>?_,w7⟩
   obtain⟨o,e,d⟩:=T.obj _ _ st5 b hb
   exact(I7.pin (b,o) (Z0A _ (Z0A _ (V6 hb e)))).2.1
  cases f with
  |next=>obtain⟨σ7,H7,I7,n7⟩:=q7;exact again I7 n7
  |cont=>obtain⟨σ7,H7,I7,n7⟩:=q7;exact again I7 n7
  |brk=>obtain⟨σ7,H7,I7,q7⟩:=q7;exact⟨σ7,H7,I7.unpinned,q7⟩
  |ret v=>obtain⟨x7,σ7,H7,I7,r7,q7⟩:=q7;exact⟨x7,σ7,H7,I7.unpinned,r7,q7⟩
end
noncomputable abbrev R2:=V->V->Hp->VK->Prop
def OpR (X:Cx) (f:Value->Value->Sem Value) (r:R2):Prop:=
 ∀(pins:List (Addr×Obj)) (s:Shared) (σ:St) (H:Hp) (x y:V) (v u:Value) (Q:VK),Inv X pins σ H s->Vj x v->Vj y u->r x y H Q ->
  wpAny (model X.prog X.w) X.A (f v u) (EP X pins σ Q) X.xe s
def UnR (X:Cx) (f:Value->Sem Value) (r:V->Hp->VK->Prop):Prop:=
 ∀(pins:List (Addr×Obj)) (s:Shared) (σ:St) (H:Hp) (x:V) (v:Value) (Q:VK),Inv X pins σ H s->Vj x v->r x H Q ->
  wpAny (model X.prog X.w) X.A (f v) (EP X pins σ Q) X.xe s
def ZbD (X:Cx) (f:Value) (r:List V->Hp->VK->Prop):Prop:=
 ∀(pins:List (Addr×Obj)) (s:Shared) (σ:St) (H:Hp) (xs:List V) (us:List Value) (Q:VK),Inv X pins σ H s->JD xs us->r xs H Q ->
  wpAny (model X.prog X.w) X.A (call f us) (EP X pins σ Q) X.xe s
noncomputable def tOp (r:R2) (ta tb:TE):TE:=fun σ H Q=>ta σ H fun x H1=>tb σ H1 fun y H2=>r x y H2 Q
noncomputable def tUn (r:V->Hp->VK->Prop) (ta:TE):TE:=fun σ H Q=>ta σ H fun x H1=>r x H1 Q
noncomputable def rI (C:Int->Int->Prop) (g:Int->Int->V):R2:=fun x y H Q=>∃i j,x=.int i/\y=.int j/\C i j/\Q (g i j) H
noncomputable def rI0 (g:Int->Int->V):R2:=fun x y H Q=>∃i j,x=.int i/\y=.int j/\Q (g i j) H
def rU (g:Int->V):V->Hp->VK->Prop:=fun x H Q=>∃i,x=.int i/\Q (g i) H
section
variable {X:Cx}{a b:Expr}{ta tb:TE}{pos:Pos}
theorem Zqj (ha:PE X a ta) (hb:PE X b tb) {pins:List (Addr×Obj)}{s:Shared}{σ:St}{H:Hp}{R:V->V->Hp->Prop} (I:Inv X pins σ H s)
  (h:ta σ H fun x H1=>tb σ H1 fun y H2=>R x y H2) {Q:Value->Shared->Prop}{f:Value->Value->Sem Value}
  (hf:∀v u s2 x y H2,Inv X pins σ H2 s2->Vj x v->Vj y u->R x y H2->wpAny (model X.prog X.w) X.A (f v u) Q X.xe s2) :
  wpAny (model X.prog X.w) X.A (eval a X.env) (fun v s₁=>wpAny (model X.prog X.w) X.A (eval b X.env) (fun u s₂=>wpAny (model X.prog X.w) X.A (f v u) Q X.xe s₂) X.xe s₁) X.xe s:=by
 refine thn (ha pins s σ H _ I h) fun v s1 ⟨x,H1,I1,r1,q1⟩=>?_
 refine thn (hb pins s1 σ H1 _ I1 q1) fun u s2 ⟨y,H2,I2,r2,q2⟩=>?_
 exact hf v u s2 x y H2 I2 r1 r2 q2
theorem ZF {op:Operator}{r:R2} (ho:OpR X (binaryOp op) r) (ha:PE X a ta) (hb:PE X b tb):PE X (.BinOp a op b pos) (tOp r ta tb):=by
 intro pins s σ H Q I h
 exact wpAny_BinOp (Zqj ha hb I h fun v u s2 x y H2 I2 rx ry q=>ho pins s2 σ H2 x y v u Q I2 rx ry q)
theorem Zoj {op:UnaryOp}{r:V->Hp->VK->Prop} (ho:UnR X (unaryOp op) r) (ha:PE X a ta):PE X (.UnaryOp op a pos) (tUn r ta):=by
 intro pins s σ H Q I h
 exact UnaryOp_ (thn (ha pins s σ H _ I h) fun v s1 ⟨x,H1,I1,r1,q1⟩=>ho pins s1 σ H1 x v Q I1 r1 q1)
theorem opI {f:Value->Value->Sem Value}{C:Int->Int->Prop}{g:Int->Int->Int}
  (rule:∀(i j:Int) (t u:Tok) (s:Shared) (Q:Value->Shared->Prop) (E:Value->Shared->Prop),C i j->Q (.int (g i j) s.toks) { s with toks:=s.toks+1 }->wpAny (model X.prog X.w) X.A (f (.int i t) (.int j u)) Q E s) :
  OpR X f (rI C fun i j=>.int (g i j)):=by
 intro pins s σ H x y v u Q I rx ry h
 obtain⟨i,j,rfl,rfl,hc,q⟩:=h
 obtain⟨t,rfl⟩:=rx
 obtain⟨t',rfl⟩:=ry
 exact rule i j t t' s _ _ hc ⟨.int (g i j),H,I.tok _,⟨_,rfl⟩,q⟩
theorem Zq6 {f:Value->Value->Sem Value}{g:Int->Int->Int}
  (rule:∀(i j:Int) (t u:Tok) (s:Shared) (Q:Value->Shared->Prop) (E:Value->Shared->Prop),Q (.int (g i j) s.toks) { s with toks:=s.toks+1 }->wpAny (model X.prog X.w) X.A (f (.int i t) (.int j u)) Q E s) :
  OpR X f (rI0 fun i j=>.int (g i j)):=by
 intro pins s σ H x y v u Q I rx ry h
 obtain⟨i,j,rfl,rfl,q⟩:=h
 obtain⟨t,rfl⟩:=rx
 obtain⟨t',rfl⟩:=ry
 exact rule i j t t' s _ _ ⟨.int (g i j),H,I.tok _,⟨_,rfl⟩,q⟩
theorem Zpw {f:Value->Value->Sem Value}{g:Int->Int->Bool}
  (rule:∀(i j:Int) (t u:Tok) (s:Shared) (Q:Value->Shared->Prop) (E:Value->Shared->Prop),Q (.bool (g i j)) s->wpAny (model X.prog X.w) X.A (f (.int i t) (.int j u)) Q E s) :
  OpR X f (rI0 fun i j=>.bl (g i j)):=by
 intro pins s σ H x y v u Q I rx ry h
 obtain⟨i,j,rfl,rfl,q⟩:=h
 obtain⟨t,rfl⟩:=rx
 obtain⟨t',rfl⟩:=ry
 exact rule i j t t' s _ _ ⟨.bl (g i j),H,I,rfl,q⟩
def ZnD (i j:Int):Prop:=0<=j/\j<=1000000/\i.natAbs<2^64
theorem JO:OpR X (binaryOp .Add) (rI0 fun i j=>.int (i+j)):=Zq6 fun _ _ _ _ _ _ _ q=>add_int q
theorem ZcU:OpR X (binaryOp .Sub) (rI0 fun i j=>.int (i-j)):=Zq6 fun _ _ _ _ _ _ _ q=>sub_int q
theorem J9:OpR X (binaryOp .Mod) (rI (fun _ j=>0<j) fun i j=>.int (i%j)):=opI fun i j _ _ _ _ _ hc q=>by
 have h1:(0:Int)<j:=hc
 exact mod_int' (by omega) (by rw[Int.fmod_eq_emod_of_nonneg i (by omega)];exact q)
theorem ZgP:OpR X (binaryOp .Pow) (rI ZnD fun i j=>.int (i^j.toNat)):=opI fun _ _ _ _ _ _ _ hc q=>pow_int_small hc.1 hc.2.1 hc.2.2 q
theorem unI {f:Value->Sem Value}{g:Int->Int}
  (rule:∀(i:Int) (t:Tok) (s:Shared) (Q:Value->Shared->Prop) (E:Value->Shared->Prop),Q (.int (g i) s.toks) { s with toks:=s.toks+1 }->wpAny (model X.prog X.w) X.A (f (.int i t)) Q E s) :
  UnR X f (rU fun i=>.int (g i)):=by
 intro pins s σ H x v Q I rx h
 obtain⟨i,rfl,q⟩:=h
 obtain⟨t,rfl⟩:=rx
 exact rule i t s _ _ ⟨.int (g i),H,I.tok _,⟨_,rfl⟩,q⟩
theorem ZlF:UnR X (unaryOp .USub) (rU fun i=>.int (-i)):=unI fun _ _ _ _ _ q=>neg_int q
variable {c:Expr}
theorem Zmk {pins:List (Addr×Obj)}{σ:St}{H:Hp}{s:Shared}{Q:VK}{k k':Bool} (I:Inv X pins σ H s) (q:Q (.bl k) H) (e:k=k'):EP X pins σ Q (.bool k') s:=by
 subst e
 exact⟨.bl k,H,I,rfl,q⟩
theorem ZkY:OpR X (compareOp .Lt) (rI0 fun i j=>.bl (decide (i<j))):=Zpw fun _ _ _ _ _ _ _ q=>lt_int q
theorem Zor:OpR X (compareOp .LtE) (rI0 fun i j=>.bl (decide (i<=j))):=Zpw fun _ _ _ _ _ _ _ q=>le_int q
theorem ZbZ:OpR X (compareOp .Gt) (rI0 fun i j=>.bl (decide (j<i))):=Zpw fun _ _ _ _ _ _ _ q=>gt_int q
theorem ZpO:OpR X (compareOp .GtE) (rI0 fun i j=>.bl (decide (j<=i))):=Zpw fun _ _ _ _ _ _ _ q=>ge_int q
theorem Zjl:OpR X (compareOp .In) (fun x y H Q=>∃i j,x=.str i/\y=.str j/\Q (.bl (!(Builtin.Str.occurrences j i 0 j.length 1).isEmpty)) H):=by
 intro pins s σ H x y v u Q I rx ry h
 obtain⟨i,j,rfl,rfl,q⟩:=h
 obtain⟨t,rfl⟩:=rx
 obtain⟨t',rfl⟩:=ry
 exact in_str (Zmk I q rfl)
theorem Zos:OpR X (compareOp .Is) (fun x y H Q=>y=.non/\Q (.bl (decide (x=.non))) H):=by
 intro pins s σ H x y v u Q I rx ry h
 obtain⟨rfl,q⟩:=h
 cases ry
 refine is_none_gen (Zmk I q ?_)
 cases x<;>first
  |(cases rx;rfl)
  |(obtain⟨t,rfl⟩:=rx;rfl)
theorem Z9 (b:Expr) {op:CmpOp} (h:op≠.In:=by decide) (h2:op≠.NotIn:=by decide):behindInMarks op b=false:=by
 have e1:(op==CmpOp.In)=false:=by cases op<;>first|rfl|exact absurd rfl h
 have e2:(op==CmpOp.NotIn)=false:=by cases op<;>first|rfl|exact absurd rfl h2
 cases b<;>simp[behindInMarks,e1,e2]
theorem JV {op:CmpOp}{r:R2} (ho:OpR X (compareOp op) r) (ha:PE X a ta) (hb:PE X b tb) (hm:behindInMarks op b=false):PE X (.Compare a [op] [b] pos) (tOp r ta tb):=by
 intro pins s σ H Q I h
 exact wpAny_Compare1 (Zqj ha hb I h fun v u s2 x y H2 I2 rx ry q=>ho pins s2 σ H2 x y v u Q I2 rx ry q) hm
noncomputable def ZnN (t:TE):TT:=fun σ H Q=>t σ H fun x H'=>∃k,x=.bl k/\Q k H'
theorem Z2 {op:CmpOp}{r:R2} (ho:OpR X (compareOp op) r) (ha:PE X a ta) (hb:PE X b tb) (hm:behindInMarks op b=false):PT X (.Compare a [op] [b] pos) (ZnN (tOp r ta tb)):=by
 intro pins s σ H Q I h
 refine wpAny_isTrue_Compare1 (thn (ha pins s σ H _ I h) fun v s1 ⟨x,H1,I1,r1,q1⟩=>thn (hb pins s1 σ H1 _ I1 q1) fun u s2 ⟨y,H2,I2,r2,q2⟩ =>
  thn (ho pins s2 σ H2 x y v u _ I2 r1 r2 q2) fun c s3 ⟨z,H3,I3,r3,k,e,q3⟩=>?_) hm
 subst e
 cases r3
 exact wpAny_truthy_bool ⟨H3,I3,q3⟩
theorem ZdN:(sizeLine:Nat)<2^63:=by rw[sizeLine_eq];decide
theorem ZhK:OpR X (binaryOp .Add) (fun x y H Q=>∃i j,x=.str i/\y=.str j/\i.length+j.length<=sizeLine/\Q (.str (i++j)) H):=by
 intro pins s σ H x y v u Q I rx ry h
 obtain⟨i,j,rfl,rfl,hz,q⟩:=h
 obtain⟨t,rfl⟩:=rx
 obtain⟨t',rfl⟩:=ry
 exact add_str (fun t' tk=>⟨.str (i++j),H,I.tok _,⟨_,rfl⟩,q⟩) hz
theorem ZfC {x:V}{us:List Value} (r:JD [x] us):∃u,us=[u]/\Vj x u:=by
 cases r with
 |cons r1 r2=>cases r2;exact⟨_,rfl,r1⟩
theorem ZnG {x y:V}{us:List Value} (r:JD [x,y] us):∃u w',us=[u,w']/\Vj x u/\Vj y w':=by
 cases r with
 |cons r1 r2 =>
  cases r2 with
  |cons r3 r4=>cases r4;exact⟨_,_,rfl,r1,r3⟩
theorem Zfw:ZbD X (.type "str") (fun xs H Q=>∃i,xs=[.int i]/\i.natAbs.log2<1920/\Q (.str (toString i)) H):=by
 intro pins s σ H xs us Q I r h
 obtain⟨i,rfl,hz,q⟩:=h
 obtain⟨u,rfl,t,rfl⟩:=ZfC r
 exact PySem.P.str_of_int hz ⟨.str _,H,I.tok _,⟨_,rfl⟩,q⟩
end
structure Zms (h:Heap) (x dx C:Addr) (mA:Str->Option Value):Prop where
 obj:h.get? x=some (PySem.W.instObj C dx)
 ns:h.Ns1 dx mA
 ne:dx≠x
theorem Zdd {h:Heap}{dx:Addr}{mA:Str->Option Value} (n:h.Ns1 dx mA):∃od,h.get? dx=some od/\∀name,PySem.W.lookIn name od=some (mA name):=by
 obtain⟨o,es,ep,ho,hd,hk,_,hm⟩:=n
 refine⟨o,ho,fun name=>?_⟩
 have e:=hm name
 unfold nsFind findBy at e
 rw[<- Array.find?_toList] at e
 unfold PySem.W.lookIn
 rw[hd]
 dsimp only
 split
 ·rename_i y q
  rw[q] at e
  exact congrArg some e
 ·rename_i q
  rw[q] at e
  have a:es.toList.any (·.refKey)=false:=by
   rw[List.any_eq_false]
   intro y hy
   obtain⟨z,t,hkey⟩:=hk y (Array.mem_toList_iff.mp hy)
   simp[DictEntry.refKey,hkey]
  have a':¬es.toList.any (·.refKey)=true:=by rw[a];exact Bool.false_ne_true
  rw[if_neg a']
  exact congrArg some e
theorem Zms.look {h:Heap}{x dx C:Addr}{mA:Str->Option Value} (I:Zms h x dx C mA):∃od,PySem.W.InstAt h x (PySem.W.instObj C dx) C (some od)/\∀name,PySem.W.lookIn name od=some (mA name):=
 let ⟨od,ho,hl⟩:=Zdd I.ns
 ⟨od,⟨I.obj,rfl,rfl,ho⟩,hl⟩
section
variable {prog:Program}{w:World}{A:Around}{E:Value->Shared->Prop}{s:Shared}{K:W.Frag}{x dx C f:Addr}{mA:Str->Option Value}{name:Str}{v:Value}
theorem Znc {expr:Bool}{Q:Value->Shared->Prop} (X:K.In s.heap) (I:Zms s.heap x dx C mA) (hg:PySem.W.plainGet K C name=true) (hh:PySem.W.hasDictIn K C=true)
  (ha:PySem.W.findIn K (.ref C) name=some none) (hv:mA name=some v) (hv':PySem.W.handedIn v=true) (h:Q v { s with toks:=s.toks+1 }) :
  wpAny (model prog w) A (getAttr (.ref x) name expr) Q E s:=by
 obtain⟨od,J,hl⟩:=I.look
 exact PySem.W.get_value X J (PySem.W.plainGet_of hg).1 (PySem.W.findObj_own hh ha rfl (by rw[hl,hv])) hv' h
theorem Zlt {pl:Sem Bool}{Q:Value×List Value->Shared->Prop} (X:K.In s.heap) (I:Zms s.heap x dx C mA) (hg:PySem.W.plainGet K C name=true)
  (hf:PySem.W.findIn K (.ref C) name=some (some (.ref f))) (ht:PySem.W.isFn K (.ref f)=true) (hv:mA name=none) (h:Q (.ref f,[.ref x]) s) :
  wpAny (model prog w) A (getMethod (.ref x) name pl) Q E s:=by
 obtain⟨od,J,hl⟩:=I.look
 exact PySem.W.method_fn X J (PySem.W.plainGet_of hg).1 (PySem.W.plainGet_of hg).2 hf (beq_iff_eq.mp ht) (by show (PySem.W.lookIn name od).map (·.isSome)=some false;rw[hl,hv];rfl) h
theorem Zm2 {ns:List Str}{Q:Unit->Shared->Prop} (X:K.In s.heap) (I:Zms s.heap x dx C mA)
  (hs:PySem.W.findIn K (.ref C) "__setattr__"=some (some (.builtin "object.__setattr__"))) (hp:PySem.W.plainOver K C=true) (ht:PySem.W.takerIn K C name=some none) (hh:PySem.W.hasDictIn K C=true)
  (hw:PySem.Within mA ns) (hsz:ns.length<=sizeLine)
  (h:∀h',Zms h' x dx C (fun y=>if y=name then some v else mA y)->Heap.SameBut dx s.heap h'->Q () { s with heap:=h',toks:=s.toks+2 }) :
  wpAny (model prog w) A (setAttr (.ref x) name v) Q E s:=by
 obtain⟨od,J,hl⟩:=I.look
 refine PySem.W.set_plain X J hs (PySem.W.osa_open (s:={ s with toks:=s.toks+1 }) (r:=none) X J hp ht fun b=>?_)
 obtain⟨cd,hc,hd'⟩:=PySem.W.any_some hh
 have hx:s.heap.get? x=some ⟨.ref C,some dx,.plain,#[]⟩:=I.obj
 refine wpAny_bind (wpAny_pure (wpAny_bind (wpAny_bind (wpAny_loadPart hx (wpAny_bind (PySem.W.Looks.here (s:={ s with toks:=s.toks+1 }) (PySem.W.looks_clsIn X hc) ?_))))))
 rw[hd']
 refine wpAny_pure (a:=some dx) (wpAny_bind (wpAny_pure (wpAny_bind ?_)))
 refine wpAny_nsSet1 (s:={ s with toks:=s.toks+1 }) I.ns fun h' hn2 hs2=>?_
 obtain⟨oD,esD,epD,hoD,hdD,hcD⟩:=hn2.count (PySem.Within.cons name v hw)
 refine wpAny_bind (wpAny_lookBehind hoD (by rw[hdD];exact pastItsLine_dict (Z0U hcD (by rw[Z0T];omega))) ?_)
 exact wpAny_pure (h _ ⟨(hs2.2 _ (Ne.symm I.ne)).trans I.obj,hn2,I.ne⟩ hs2)
theorem Zlf {R:Result->Shared->Prop}{vs:List Value}{kw:List (Str×Value)} (X:K.In s.heap) (hm:PySem.W.makesIn K C=true)
  (hi:PySem.W.findIn K (.ref C) "__init__"=some (some (.ref f))) (hf:PySem.W.typeIn K (.ref f)=some (.type "function"))
  (h:codeAny (model prog w) (A.under (.builtin "type.__call__" ⟨.ref C::vs,kw⟩)) (.call (.ref f) ⟨.ref (s.heap.objs.size+1)::vs,kw⟩) (PySem.W.InitBack (s.heap.objs.size+1) R)
   { s with heap:=(s.heap.push PySem.W.emptyDict).push (PySem.W.instObj C s.heap.objs.size) }) :
  codeAny (model prog w) A (.call (.ref C) ⟨vs,kw⟩) R s:=by
 obtain⟨hh,g,d,t,os⟩:=s
 exact PySem.W.make_core (PySem.W.makes_of X hm) (PySem.W.looks_findIn X hi) (fun self=>PySem.W.bind_fn X self hf) (.inl rfl) h
end
noncomputable def ZdD (f:Str) (v:V):List (Str×V)->List (Str×V)
 |[]=>[(f,v)]
 |(g,x)::r=>if g=f then (g,v)::r else (g,x)::ZdD f v r
theorem Zdc (f g:Str) (v:V):∀fs:List (Str×V),(ZdD f v fs).lookup g=if g=f then some v else fs.lookup g
 |[]=>by
  show Z1o g [(f,v)]=_
  by_cases h:g=f
  ·have hb:(g==f)=true:=beq_iff_eq.mpr h
   simp only[Z1o,hb,if_pos h]
  ·have hb:(g==f)=false:=beq_eq_false_iff_ne.mpr h
   simp only[Z1o,hb,if_neg h]
 |(k,x)::r=>by
  have ih:=Zdc f g v r
  rw[show ZdD f v ((k,x)::r)=(if k=f then (k,v)::r else (k,x)::ZdD f v r) from rfl]
  by_cases hk:k=f
  ·rw[if_pos hk]
   by_cases h:g=k
   ·have hb:(g==k)=true:=beq_iff_eq.mpr h
    simp only[Z1o,hb,if_pos (h.trans hk)]
   ·have hb:(g==k)=false:=beq_eq_false_iff_ne.mpr h
    simp only[Z1o,hb,if_neg (fun e:g=f=>h (e.trans hk.symm))]
  ·rw[if_neg hk]
   by_cases h:g=k
   ·have hb:(g==k)=true:=beq_iff_eq.mpr h
    simp only[Z1o,hb,if_neg (fun e:g=f=>hk (h.symm.trans e))]
   ·have hb:(g==k)=false:=beq_eq_false_iff_ne.mpr h
    simp only[Z1o,hb]
    exact ih
theorem Zdi (f:Str) (v:V):∀fs:List (Str×V),f∈(ZdD f v fs).map (·.1)/\∀g,g∈fs.map (·.1)->g∈(ZdD f v fs).map (·.1)
 |[]=>⟨by simp[ZdD],fun g h=>by simp at h⟩
 |(k,x)::r=>by
  obtain⟨i1,i2⟩:=Zdi f v r
  rw[show ZdD f v ((k,x)::r)=(if k=f then (k,v)::r else (k,x)::ZdD f v r) from rfl]
  by_cases hk:k=f
  ·rw[if_pos hk]
   subst hk
   exact⟨by simp,fun g h=>by simpa using h⟩
  ·rw[if_neg hk]
   refine⟨?_,fun g h=>?_⟩
   ·rw[Z0R]
    exact Z0P _ i1
   ·rw[Z0R] at h ⊢
    rcases Z0G.mp h with e|e
    ·exact Z0G.mpr (.inl e)
    ·exact Z0P _ (i2 g e)
theorem Zde (f:Str) (v:V):∀fs:List (Str×V),(ZdD f v fs).length<=fs.length+1
 |[]=>by simp[ZdD]
 |(k,x)::r=>by
  have ih:=Zde f v r
  rw[show ZdD f v ((k,x)::r)=(if k=f then (k,v)::r else (k,x)::ZdD f v r) from rfl]
  by_cases hk:k=f
  ·rw[if_pos hk,Z0T,Z0T];omega
  ·rw[if_neg hk,Z0T,Z0T];omega
theorem Ziq.some_of {v:V}{o:Option Value} (r:Ziq (some v) o):∃u,o=some u/\Vj v u:=by
 cases o with
 |none=>exact(show False from r).elim
 |some u=>exact⟨u,rfl,r⟩
theorem Ziq.none_of {o:Option Value} (r:Ziq none o):o=none:=by
 cases o with
 |none=>rfl
 |some u=>exact(show False from r).elim
theorem Zfj {v:V}{u:Value} (r:Vj v u):PySem.W.handedIn u=true:=by
 cases v with
 |non=>cases (show u=Value.none from r);rfl
 |bl b=>cases (show u=Value.bool b from r);rfl
 |int i=>obtain⟨t,e⟩:=(show ∃t,u=Value.int i t from r);cases e;rfl
 |str x=>obtain⟨t,e⟩:=(show ∃t,u=Value.str x t from r);cases e;rfl
 |byt b=>obtain⟨t,e⟩:=(show ∃t,u=Value.bytes b t from r);cases e;rfl
 |flt b=>obtain⟨t,e⟩:=(show ∃t,u=Value.float b t from r);cases e;rfl
 |ref a=>cases (show u=Value.ref a from r);rfl
 |ty n=>cases (show u=Value.type n from r);rfl
section
variable {P:Program}{w:World}{H:Hp}{h:Heap}{a C dx:Addr}{fs:List (Str×V)}
theorem Znb (hok:HOk P w H h) (e:H a=some (.ins C dx fs)):∃mA,Zms h a dx C mA/\(∀f,Ziq (fs.lookup f) (mA f))/\PySem.Within mA (fs.map (·.1))/\fs.length<=1000/\H dx=some (.own a):=by
 obtain⟨d,z,ne,ob,mA,n,r,q⟩:=(show Uj P w H h a (.ins C dx fs) from hok a _ e)
 exact⟨mA,⟨ob,n,ne⟩,r,q,z,d⟩
end
structure Cls (K:PySem.W.Frag) (C:Addr):Prop where
 pg:PySem.W.plainGet K C Str.empty=true
 hd:PySem.W.hasDictIn K C=true
 po:PySem.W.plainOver K C=true
 sa:PySem.W.findIn K (.ref C) "__setattr__"=some (some (.builtin "object.__setattr__"))
theorem Cls.get {K:W.Frag}{C:Addr} (c:Cls K C) (f:Str):PySem.W.plainGet K C f=true:=c.pg
def Zd4 (K:W.Frag) (C:Addr) (f:Str):Prop:=PySem.W.findIn K (.ref C) f=some none
theorem Zd4.taker {K:W.Frag}{C:Addr}{f:Str} (n:Zd4 K C f):PySem.W.takerIn K C f=some none:=by
 unfold PySem.W.takerIn
 rw[show PySem.W.findIn K (.ref C) f=some none from n]
 rfl
structure ZqZ (K:PySem.W.Frag) (C:Addr) (m:Str) (f:Addr):Prop where
 at_:PySem.W.findIn K (.ref C) m=some (some (.ref f))
 fn:PySem.W.isFn K (.ref f)=true
 kp:PySem.W.keepIn K (.ref f)=true
section
variable {X:Cx}{pins:List (Addr×Obj)}{σ:St}{H:Hp}{s:Shared}{a C dx:Addr}{fs:List (Str×V)}{f:Str}{A:Around}{E:Value->Shared->Prop}
theorem Zh7 {y:V}{u:Value}{Q:Unit->Shared->Prop} (I:Inv X pins σ H s) (e:H a=some (.ins C dx fs)) (c:Cls X.K C) (n:Zd4 X.K C f) (hl:fs.length<1000) (ry:Vj y u)
  (h:∀s',Inv X pins σ (upd H a (.ins C dx (ZdD f y fs))) s'->Q () s'):wpAny (model X.prog X.w) A (setAttr (.ref a) f u) Q E s:=by
 obtain⟨mA,O,r,wi,_,ho⟩:=Znb I.hok e
 have hz:(fs.map (·.1)).length<=sizeLine:=by rw[Z0K,sizeLine_eq];omega
 refine Zm2 I.kIn O c.sa c.po n.taker c.hd wi hz fun h' O' sb=>h _ ?_
 have hd:∃o,h'.get? dx=some o:=let ⟨o,_,_,e',_⟩:=O'.ns;⟨o,e'⟩
 refine I.write (x:=a) (e:=dx) (by rw[e];exact True.intro) (.inr ho) (fun b q hb z=>(sb.2 b hb).trans z) hd ?_
 refine⟨by rw[Zu O.ne];exact ho, ?_,O.ne,O'.obj,_,O'.ns,fun g=>?_,fun g hg=>?_⟩
 ·have:=Zde f y fs;omega
 ·show Ziq ((ZdD f y fs).lookup g) (if g=f then some u else mA g)
  rw[Zdc]
  by_cases q:g=f
  ·rw[if_pos q,if_pos q];exact ry
  ·rw[if_neg q,if_neg q];exact r g
 ·by_cases q:g=f
  ·rw[q];exact(Zdi f y fs).1
  ·refine(Zdi f y fs).2 g (wi g fun z=>hg ?_)
   show (if g=f then some u else mA g)=none
   rw[if_neg q];exact z
theorem Inv.made (I:Inv X pins σ H s):Inv X pins σ (upd (upd H s.heap.objs.size (.own (s.heap.objs.size+1))) (s.heap.objs.size+1) (.ins C s.heap.objs.size []))
  { s with heap:=(s.heap.push PySem.W.emptyDict).push (PySem.W.instObj C s.heap.objs.size) }:=by
 have e1:(s.heap.push PySem.W.emptyDict).get? s.heap.objs.size=some PySem.W.emptyDict:=Heap.get?_push_size s.heap rfl
 have e2:((s.heap.push PySem.W.emptyDict).push (PySem.W.instObj C s.heap.objs.size)).get? (s.heap.objs.size+1)=some (PySem.W.instObj C s.heap.objs.size):=by
  have:=Heap.get?_push_size (s.heap.push PySem.W.emptyDict) (o:=PySem.W.instObj C s.heap.objs.size) rfl
  rwa [Heap.size_push] at this
 have e3:(s.heap.push PySem.W.emptyDict).Ns s.heap.objs.size (fun _=>none):=⟨PySem.W.emptyDict,#[],_,e1,rfl,(fun e he=>absurd he (by simp)),fun _=>rfl⟩
 have I1:=I.laid (a:=s.heap.objs.size) (o:=.own (s.heap.objs.size+1)) (h':=s.heap.push PySem.W.emptyDict) (t':=s.toks) (fun b u q=>Heap.get?_push_of_some _ q) (Z0D _) ⟨_,e1⟩
 refine I1.laid (a:=s.heap.objs.size+1) (o:=.ins C s.heap.objs.size []) (t':=s.toks) (fun b u q=>Heap.get?_push_of_some _ q) (Nat.le_of_eq (Heap.size_push _ _)) ?_
 have ne:s.heap.objs.size≠s.heap.objs.size+1:=Z0O (Z1u _)
 refine⟨by rw[Zu ne,ZD],Z16 _,ne,e2,fun _=>none,(Heap.Ns1.of_empty e3).at fun o q=>Heap.get?_push_of_some _ q,fun _=>True.intro,fun y hy=>absurd rfl hy⟩
theorem Zkd {prog:Program}{w:World}{env:Env}{e:Expr}{f:Str}{pos:Pos}{s:Shared}{Q:Value->Shared->Prop} (hb:attributeBase e f env (eval e env)=eval e env)
  (h:wpAny (model prog w) A (eval e env) (fun o s₁=>wpAny (model prog w) A (getAttr o f true) Q E s₁) E s):wpAny (model prog w) A (eval (.Attribute e f pos) env) Q E s:=
 Attribute_any_ h (by rw[arm_eval_Attribute,hb])
end
noncomputable def Zp7 (K:W.Frag) (ta tv:TE) (f:Str):TS:=fun D σ H=>tv σ H fun y H1=>ta σ H1 fun x H2=>∃a C dx fs,x=.ref a/\H2 a=some (.ins C dx fs)/\Cls K C/\Zd4 K C f/\fs.length<1000 /\
 D.nx σ (upd H2 a (.ins C dx (ZdD f y fs)))
section
variable {X:Cx}{o value:Expr}{f:Str}{pos pos':Pos}{ta tv:TE}
theorem Zog (ha:PE X o ta) (hv:PE X value tv) (hs:swapsWith value (some (.Attribute o f pos')) pos.line X.env=pure false):PS X (.Assign [.Attribute o f pos'] value pos) (Zp7 X.K ta tv f):=by
 intro pins s σ H D I h
 refine plainObj_wpAny_Assign_Attribute (thn (hv pins s σ H _ I h) fun u s1 ⟨y,H1,I1,ry,q⟩=>thn (ha pins s1 σ H1 _ I1 q) fun ov s2 ⟨x,H2,I2,rx,a,C,dx,fs,ex,ea,c,n,l,q2⟩=>?_) hs
 subst ex
 obtain rfl:ov=Value.ref a:=rx
 exact Zh7 I2 ea c n l ry fun s3 I3=>⟨σ,_,I3,q2⟩
end
structure ZbB (k:Nat) (A:Around):Prop where
 hd:A.handled=none
 dp:A.depth+3*k+5<recursionLimit
 un:A.units+16*k+200<cLine
theorem ZbB.mono {j k:Nat}{A:Around} (r:ZbB k A) (h:j<=k):ZbB j A:=⟨r.hd,by have:=r.dp;omega,by have:=r.un;omega⟩
theorem ZbB.deeper {k:Nat}{A:Around} (r:ZbB (k+1) A) (env:Env):ZbB k (A.deeper env):=
 ⟨r.hd,by have:=r.dp;show A.depth+1+3*k+5<_;omega,by have:=r.un;show A.units+3+16*k+200<_;omega⟩
theorem ZhX {A:Around}{C:Addr}{us:List Value}{kw:List (Str×Value)}:(A.under (.builtin "type.__call__" ⟨.ref C::us,kw⟩)).depth=A.depth+1:=by
 first|rfl|simp[Around.under,Code.weight,Code.isCreation,Code.isGuard,Code.isCaller,Code.frames,Code.isFrame,guardIds]
theorem ZhW {A:Around}{C:Addr}{us:List Value}{kw:List (Str×Value)}:(A.under (.builtin "type.__call__" ⟨.ref C::us,kw⟩)).units=A.units+1:=by
 first|rfl|simp[Around.under,Code.cUnits,Code.frames,Code.isFrame]
theorem ZbB.make {k:Nat}{A:Around} (r:ZbB (k+1) A) (C:Addr) (us:List Value) (kw:List (Str×Value)):ZbB k (A.under (.builtin "type.__call__" ⟨.ref C::us,kw⟩)):=
 ⟨r.hd,by have:=r.dp;rw[ZhX];omega,by have:=r.un;rw[ZhW];omega⟩
theorem ZbB.depth {k:Nat}{A:Around} (r:ZbB k A):A.depth<recursionLimit:=by have:=r.dp;omega
theorem ZbB.units {k:Nat}{A:Around} (r:ZbB k A):A.units+64<cLine:=by have:=r.un;omega
noncomputable def Zko:TA:=fun _ H Q=>Q [] H
noncomputable def ZcK (ta:TE) (tr:TA):TA:=fun σ H Q=>ta σ H fun x H1=>tr σ H1 fun xs H2=>Q (x::xs) H2
section
variable {X:Cx}{e:Expr}{es:List Expr}{te:TE}{t:TA}{pos:Pos}
theorem Zg:PA X [] Zko:=fun _ _ _ _ H Q I h=>Calls.spliced_nil ⟨[],H,I,.nil,h⟩
theorem Za (ha:PE X e te) (hr:PA X es t) (hs:starEach (e::es) X.env=(false,eval e X.env)::starEach es X.env:=by rfl):PA X (e::es) (ZcK te t):=by
 intro pos pins s σ H Q I h
 rw[hs]
 show wpAny _ _ (spliced ((false,eval e X.env)::backTo pos (starEach es X.env))) _ _ s
 refine Calls.spliced_cons (thn (ha pins s σ H _ I h) fun u s1 ⟨x,H1,I1,r1,q1⟩=>?_)
 exact thn (hr pos pins s1 σ H1 _ I1 q1) fun us s2 ⟨xs,H2,I2,r2,q2⟩=>⟨x::xs,H2,I2,.cons r1 r2,q2⟩
noncomputable def Zp5 (t:TA):TE:=fun σ H Q=>t σ H fun xs H1=>xs.length<=sizeLine/\∀p,H1 p=none->Q (.ref p) (upd H1 p (.tup xs))
noncomputable def Zpq (t:TA):TE:=fun σ H Q=>t σ H fun xs H1=>xs.length<=sizeLine/\∀p,H1 p=none->Q (.ref p) (upd H1 p (.lst xs))
theorem ZcO {x1} (h:PA X es t):PE X (.Tuple es x1 pos) (Zp5 t):=by
 intro pins s σ H Q I hq
 refine wpAny_Tuple_spliced (thn (h pos pins s σ H _ I hq) fun us s1 ⟨xs,H1,I1,r,z,q⟩=>⟨by rw[<- r.length];exact z, ?_⟩)
 have hf:H1 s1.heap.objs.size=none:=I1.hok.fresh (Z0D _)
 refine⟨.ref s1.heap.objs.size,upd H1 s1.heap.objs.size (.tup xs),I1.laid (t':=s1.toks) (fun b u e=>Heap.get?_push_of_some _ e) (Z0D _) ?_,rfl,q _ hf⟩
 exact⟨z,us,r,⟨_,Heap.get?_push_size _ rfl,rfl,_,rfl⟩⟩
theorem Jl (h:PA X es t):PE X (.List es pos) (Zpq t):=by
 intro pins s σ H Q I hq
 refine wpAny_List_spliced (thn (h pos pins s σ H _ I hq) fun us s1 ⟨xs,H1,I1,r,z,q⟩=>⟨by rw[<- r.length];exact z, ?_⟩)
 have hf:H1 s1.heap.objs.size=none:=I1.hok.fresh (Z0D _)
 refine⟨.ref s1.heap.objs.size,upd H1 s1.heap.objs.size (.lst xs),I1.laid (t':=s1.toks) (fun b u e=>Heap.get?_push_of_some _ e) (Z0D _) ?_,rfl,q _ hf⟩
 exact⟨z,us,0,r,Heap.get?_push_size _ rfl⟩
end
noncomputable abbrev Sp:=List V->Hp->VK->XK->Prop
noncomputable abbrev CXT:=List Env->Hp->Shared->XK->Value->Shared->Prop
structure Zn1 (P:Program) (w:World) (K:PySem.W.Frag) (mg:Str->Option Value) (base:Heap) (A:Around) (outer:List Env) (s:Shared) (H:Hp):Prop where
 frames:A.frames=some outer
 mod:Mod K mg base
 bs:∀b o,base.get? b=some o->s.heap.get? b=some o/\H b=none
 bsz:base.objs.size<=s.heap.objs.size
 funs:s.heap.FunFrames base outer
 frf:∀b∈frs outer,H b=none
 hok:HOk P w H s.heap
 bare:AllBare s.gens
def CE (outer:List Env) (P:Program) (w:World) (H:Hp) (s:Shared) (Q:VK) (u:Value) (s':Shared):Prop:=
 ∃v H',s'.os=s.os/\AllBare s'.gens/\Un (frs outer) [] H H' s.heap s'.heap/\HOk P w H' s'.heap/\Vj v u/\Q v H'
def CR (CX:CXT) (outer:List Env) (P:Program) (w:World) (H:Hp) (s:Shared) (Q:VK) (E:XK) (r:Result) (s':Shared):Prop:=
 match r with
 |.ok (.ret u)=>CE outer P w H s Q u s'
 |.ok _=>False
 |.error e=>CX outer H s E e s'
structure J5 (P:Program) (w:World) (K:PySem.W.Frag) (mg:Str->Option Value) (base:Heap) (CX:CXT) (k:Nat) (f:Addr) (fd:FuncData) (ps:List Str) (sp:Sp):Prop where
 len:∀vs H Q E,sp vs H Q E->vs.length=ps.length
 run:∀(A:Around) (outer:List Env) (s:Shared) (H:Hp) (args:Args) (us:List Value) (vs:List V) (Q:VK) (E:XK),ZbB k A->Zn1 P w K mg base A outer s H->BindsTo s fd args (ps.zip us)->JD vs us->sp vs H Q E ->
  codeAny (model P w) A (.call (.ref f) args) (CR CX outer P w H s Q E) s
theorem Zn1.make {P:Program}{w:World}{K:W.Frag}{mg:Str->Option Value}{base:Heap}{A:Around}{outer:List Env}{s:Shared}{H:Hp} (e:Zn1 P w K mg base A outer s H) (C:Addr) (us:List Value) (kw:List (Str×Value)) :
  Zn1 P w K mg base (A.under (.builtin "type.__call__" ⟨.ref C::us,kw⟩)) outer s H:=⟨by first|exact e.frames|(simpa[Around.under,Code.envs,Code.isFrame,pushEnvs] using e.frames),e.mod,e.bs,e.bsz,e.funs,e.frf,e.hok,e.bare⟩
section
variable {X:Cx}{pins:List (Addr×Obj)}{σ:St}{H:Hp}{s s':Shared}
theorem Inv.env0 (I:Inv X pins σ H s):Zn1 X.prog X.w X.K X.mg X.base X.A X.stack s H:=
 ⟨I.ok.frames,I.ok.mod,I.bs,Z0U I.ok.bsz I.sz,I.stack,I.stkFree,I.hok,I.bare⟩
theorem Inv.after {Q:VK}{u:Value} (I:Inv X pins σ H s) (h:CE X.stack X.prog X.w H s Q u s'):EP X pins σ Q u s':=by
 obtain⟨v,H',os,bare,un,hok,r,q⟩:=h
 obtain⟨hh,g,d,t,os'⟩:=s'
 obtain rfl:os'=s.os:=os
 exact⟨v,H',I.call (h':=hh) (g':=g) (d':=d) (t':=t) (ch:=[]) un hok bare (fun b z=>absurd z (by simp)),r,q⟩
end
noncomputable def ZnT (sp:Sp) (dvs:List V) (E:XK) (t:TA):TE:=fun σ H Q=>t σ H fun vs H1=>sp (vs++dvs) H1 Q E
def Zck (K:W.Frag) (fd:FuncData) (ps:List Str) (ds:List Value):Prop:=
 ∀(s:Shared) (us:List Value),K.In s.heap->(us++ds).length=ps.length->BindsTo s fd ⟨us,[]⟩ (ps.zip (us++ds))
theorem Zck.all {K:W.Frag}{fd:FuncData}{ps:List Str} (h:∀us:List Value,us.length=ps.length->bindArgs fd ⟨us,[]⟩=pure (ps.zip us)):Zck K fd ps []:=fun s us _ hl=>by
 rw[Z1d] at hl ⊢
 exact .of_eq (h us hl)
def Zf4 (CX:CXT) (X:Cx) (E:XK):Prop:=∀(pins:List (Addr×Obj)) (σ:St) (H:Hp) (s:Shared) (e:Value) (s':Shared),Inv X pins σ H s->CX X.stack H s E e s'->X.xe e s'
section
variable {X:Cx}{CX:CXT}{k:Nat}{f C:Addr}{fd:FuncData}{ps:List Str}{sp:Sp}{dvs:List V}{ds:List Value}{E:XK}{x:Str}{p pos:Pos}{e:Expr}{es:List Expr}{t:TA}
theorem ZiH {pins:List (Addr×Obj)}{σ:St}{H:Hp}{s:Shared}{Q:VK}{us:List Value}{vs:List V} (F:J5 X.prog X.w X.K X.mg X.base CX k f fd ps sp) (hr:ZbB k X.A) (hb:Zck X.K fd ps ds) (hd:JD dvs ds) (hx:Zf4 CX X E)
  (I:Inv X pins σ H s) (r:JD vs us) (h:sp (vs++dvs) H Q E):wpAny (model X.prog X.w) X.A (call (.ref f) us) (EP X pins σ Q) X.xe s:=by
 have r2:JD (vs++dvs) (us++ds):=r.append hd
 have hl:(us++ds).length=ps.length:=by rw[<- r2.length];exact F.len _ _ _ _ h
 refine wpAny_call (codeAny_mono (F.run X.A X.stack s H ⟨us,[]⟩ (us++ds) (vs++dvs) Q E hr I.env0 (hb s us I.kIn hl) r2 h) fun r s' hq=>?_)
 cases r with
 |error e=>exact hx pins σ H s e s' I hq
 |ok fl =>
  cases fl with
  |ret u=>exact I.after hq
  |next=>exact False.elim hq
  |brk=>exact False.elim hq
  |cont=>exact False.elim hq
theorem ZmB (F:J5 X.prog X.w X.K X.mg X.base CX k f fd ps sp) (hr:ZbB k X.A) (hg:Gl X x) (hm:X.mg x=some (.ref f)) (hk:PySem.W.keepIn X.K (.ref f)=true) (hb:Zck X.K fd ps ds) (hd:JD dvs ds) (hx:Zf4 CX X E)
  (ha:PA X (e::es) t) (hdb:(x==("__debug__":Str))=false:=by decide) (he:starEach (e::es) X.env=(false,eval e X.env)::starEach es X.env:=by rfl) (hpl:(backTo pos (starEach es X.env)).any (·.1)=false:=by rfl) :
  PE X (.Call (.Name x p) (e::es) [] pos) (ZnT sp dvs E t):=by
 intro pins s σ H Q I h
 refine wpAny_Call_Name_kw (ZaS I hg hm ?_ hdb)
 refine PySem.W.callWith_K (h₀:=X.base) I.ok.mod.kin hk (thn (ha pos pins s σ H _ I h) fun us s1 ⟨vs,H1,I1,r,q⟩=>⟨I1.kIn, ?_⟩) he hpl
 exact ZiH F hr hb hd hx I1 r q
theorem ZkI (F:J5 X.prog X.w X.K X.mg X.base CX k f fd ps sp) (hr:ZbB k X.A) (hg:Gl X x) (hm:X.mg x=some (.ref f)) (hk:PySem.W.keepIn X.K (.ref f)=true) (hb:Zck X.K fd ps ds) (hd:JD dvs ds) (hx:Zf4 CX X E)
  (hdb:(x==("__debug__":Str))=false:=by decide):PE X (.Call (.Name x p) [] [] pos) (ZnT sp dvs E Zko):=by
 intro pins s σ H Q I h
 refine wpAny_Call_Name_kw (ZaS I hg hm ?_ hdb)
 exact PySem.W.callWith_K0 I.kIn hk (ZiH (us:=[]) F hr hb hd hx I .nil h)
structure Mk (K:PySem.W.Frag) (C f:Addr):Prop where
 makes:PySem.W.makesIn K C=true
 init:PySem.W.findIn K (.ref C) "__init__"=some (some (.ref f))
 fn:PySem.W.isFn K (.ref f)=true
 kp:PySem.W.keepIn K (.ref C)=true
theorem ZkA {pins:List (Addr×Obj)}{σ:St}{H:Hp}{s:Shared}{Q:VK}{us:List Value}{vs:List V} (M:Mk X.K C f) (F:J5 X.prog X.w X.K X.mg X.base CX k f fd ps sp) (hr:ZbB (k+1) X.A) (hb:Zck X.K fd ps ds) (hd:JD dvs ds)
  (hx:Zf4 CX X E) (I:Inv X pins σ H s) (r:JD vs us)
  (h:∀x dx,H x=none->H dx=none->dx≠x->sp (.ref x::(vs++dvs)) (upd (upd H dx (.own x)) x (.ins C dx [])) (fun v H2=>v=.non/\Q (.ref x) H2) E) :
  wpAny (model X.prog X.w) X.A (call (.ref C) us) (EP X pins σ Q) X.xe s:=by
 have hq:=h (s.heap.objs.size+1) s.heap.objs.size (I.hok.fresh (Z1K _)) (I.hok.fresh (Z0D _)) (Z0O (Z1u _))
 have I2:=Inv.made (C:=C) I
 have r2:JD (V.ref (s.heap.objs.size+1)::(vs++dvs)) (Value.ref (s.heap.objs.size+1)::(us++ds)):=.cons rfl (r.append hd)
 have hl:(Value.ref (s.heap.objs.size+1)::us++ds).length=ps.length:=by
  have e:=r2.length
  rw[F.len _ _ _ _ hq] at e
  exact e.symm
 refine wpAny_call (Zlf (f:=f) I.kIn M.makes M.init (beq_iff_eq.mp M.fn) (codeAny_mono (F.run _ X.stack _ _ ⟨Value.ref (s.heap.objs.size+1)::us,[]⟩ (Value.ref (s.heap.objs.size+1)::(us++ds)) _ _ E (hr.make C us [])
  (I2.env0.make C us []) (hb _ (Value.ref (s.heap.objs.size+1)::us) I2.kIn hl) r2 hq) fun r s' hq'=>?_))
 cases r with
 |error e=>exact hx pins σ _ _ e s' I2 hq'
 |ok fl =>
  cases fl with
  |ret u =>
   obtain⟨v,H',I3,rv,ev,q3⟩:=I2.after hq'
   subst ev
   exact⟨rv,⟨V.ref (s.heap.objs.size+1),H',I3,rfl,q3⟩⟩
  |next=>exact False.elim hq'
  |brk=>exact False.elim hq'
  |cont=>exact False.elim hq'
end
structure Zs (N P:List Str) (sc:Scope):Prop where
 kind:sc.kind=.function
 co:sc.isCoroutine=false
 gen:sc.isGenerator=false
 nd:N.Nodup
 pre:N.take P.length=P
 par:∀x∈P,sc.names.lookup x=some .local\/sc.names.lookup x=some .cell
 nofree:∀y∈sc.names,y.2≠.free
theorem Zf0 {kindOf:Str->Option NameKind}{x:Str}:∀{binds:List (Str×Value)}{m:Str->Option Value},(∀v,(x,v) ∉ binds)->bindL kindOf binds m x=m x
 |[],_,_=>rfl
 |(n,v)::r,m,h=>by
  unfold bindL
  rw[Zf0 fun w hw=>h w (Z0P _ hw)]
  split
  ·have:x≠n:=by rintro rfl;exact h v Z1q
   simp[this]
  ·rfl
theorem Zf2 {kindOf:Str->Option NameKind}{x:Str}:∀{binds:List (Str×Value)}{m:Str->Option Value},(∀v,(x,v) ∉ binds)->bindC kindOf binds m x=m x
 |[],_,_=>rfl
 |(n,v)::r,m,h=>by
  unfold bindC
  rw[Zf2 fun w hw=>h w (Z0P _ hw)]
  split
  ·rfl
  ·have:x≠n:=by rintro rfl;exact h v Z1q
   simp[this]
theorem Zf1 {kindOf:Str->Option NameKind}{x:Str}{v:Value}:∀{P:List Str}{vs:List Value}{i:Nat}{m:Str->Option Value},P.Nodup->P[i]?=some x->vs[i]?=some v->kindOf x=some .local ->
  bindL kindOf (P.zip vs) m x=some v
 |[],_,_,_,_,h,_,_=>by simp at h
 |_::_,[],_,_,_,_,h,_=>by simp at h
 |p::P,w::vs,0,m,nd,h1,h2,hk=>by
  simp at h1 h2;subst h1;subst h2
  show bindL kindOf ((p,w)::P.zip vs) m p=_
  unfold bindL
  rw[Zf0 fun v hv=>(Z1F.mp nd).1 (Z1Q hv).1,if_pos hk]
  simp
 |p::P,w::vs,i+1,m,nd,h1,h2,hk=>by
  show bindL kindOf ((p,w)::P.zip vs) m x=_
  unfold bindL
  exact Zf1 (i:=i) (Z1F.mp nd).2 (by simpa using h1) (by simpa using h2) hk
theorem Zf3 {kindOf:Str->Option NameKind}{x:Str}{v:Value}:∀{P:List Str}{vs:List Value}{i:Nat}{m:Str->Option Value},P.Nodup->P[i]?=some x->vs[i]?=some v->kindOf x≠some .local ->
  bindC kindOf (P.zip vs) m x=some v
 |[],_,_,_,_,h,_,_=>by simp at h
 |_::_,[],_,_,_,_,h,_=>by simp at h
 |p::P,w::vs,0,m,nd,h1,h2,hk=>by
  simp at h1 h2;subst h1;subst h2
  show bindC kindOf ((p,w)::P.zip vs) m p=_
  unfold bindC
  rw[Zf2 fun v hv=>(Z1F.mp nd).1 (Z1Q hv).1,if_neg hk]
  simp
 |p::P,w::vs,i+1,m,nd,h1,h2,hk=>by
  show bindC kindOf ((p,w)::P.zip vs) m x=_
  unfold bindC
  exact Zf3 (i:=i) (Z1F.mp nd).2 (by simpa using h1) (by simpa using h2) hk
noncomputable def ZbS (N:List Str) (vs:List V):St:=vs.map some++List.replicate (N.length-vs.length) none
noncomputable def Zc9 (CX:CXT) (P:Program) (w:World) (K:W.Frag) (mg:Str->Option Value) (base:Heap) (N:List Str) (qual:Str) (scope:Scope) (f:Addr) (cd:Value) (A:Around) (outer:List Env) (s:Shared) (H:Hp) (E:XK):Cx where
 prog:=P
 w:=w
 K:=K
 mg:=mg
 base:=base
 A:=A.deeper (envOfC qual scope s.heap.objs.size f cd)
 N:=N
 s₀:=s
 H₀:=H
 env:=envOfC qual scope s.heap.objs.size f cd
 outer:=outer
 stack:=envOfC qual scope s.heap.objs.size f cd::outer
 ex:=[]
 calm:=true
 fn:=fun _=>true
 pn:=[]
 xe:=fun e s'=>wpAny (model P w) (A.deeper (envOfC qual scope s.heap.objs.size f cd)) (leaving (envOfC qual scope s.heap.objs.size f cd) e) (fun _ s''=>CX outer H s E e s'') (fun e' s''=>CX outer H s E e' s'') s'
theorem Zhz {sc:Scope}{n:Nat}{x:Str} (h:sc.names.lookup x=some .cell):∃c,(cellsFrom n sc.names []).lookup x=some c:=by
 have q:=PySem.W.cellsFrom_some sc.names n [] (.inl h)
 exact Z10.mp q
theorem ZjB {CX:CXT}{P:Program}{w:World}{K:W.Frag}{mg:Str->Option Value}{base:Heap}{N ps:List Str}{qual:Str}{scope:Scope}{f:Addr}{cd:Value}{A:Around}{outer:List Env}{s s1:Shared}{H:Hp}{E:XK}{us:List Value}{vs:List V}
  (S:Zs N ps scope) (hd:A.handled=none) (e0:Zn1 P w K mg base A outer s H) (hl:vs.length=ps.length) (r:JD vs us)
  (x:InCallC s s.heap.objs.size (bindL (envOfC qual scope s.heap.objs.size f cd).kindOf (ps.zip us) fun _=>none) (cellsFrom (s.heap.objs.size+1) scope.names []) (bindC (envOfC qual scope s.heap.objs.size f cd).kindOf (ps.zip us) fun _=>none) s1) :
  Inv (Zc9 CX P w K mg base N qual scope f cd A outer s H E) [] (ZbS N vs) H s1:=by
 have hpl:ps.length<=N.length:=by have:=congrArg List.length S.pre;rw[List.length_take] at this;omega
 obtain⟨h1,tk,rfl,hk⟩:=x.done
 have noA:∀b:Addr,b ∉ (Zc9 CX P w K mg base N qual scope f cd A outer s H E).ex:=fun b z=>absurd (show b∈([]:List Addr) from z) (by simp)
 refine⟨⟨e0.mod,S.kind,rfl,rfl,Z0D _,fun y z c h1 h2=>?_,fun y hy=>?_,fun y c _ h=>?_,fun _=>hd,Around.frames_deeper e0.frames,.inr ⟨rfl,rfl⟩,fun b z=>absurd z (noA b),e0.bs,e0.bsz,fun b _ _=>noA b,fun b z=>absurd z (noA b),e0.funs,e0.frf⟩,
  rfl,e0.bare,Un.kept hk,⟨_,x.toInCall.ns,fun i y v h1 h2 h3=>?_⟩,fun y c h=>⟨_,x.cell y c h⟩,e0.hok.fresh (Z0D _),fun y c h=>?_,fun p hp=>absurd (show p∈([]:List (Addr×Obj)) from hp) (by simp),e0.hok.kept hk, ?_⟩
 ·exact name_of_addr x.apart (PySem.mem_of_lookup h1) (PySem.mem_of_lookup h2)
 ·have hy:scope.names.lookup y=some .cell\/scope.names.lookup y=some .free:=hy
  rcases hy with hy|hy
  ·exact Zhz hy
  ·exact absurd rfl (S.nofree _ (PySem.mem_of_lookup hy))
 ·exact Nat.le_of_lt (x.above y c (PySem.mem_of_lookup h))
 ·have hi:i<vs.length:=by
   unfold ZbS at h2
   by_cases hi:i<vs.length
   ·exact hi
   ·rw[Z0L (by simpa using hi)] at h2
    rw[Z1p] at h2
    split at h2<;>cases h2
  have ha:vs[i]?=some v:=by
   unfold ZbS at h2
   rw[Z0J (by simpa using hi),Z0N] at h2
   cases e:vs[i]? with
   |none=>rw[e] at h2;cases h2
   |some a=>rw[e] at h2;cases h2;rfl
  obtain⟨u,hu,rv⟩:=r.get ha
  have hp:ps[i]?=some y:=by
   rw[<- S.pre,List.getElem?_take_of_lt (by omega)];exact h1
  have ndP:ps.Nodup:=by rw[<- S.pre];exact S.nd.sublist (List.take_sublist _ _)
  refine⟨u,rv, ?_⟩
  rcases S.par y (List.mem_of_getElem? hp) with k|k
  ·exact .inl ⟨k,Zf1 ndP hp hu k⟩
  ·obtain⟨c,e⟩:=Zhz (n:=s.heap.objs.size+1) k
   refine .inr ⟨.inl k,c,e, ?_⟩
   have q:=x.cell y c e
   rw[Zf3 ndP hp hu (by show scope.names.lookup y≠_;rw[k];decide)] at q
   exact q
 ·exact e0.hok.fresh (Nat.le_of_lt (x.above y c (PySem.mem_of_lookup h)))
 ·unfold ZbS
  show _=N.length
  rw[Z0Z,Z0K,Z17]
  omega
theorem ZoN {CX:CXT}{P:Program}{w:World}{K:W.Frag}{mg:Str->Option Value}{base:Heap}{k:Nat}{f:Addr}{name qual:Str}{params:Arguments}{body:List Stmt}{scope:Scope}{dV kV doc pm cdv ct oc:Value}{an od:Option Addr}
  {osl:Array (Option Value)}{N ps:List Str}{sp:Sp} (lk:K.lookup f=some ⟨oc,od,.func (PySem.W.fnOf name qual params body scope dV kV doc pm an cdv ct),osl⟩) (hcd:PySem.W.codeIn K cdv qual=true) (S:Zs N ps scope)
  (len:∀vs H Q E,sp vs H Q E->vs.length=ps.length)
  (hbody:∀(A:Around) (outer:List Env) (s:Shared) (H:Hp) (vs:List V) (Q:VK) (E:XK),ZbB k (A.deeper (envOfC qual scope s.heap.objs.size f cdv))->sp vs H Q E ->
   ∃t,PSs (Zc9 CX P w K mg base N qual scope f cdv A outer s H E) body t/\t { nx:=fun _ H'=>Q .non H',rt:=Q } (ZbS N vs) H) :
  J5 P w K mg base CX (k+1) f (PySem.W.fnOf name qual params body scope dV kV doc pm an cdv ct) ps sp:=by
 refine⟨len,fun A outer s H args us vs Q E hr e0 hb r hsp=>?_⟩
 have hl:=len _ _ _ _ hsp
 have KX:K.In s.heap:=e0.mod.kin.keeps fun b o e=>(e0.bs b o e).1
 have lim:s.heap.NoLimit:=e0.mod.nolimit.keeps fun b o e=>(e0.bs b o e).1
 have hkind:∀y∈ps.zip us,scope.names.lookup y.1=some .local\/(scope.names.lookup y.1=some .cell/\((cellsFrom (s.heap.objs.size+1) scope.names []).lookup y.1).isSome=true):=fun⟨n,v⟩ hy=>by
  rcases S.par n (Z1Q hy).1 with q|q
  ·exact .inl q
  ·exact .inr ⟨q,PySem.W.cellsFrom_some _ _ _ (.inl q)⟩
 refine codeAny_call_function hr.depth (KX _ _ lk) rfl S.co S.gen rfl (PySem.W.codeRec_of KX hcd) (hb _ _ _ _ ?_)
 refine wpAny_newFunctionEnv_cells S.kind hkind fun env he s1 x=>?_
 subst he
 refine⟨lim.keeps x.toInCall.keep,codeAny_func ?_⟩
 obtain⟨t,ht,hq⟩:=hbody A outer s H vs Q E (hr.deeper _) hsp
 have I:Inv (Zc9 CX P w K mg base N qual scope f cdv A outer s H E) [] (ZbS N vs) H s1:=ZjB S hr.hd e0 hl r x
 refine wpAny_mono (ht [] s1 (ZbS N vs) H _ I hq) (fun fl s' hs=>?_) fun e s' hs=>hs
 have fin:∀{σ':St}{H':Hp}{v:V}{u:Value},Inv (Zc9 CX P w K mg base N qual scope f cdv A outer s H E) [] σ' H' s'->Vj v u->Q v H'->CE outer P w H s Q u s':=
  fun {σ' H' v u} J rv q=>⟨v,H',J.os,J.bare,J.base,J.hok,rv,q⟩
 cases fl with
 |ret u =>
  obtain⟨v,σ',H',J,rv,q⟩:=hs
  exact fin J rv q
 |next =>
  obtain⟨σ',H',J,q⟩:=hs
  exact fin (v:=V.non) (u:=Value.none) J rfl q
 |brk =>
  obtain⟨_,_,_,q⟩:=hs
  exact False.elim q
 |cont =>
  obtain⟨_,_,_,q⟩:=hs
  exact False.elim q
section
variable {X:Cx}{x:Str}{p pos:Pos}{e:Expr}{es:List Expr}{t:TA}{id T:String}{r:List V->Hp->VK->Prop}
noncomputable def tCB (r:List V->Hp->VK->Prop) (t:TA):TE:=fun σ H Q=>t σ H fun vs H1=>r vs H1 Q
theorem Zr (hc:ZbD X (.builtin id) r) (hg:Gl X x) (hm:X.mg x=none) (hv:bootBuiltins x=some (.builtin id)) (ha:PA X (e::es) t) (hn:x ≠ "__name__":=by decide) (hdb:(x==("__debug__":Str))=false:=by decide)
  (he:starEach (e::es) X.env=(false,eval e X.env)::starEach es X.env:=by rfl) (hpl:(backTo pos (starEach es X.env)).any (·.1)=false:=by rfl):PE X (.Call (.Name x p) (e::es) [] pos) (tCB r t):=by
 intro pins s σ H Q I h
 refine wpAny_Call_Name_kw (ZeW I hg hm hv ?_ hn hdb)
 exact PyProof.Rows.callWith_builtin1 (thn (ha pos pins s σ H _ I h) fun us s1 ⟨vs,H1,I1,r1,q1⟩=>hc pins s1 σ H1 vs us Q I1 r1 q1) he hpl
theorem ZbX (hc:ZbD X (.type T) r) (hg:Gl X x) (hm:X.mg x=none) (hv:bootBuiltins x=some (.type T)) (ha:PA X (e::es) t) (hn:x ≠ "__name__":=by decide) (hdb:(x==("__debug__":Str))=false:=by decide)
  (he:starEach (e::es) X.env=(false,eval e X.env)::starEach es X.env:=by rfl) (hpl:(backTo pos (starEach es X.env)).any (·.1)=false:=by rfl):PE X (.Call (.Name x p) (e::es) [] pos) (tCB r t):=by
 intro pins s σ H Q I h
 refine wpAny_Call_Name_kw (ZeW I hg hm hv ?_ hn hdb)
 exact PyProof.Rows.callWith_type1 (thn (ha pos pins s σ H _ I h) fun us s1 ⟨vs,H1,I1,r1,q1⟩=>hc pins s1 σ H1 vs us Q I1 r1 q1) he hpl
end
end L2
namespace HT
open PySem PyProof.Rows
section
open PySem.SeqAt
open PySem.AutoSeq1 (wpAny_loadPart')
open PySem.MeetsSeq PySem.MeetsSeq2 PySem.MeetsSeq3
end
section
end
end HT
namespace L2
open PySem PySem.Spec PyProof.Rows
noncomputable abbrev TO:=St->Hp->(Option Int->Hp->Prop)->Prop
theorem ZdY {ns:List Int}:∀{us:List Value},JD (ns.map V.int) us->IntsAre us ns:=by
 induction ns with
 |nil=>intro us r;rw[Z1I] at r;cases r;exact .nil
 |cons n ns ih =>
  intro us r
  rw[Z0R] at r
  cases r with
  |cons r1 r2 =>
   obtain⟨t,e⟩:=r1
   subst e
   exact .cons n t (ih r2)
section
end
noncomputable def ixN (n:Nat) (i:Int):Option Nat:=if 0<=i then (if i<n then some i.toNat else none) else if -(n:Int)<=i then some (i+n).toNat else none
noncomputable def atI {α:Type} (xs:List α) (i:Int):Option α:=(ixN xs.length i).bind fun j=>xs[j]?
theorem Zj6 {n:Nat}{i:Int}{j:Nat} (h:ixN n i=some j):seqIndex? i n=some j/\j<n/\-(n:Int)<=i/\i<n:=by
 unfold ixN at h
 by_cases h0:0<=i
 ·rw[if_pos h0] at h
  by_cases h1:i<n
  ·rw[if_pos h1] at h
   have e:i.toNat=j:=Option.some.inj h
   exact⟨by rw[seqIndex_of h0 h1,e],by omega,by omega,h1⟩
  ·rw[if_neg h1] at h;cases h
 ·rw[if_neg h0] at h
  by_cases h1:-(n:Int)<=i
  ·rw[if_pos h1] at h
   have e:(i+n).toNat=j:=Option.some.inj h
   exact⟨by rw[seqIndex_neg (by omega) h1,e],by omega,h1,by omega⟩
  ·rw[if_neg h1] at h;cases h
theorem Ze4 {α:Type}{xs:List α}{i:Int}{v:α} (h:atI xs i=some v):∃j,seqIndex? i xs.length=some j/\xs[j]?=some v/\j<xs.length/\-(xs.length:Int)<=i/\i<xs.length:=by
 unfold atI at h
 cases e:ixN xs.length i with
 |none=>rw[e] at h;cases h
 |some j =>
  rw[e] at h
  obtain⟨h1,h2,h3,h4⟩:=Zj6 e
  exact⟨j,h1,h,h2,h3,h4⟩
def Znx (b:Expr):Prop:=∀o i,subscripted b false o i=operate [o,i] (getItem o i)
def IxR (X:Cx) (r:R2):Prop:=
 ∀(value slice:Expr) (pins:List (Addr×Obj)) (s:Shared) (σ:St) (H:Hp) (x y:V) (v u:Value) (Q:VK),Inv X pins σ H s->Vj x v->Vj y u->r x y H Q ->
  subscripted slice false v u=operate [v,u] (getItem v u)->wpAny (model X.prog X.w) X.A (subscriptTail value slice v u) (EP X pins σ Q) X.xe s
def MtR (X:Cx) (id:String) (r:V->List V->Hp->VK->Prop):Prop:=
 ∀(pins:List (Addr×Obj)) (s:Shared) (σ:St) (H:Hp) (x:V) (xs:List V) (v:Value) (us:List Value) (Q:VK),Inv X pins σ H s->Vj x v->JD xs us->r x xs H Q ->
  wpAny (model X.prog X.w) X.A (call (.builtin id) (v::us)) (EP X pins σ Q) X.xe s
section
variable {X:Cx}{a b:Expr}{ta tb:TE}{pos:Pos}
theorem IxR.or {r r':R2} (h:IxR X r) (h':IxR X r'):IxR X (fun x y H Q=>r x y H Q\/r' x y H Q):=by
 intro value slice pins s σ H x y v u Q I rx ry q hs
 rcases q with q|q
 ·exact h value slice pins s σ H x y v u Q I rx ry q hs
 ·exact h' value slice pins s σ H x y v u Q I rx ry q hs
theorem Uk {r:R2} (hr:IxR X r) (ha:PE X a ta) (hb:PE X b tb) (hs:Znx b):PE X (.Subscript a b pos) (tOp r ta tb):=by
 intro pins s σ H Q I h
 exact Subscript_ (Zqj ha hb I h fun v u s2 x y H2 I2 rx ry q=>hr a b pins s2 σ H2 x y v u Q I2 rx ry q (hs _ _))
noncomputable def Zod (K:W.Frag):R2:=fun x y H Q=>∃p xs i v,x=.ref p/\y=.int i/\SqL K H p xs/\atI xs i=some v/\Q v H
noncomputable def Zq0 (K:W.Frag):R2:=fun x y H Q=>∃p xs i v,x=.ref p/\y=.int i/\SqT K H p xs/\atI xs i=some v/\Q v H
noncomputable def Zp9:R2:=fun x y H Q=>∃z i c,x=.str z/\y=.int i/\z.length<=sizeLine/\atI z.cps.toList i=some c/\Q (.str ⟨#[c]⟩) H
theorem ZmY:IxR X (Zod X.K):=by
 intro value slice pins s σ H x y v u Q I rx ry h hs
 obtain⟨p,xs,i,z,rfl,rfl,hq,he,q⟩:=h
 cases rx
 obtain⟨t,rfl⟩:=ry
 obtain⟨its,r,pl,hz⟩:=I.list hq
 obtain⟨j,h1,h2,h3,h4,h5⟩:=Ze4 he
 obtain⟨w,ew,rw'⟩:=r.get h2
 have hl:=r.length
 have hn:=ZdN
 have fin:EP X pins σ Q w s:=⟨z,H,I,rw',q⟩
 by_cases h0:0<=i
 ·have hj:i.toNat=j:=by
   rw[seqIndex_of h0 h5] at h1
   exact Option.some.inj h1
  exact item_listR pl.isList h0 (by omega) (by rw[hj];simpa using ew) fin hs
 ·have hj:(i+(its.toArray.size:Int)).toNat=j:=by
   rw[seqIndex_neg (by omega) h4] at h1
   rw[Z0H,<- hl]
   exact Option.some.inj h1
  exact subscriptTail_builtinR (x:=w) pl.isList.typeIs slot_list_getitem.lookup
   (wpAny_getItem_list_neg (Q:=fun r s'=>r=w/\EP X pins σ Q r s') pl.isList (by omega) (by rw[Z0H]<;>omega) (by omega) (by rw[hj];simpa using ew) ⟨rfl,fin⟩) hs
theorem ZoE:IxR X (Zq0 X.K):=by
 intro value slice pins s σ H x y v u Q I rx ry h hs
 obtain⟨p,xs,i,z,rfl,rfl,hq,he,q⟩:=h
 cases rx
 obtain⟨t,rfl⟩:=ry
 obtain⟨its,r,pl,hz⟩:=I.tuple hq
 obtain⟨j,h1,h2,h3,h4,h5⟩:=Ze4 he
 obtain⟨w,ew,rw'⟩:=r.get h2
 have hl:=r.length
 have hn:=ZdN
 have fin:EP X pins σ Q w s:=⟨z,H,I,rw',q⟩
 exact subscriptTail_builtinR (x:=w) pl.typeIs slot_tuple_getitem.lookup
  (getItem_tuple (j:=j) (Q:=fun r s'=>r=w/\EP X pins σ Q r s') pl (by omega) (by omega) (by rw[Z0H,<- hl];exact h1) (by simpa using ew) ⟨rfl,fin⟩) hs
theorem Zmi:IxR X Zp9:=by
 intro value slice pins s σ H x y v u Q I rx ry h hs
 obtain⟨z,i,c,rfl,rfl,hz,he,q⟩:=h
 obtain⟨t,rfl⟩:=rx
 obtain⟨t',rfl⟩:=ry
 obtain⟨j,h1,h2,h3,h4,h5⟩:=Ze4 he
 have hl:z.cps.toList.length=z.length:=by simp[Str.length]
 rw[hl] at h1 h4 h5
 have hn:=ZdN
 exact tail_any (typeIs_str s z t) slot_str_getitem.lookup (getItem_str (c:=c) (by
  have e1:decide (i < -(2^63:Int))=false:=decide_eq_false (by omega)
  have e2:decide (i ≥ 2^63)=false:=decide_eq_false (by omega)
  rw[e1,e2,Bool.or_false]) (by rw[h1];simpa using h2) ⟨.str ⟨#[c]⟩,H,I.tok _,⟨_,rfl⟩,q⟩) hs
noncomputable def rIx (K:W.Frag):R2:=fun x y H Q=>Zod K x y H Q\/Zq0 K x y H Q\/Zp9 x y H Q
theorem ZoF:IxR X (rIx X.K):=ZmY.or (ZoE.or Zmi)
theorem ZhV (its:List Value) (n j:Nat) (u:Value):Obj.mapSeq (·.setIfInBounds j u) { cls:=.type "list",data:=.seq its.toArray n }={ cls:=.type "list",data:=.seq (its.set j u).toArray n }:=by
 simp[Obj.mapSeq]
theorem Inv.lst {pins:List (Addr×Obj)}{σ:St}{H:Hp}{s:Shared}{p:Addr}{xs:List V} (I:Inv X pins σ H s) (h:H p=some (.lst xs)) :
  ∃(its:List Value) (n:Nat),JD xs its/\s.heap.get? p=some { cls:=.type "list",data:=.seq its.toArray n }/\xs.length<=sizeLine:=by
 obtain⟨z,its,n,r,e⟩:=I.hok p _ h
 exact⟨its,n,r,e,z⟩
theorem Inv.lstUpd {pins:List (Addr×Obj)}{σ:St}{H:Hp}{s:Shared}{p:Addr}{xs ys:List V}{its its':List Value}{n n':Nat}{f:Obj->Obj} (I:Inv X pins σ H s) (h:H p=some (.lst xs))
  (ho:s.heap.get? p=some { cls:=.type "list",data:=.seq its.toArray n }) (hf:f { cls:=.type "list",data:=.seq its.toArray n }={ cls:=.type "list",data:=.seq its'.toArray n' }) (r:JD ys its') (hz:ys.length<=sizeLine) (t:Nat) :
  Inv X pins σ (upd H p (.lst ys)) { s with heap:=s.heap.update p f,toks:=t }:=by
 have e:(s.heap.update p f).get? p=some { cls:=.type "list",data:=.seq its'.toArray n' }:=by
  rw[Heap.get?_update_self f ho (by rw[hf]<;>rfl),hf]
 refine I.write (x:=p) (e:=p) (by rw[h];trivial) (.inl rfl) (fun b u hb q=>(Heap.get?_update_other _ _ (Ne.symm hb)).trans q) ⟨_,e⟩ ?_
 exact⟨hz,its',n',r,e⟩
def Zm4:V->V->V->Hp->(Hp->Prop)->Prop:=fun o i v H Q=>∃p xs k j,o=.ref p/\i=.int k/\H p=some (.lst xs)/\ixN xs.length k=some j/\Q (upd H p (.lst (xs.set j v)))
theorem ZcA:Zql X Zm4:=by
 intro pins s σ H o i v ov iv u Q I ro ri rv h
 obtain⟨p,xs,k,j,rfl,rfl,hp,hj,q⟩:=h
 cases ro
 obtain⟨t,rfl⟩:=ri
 obtain⟨its,n,r,ho,hz⟩:=I.lst hp
 obtain⟨h1,h2,h3,h4⟩:=Zj6 hj
 have hl:=r.length
 have hn:=ZdN
 have I':Inv X pins σ (upd H p (.lst (xs.set j v))) { s with heap:=s.heap.update p (Obj.mapSeq (·.setIfInBounds j u)) }:=
  I.lstUpd hp ho (ZhV its n j u) (r.set rv j) (by rw[Z1R];exact hz) s.toks
 by_cases h0:0<=k
 ·have hk:k.toNat=j:=by
   rw[seqIndex_of h0 h4] at h1
   exact Option.some.inj h1
  exact PySem.W.ki_setAt ho h0 (by omega) (by rw[Z0H,<- hl];exact h4) (by rw[hk];exact⟨_,I',q⟩)
 ·have hk:(k+(its.toArray.size:Int)).toNat=j:=by
   rw[seqIndex_neg (by omega) h3] at h1
   rw[Z0H,<- hl]
   exact Option.some.inj h1
  exact PySem.W.ki_setBack ho (by omega) (by rw[Z0H,<- hl];exact h3) (by omega) (by rw[hk];exact⟨_,I',q⟩)
theorem Zfy:ZbD X (.builtin "len") (fun xs H Q=>∃p ys,xs=[.ref p]/\(SqL X.K H p ys\/SqT X.K H p ys)/\Q (.int ys.length) H):=by
 intro pins s σ H xs us Q I r h
 obtain⟨p,ys,rfl,hq,q⟩:=h
 obtain⟨u,rfl,rx⟩:=ZfC r
 cases rx
 have hn:=ZdN
 rcases hq with hq|hq
 ·obtain⟨its,r',pl,hz⟩:=I.list hq
  have hlen:=r'.length
  exact Calls.call_len_list pl.isList (by simp only[Z0H]<;>omega) ⟨.int ys.length,H,I.tok _,⟨s.toks+1,by rw[Z0H,hlen]⟩,q⟩
 ·obtain⟨its,r',pl,hz⟩:=I.tuple hq
  have hlen:=r'.length
  exact len_tuple pl (by simp only[Z0H]<;>omega) ⟨.int ys.length,H,I.tok _,⟨s.toks+1,by rw[Z0H,hlen]⟩,q⟩
theorem Zfx:ZbD X (.type "list") (fun xs H Q=>∃p ys,xs=[.ref p]/\(SqL X.K H p ys\/SqT X.K H p ys)/\∀l,H l=none->Q (.ref l) (upd H l (.lst ys))):=by
 intro pins s σ H xs us Q I r h
 obtain⟨p,ys,rfl,hq,q⟩:=h
 obtain⟨u,rfl,rx⟩:=ZfC r
 cases rx
 have fin:∀(its:List Value),JD ys its->ys.length<=sizeLine->∀(h':Heap) (c':Nat),(∀b o',s.heap.get? b=some o'->h'.get? b=some o') ->
   h'.get? s.heap.objs.size=some { cls:=.type "list",dict:=none,data:=.seq its.toArray c',slots:=#[] }->EP X pins σ Q (.ref s.heap.objs.size) { s with heap:=h' }:=fun its r' hz h' c' kp e =>
  ⟨.ref s.heap.objs.size,_,I.laid (t':=s.toks) kp (Z0D _) (show Uj X.prog X.w _ h' _ (.lst ys) from ⟨hz,its,c',r',e⟩),rfl,q _ (I.hok.fresh (Z0D _))⟩
 rcases hq with hq|hq
 ·obtain⟨its,r',pl,hz⟩:=I.list hq
  have hlen:=r'.length
  obtain⟨o,ho,hc,n,hd⟩:=pl.isList
  exact call_list_seq p (.inl rfl) ho hc hd (fun h' c' kp e=>fin its r' hz h' c' kp e) (by simp only[Z0H]<;>omega)
 ·obtain⟨its,r',pl,hz⟩:=I.tuple hq
  have hlen:=r'.length
  obtain⟨o,ho,hc,n,hd⟩:=pl
  exact call_list_seq p (.inr rfl) ho hc hd (fun h' c' kp e=>fin its r' hz h' c' kp e) (by simp only[Z0H]<;>omega)
def tyV (K:W.Frag) (T:String) (x:V) (H:Hp):Prop:=match x with
 |.str _=>T = "str"
 |.int _=>T = "int"
 |.ref p=>(T = "list"/\∃xs,SqL K H p xs)\/(T = "tuple"/\∃o,K.lookup p=some o/\o.cls=.type "tuple"/\o.dict=none) \/
   (T = "dict"/\((∃kvs,H p=some (.dK kvs))\/∃kvs,H p=some (.dT kvs)))\/(T = "set"/\∃S n,H p=some (.set S n))
 |_=>False
theorem ZnJ {pins:List (Addr×Obj)}{σ:St}{H:Hp}{s:Shared}{T:String}{x:V}{v:Value} (I:Inv X pins σ H s) (r:Vj x v) (ty:tyV X.K T x H) :
  s.TypeIs v T/\∀a,v=.ref a->∃ob,s.heap.get? a=some ob/\ob.dict=none:=by
 cases x with
 |str z =>
  obtain⟨t,rfl⟩:=r
  cases (show T = "str" from ty)
  exact⟨typeIs_str s z t,fun _ e=>nomatch e⟩
 |int i =>
  obtain⟨t,rfl⟩:=r
  cases (show T = "int" from ty)
  exact⟨typeIs_int s i t,fun _ e=>nomatch e⟩
 |ref p =>
  cases r
  rcases ty with ⟨rfl,xs,hq⟩|⟨rfl,o,hk,hc,hd⟩|⟨rfl,hk⟩|⟨rfl,S,n,hk⟩
  ·obtain⟨its,_,pl,_⟩:=I.list hq
   refine⟨pl.isList.typeIs,fun a e=>?_⟩
   cases e
   obtain⟨o,n,e,c,hd,_⟩:=pl
   exact⟨o,e,hd⟩
  ·refine⟨⟨o,I.kIn p o hk,hc⟩,fun a e=>?_⟩
   cases e
   exact⟨o,I.kIn _ o hk,hd⟩
  ·have z:∃o,s.heap.get? p=some o/\o.ExactDict:=by
    rcases hk with ⟨kvs,hk⟩|⟨kvs,hk⟩
    ·obtain⟨_,_,_,_,o,_,_,e,ex,_⟩:=I.hok p _ hk
     exact⟨o,e,ex⟩
    ·obtain⟨_,_,_,_,o,_,_,e,ex,_⟩:=I.hok p _ hk
     exact⟨o,e,ex⟩
   obtain⟨o,e,ex⟩:=z
   refine⟨⟨o,e,ex.1⟩,fun a e2=>?_⟩
   cases e2
   exact⟨o,e,ex.2.1⟩
  ·obtain⟨o,_,_,_,e,ex,_⟩:=I.hok p _ hk
   refine⟨⟨o,e,ex.1⟩,fun a e2=>?_⟩
   cases e2
   exact⟨o,e,ex.2.1⟩
 |_=>exact False.elim ty
noncomputable def tBM (K:W.Frag) (T:String) (r:V->List V->Hp->VK->Prop) (to:TE) (t:TA):TE:=fun σ H Q=>to σ H fun x H1=>tyV K T x H1/\t σ H1 fun xs H2=>r x xs H2 Q
variable {o e:Expr}{es:List Expr}{to:TE}{t:TA}{name:Str}{apos cpos:Pos}{T id:String}{r:V->List V->Hp->VK->Prop}
theorem Zol (pa:PlainAttrs T) (slot:Slot T name id) (hty:typeOf (.builtin id)=pure (.type "method_descriptor")) (hm:MtR X id r) (ho:PE X o to) (ha:PA X (e::es) t)
  (hbase:attributeBase o name X.env (eval o X.env)=eval o X.env:=by rfl)
  (hfew:((backTo cpos (starEach (e::es) X.env)).all (fun x=>!x.1)&&(backToKw cpos (keywordEach [] X.env)).all (fun x=>x.1.isSome)
   && decide ((e::es).length+([]:List Keyword).length+(if ([]:List Keyword).isEmpty then 0 else 1)<30))=true:=by rfl)
  (hline:(apos.endLine==cpos.line)=true:=by rfl) (hs:starEach (e::es) X.env=(false,eval e X.env)::starEach es X.env:=by rfl) (hplain:(backTo cpos (starEach es X.env)).any (·.1)=false:=by rfl) :
  PE X (.Call (.Attribute o name apos) (e::es) [] cpos) (tBM X.K T r to t):=by
 intro pins s σ H Q I h
 refine wpAny_Call_method_late hbase hfew hline rfl (thn (ho pins s σ H _ I h) fun v s1 ⟨x,H1,I1,r1,ty,q1⟩=>?_)
 obtain⟨h1,h2⟩:=ZnJ I1 r1 ty
 refine⟨T,id,pa,slot,hty,h1,h2, ?_⟩
 have hA:=ha cpos pins s1 σ H1 _ I1 q1
 rw[hs] at hA ⊢
 refine Calls.callWith_builtin (by show (false || (backTo cpos (starEach es X.env)).any (·.1))=false;rw[hplain]<;>rfl) (Calls.evalArgs_plain ?_)
 exact thn hA fun us s2 ⟨vs,H2,I2,r2,q2⟩=>hm pins s2 σ H2 x vs v us Q I2 r1 r2 q2
end
def MtM (X:Cx) (id:String) (r:V->List V->Hp->VK->Prop):Prop:=
 ∀(pins:List (Addr×Obj)) (s:Shared) (σ:St) (H:Hp) (x:V) (xs:List V) (v:Value) (us:List Value) (Q:VK),Inv X pins σ H s->Vj x v->JD xs us->r x xs H Q ->
  wpAny (model X.prog X.w) X.A (call (.builtin id) (v::us)) (EP X pins σ Q) X.xe s
theorem JD.one:∀{x:V}{us:List Value},JD [x] us->∃u,us=[u]/\Vj x u
 |_,_,.cons r .nil=>⟨_,rfl,r⟩
theorem JD.rep {xs:List V}{us:List Value} (h:JD xs us):∀k:Nat,JD (List.replicate k xs).flatten (List.replicate k us).flatten
 |0=>.nil
 |k+1=>by
  rw[Z0V,Z0V,Z1m,Z1m]
  exact JD.append h (JD.rep h k)
theorem Zfm (its:List Value):∀(k:Nat) (acc:List Value),
  List.foldl (fun x1 x2=>x1++x2) acc.toArray (List.replicate k its.toArray)=(acc++(List.replicate k its).flatten).toArray
 |0,acc=>by simp
 |k+1,acc=>by
  have e:acc.toArray++its.toArray=(acc++its).toArray:=by simp
  have e2:(acc++its)++(List.replicate k its).flatten=acc++(List.replicate (k+1) its).flatten:=by
   rw[Z0V,Z1m,List.append_assoc]
  rw[<- e2,<- Zfm its k (acc++its),<- e,Z0V,List.foldl_cons]
section
variable {X:Cx}{pins:List (Addr×Obj)}{σ:St}{H:Hp}{s:Shared}{l:Addr}{xs ys:List V}
theorem Inv.lset {its its':List Value}{n:Nat}{f:Array Value->Array Value}{t':Nat} (I:Inv X pins σ H s) (hH:H l=some (.lst xs))
  (e:s.heap.get? l=some { cls:=.type "list",data:=.seq its.toArray n }) (hf:f its.toArray=its'.toArray) (hv:JD ys its') (hz:ys.length<=sizeLine) :
  Inv X pins σ (upd H l (.lst ys)) { s with heap:=s.heap.update l (Obj.mapSeq f),toks:=t' }:=by
 have q:=PySem.IsL.update e f
 rw[hf] at q
 refine I.write (x:=l) (e:=l) (by rw[hH];exact trivial) (.inl rfl) (fun b' u hb hu=>(Heap.get?_update_other s.heap (Obj.mapSeq f) (Ne.symm hb)).trans hu) ⟨_,q⟩ ?_
 exact⟨hz,its',_,hv,q⟩
theorem Inv.lnew {its:List Value}{t':Nat} (I:Inv X pins σ H s) (hv:JD ys its) (hz:ys.length<=sizeLine) :
  Inv X pins σ (upd H s.heap.objs.size (.lst ys)) { s with heap:=s.heap.push { cls:=.type "list",data:=.seq its.toArray },toks:=t' }:=
 I.laid (fun _ _ q=>Heap.get?_push_of_some _ q) (Z0D _) ⟨hz,its,0,hv,Heap.get?_push_size _ rfl⟩
theorem Inv.fresh (I:Inv X pins σ H s):H s.heap.objs.size=none:=I.hok.fresh (Z0D _)
theorem Inv.lstM (I:Inv X pins σ H s) (hH:H l=some (.lst xs)):xs.length<=sizeLine/\∃(its:List Value) (n:Nat),JD xs its/\xs.length=its.length/\s.heap.get? l=some { cls:=.type "list",data:=.seq its.toArray n }:=by
 obtain⟨z,its,n,r,e⟩:=I.hok l _ hH
 exact⟨z,its,n,r,r.length,e⟩
theorem Zla {n:Nat} (h:n<=sizeLine):Builtin.List.listTooLong n=false:=by
 unfold Builtin.List.listTooLong
 exact decide_eq_false (by omega)
end
section
variable {X:Cx}
def ZiN:V->List V->Hp->VK->Prop:=fun x vs H Q=>∃l xs y,x=.ref l/\vs=[y]/\H l=some (.lst xs)/\xs.length<sizeLine/\Q .non (upd H l (.lst (xs++[y])))
theorem Zjt:MtM X "list.append" ZiN:=by
 intro pins s σ H x vs v us Q I rx rv h
 obtain⟨l,xs,y,rfl,rfl,hH,hz,q⟩:=h
 cases rx
 obtain⟨u,rfl,ru⟩:=rv.one
 obtain⟨z,its,n,r,hl,e⟩:=I.lstM hH
 refine call_meets F.slot_list_append ⟨_,e,rfl⟩ F.entry_list_append (F.args_list_append_2 _ _) (PySem.list_append l its.toArray n u (by rw[Z0H];omega)) ⟨e, ?_⟩
 refine⟨.non,_,I.lset (its':=its++[u]) hH e (by simp) (r.append (.cons ru .nil)) ?_,rfl,q⟩
 rw[Z0Z,List.length_singleton]
 omega
noncomputable def Zqz:R2:=fun x y H Q=>∃l k xs,x=.ref l/\y=.int k/\H l=some (.lst xs)/\-(2^63)<=k/\k<2^63/\xs.length*k.toNat<=sizeLine /\
 ∀p,H p=none->Q (.ref p) (upd H p (.lst (List.replicate k.toNat xs).flatten))
theorem Zj2 {α:Type} (xs:List α) (k:Nat):(List.replicate k xs).flatten.length=k*xs.length:=by
 induction k with
 |zero=>simp
 |succ k ih=>rw[Z0V,Z1m,Z0Z,ih,Nat.succ_mul,Nat.add_comm]
theorem Zjj:OpR X (binaryOp .Mult) Zqz:=by
 intro pins s σ H x y v u Q I rx ry h
 obtain⟨l,k,xs,rfl,rfl,hH,h1,h2,hz,q⟩:=h
 cases rx
 obtain⟨t,rfl⟩:=ry
 obtain⟨z,its,n,r,hl,e⟩:=I.lstM hH
 have hlen:its.toArray.size*k.toNat<=sizeLine:=by rw[Z0H,<- hl];exact hz
 have hcap:¬its.toArray.size*k.toNat>(2^63-1)/8:=by
  have:(sizeLine:Nat)<=(2^63-1)/8:=by decide
  omega
 have hfit:¬(!Builtin.List.listFitsIndex k)=true:=by
  rw[fitsIndex_both h1 h2]
  exact Bool.false_ne_true
 have hlong:¬Builtin.List.listTooLong (its.toArray.size*k.toNat)=true:=by
  rw[Zla hlen]
  exact Bool.false_ne_true
 have hnew:List.foldl (fun x1 x2=>x1++x2) #[] (List.replicate (if its.toArray.isEmpty=true then 0 else k.toNat) its.toArray)=(List.replicate k.toNat its).flatten.toArray:=by
  have f0:∀m:Nat,List.foldl (fun x1 x2=>x1++x2) #[] (List.replicate m its.toArray)=(List.replicate m its).flatten.toArray:=fun m=>by
   have:=Zfm its m []
   rw[Z1G] at this
   exact this
  rw[f0]
  cases its with
  |nil=>simp
  |cons a r'=>rw[if_neg (by simp)]
 refine wpAny_binaryOp_repeat_ref (T := "list") (U := "int") (by decide) ⟨_,e,rfl⟩ (fun s'=>typeIs_int s' k t) noFill_list_mul F.fills_int_mul F.slot_int_rmul repeat_list F.slot_int_index.lookup
  (call_meets F.slot_int_rmul (typeIs_int s k t) F.entry_int_rmul (F.args_int_rmul_2 _ _) (int___rmul___int_list k t l its.toArray n)
   ⟨e,rfl,⟨_,e,rfl⟩,call_meets F.slot_list_mul ⟨_,e,rfl⟩ F.entry_list_mul (F.args_list_mul_2 _ _) (AutoListH.list___mul___list_int_3 l its.toArray n k t hfit hcap hlong) ⟨e, ?_⟩⟩)
 rw[hnew]
 exact⟨.ref _,_,I.lnew (t':=s.toks) (r.rep k.toNat) (by rw[Zj2,Nat.mul_comm];exact hz),rfl,q _ I.fresh⟩
end
section
set_option maxRecDepth 100000 in
end
section
end
end L2
namespace Att
open PySem PySem.W PySem.Calls PyProof.Rows
theorem Zdk {P:Params}{h:Heap}:∀(ns:List Int) (vs:List Value),WellAll P h vs (ns.map WData.int)->IntsAre vs ns:=by
 intro ns
 induction ns with
 |nil =>
  intro vs w
  rw[Z1I] at w
  cases w
  exact .nil
 |cons n ns ih =>
  intro vs w
  rw[Z0R] at w
  cases w with
  |cons a b =>
   cases a
   exact .cons _ _ (ih _ b)
theorem ZiG {l:OpenLaw}{n:Nat} (hn:l.most=some n) {P:Params}{h:Heap}{args:List WData}{vals:List Value}
  (hpre:l.row.toRowW.claim.pre args=true) (hwl:WellAll P h vals args) :
  ∃a vs ns,vals=[Value.ref a]/\args=[WData.list (ns.map WData.int)]/\h.get? a=some { cls:=.type "list",data:=.seq vs.toArray }/\IntsAre vs ns/\ns.length<=n:=by
 have hsh:WShape.hasAll [] args [.list .int]=true:=(pre_splitW hpre).1
 have hc:l.pre.holds [] { args:=args }=true:=(pre_splitW hpre).2
 obtain⟨d,r,rfl,h1,h2⟩:=hasAllW_cons hsh
 obtain rfl:=hasAllW_nil h2
 obtain⟨xs,rfl,h3⟩:=hasW_list h1
 obtain⟨ns,rfl⟩:=items_int h3
 have hlen:ns.length<=n:=by
  unfold OpenLaw.pre at hc
  have h4:(WTm.not (.lt (.lit (.int (n:Int))) (.len (.arg 0)))).holds [] { args:=[.list (ns.map .int)] }=true:=by
   have h4:=(holds_andW hc).1
   rw[hn] at h4
   exact h4
  have h5:=condW_of h4 (w_not (w_lt w_lit (w_len_list (w_arg rfl))))
  rw[Z0K] at h5
  refine Nat.le_of_not_lt fun q=>?_
  have q':(n:Int)<((ns.length:Nat):Int):=by omega
  first
   |(rw[decide_eq_true q'] at h5;exact absurd h5 (by decide))
   |(simp at h5;omega)
 cases hwl with
 |cons w1 w2 =>
  cases w2
  cases w1 with
  |list ho hall=>exact⟨_,_,ns,rfl,rfl,ho,Zdk ns _ hall,hlen⟩
theorem ZiQ (l:OpenLaw) (args:List WData):l.row.toRowW.claim.post args (.bool true) args=true:=
 postW_of (r:=l.row.toRowW) (X:=(true==true))
  (show WShape.has [] (.bool true) .bool=true by first|rfl|decide|simp[WShape.has,WShape.arms,WShape.armsAll])
  (show (WTm.eq .res (.lit (.bool true))).value [] { args:=args,res:=some (.bool true),after:=args }=some (.bool (true==true)) from w_eq_bool (w_res rfl) w_lit) rfl
theorem Zgt {l:OpenLaw}{n:Nat}{q:Program}{loose:List Str}{XP:(Str->Option Value)->Heap->Prop}{YP:World->Heap->Prop}{d:DefRec}
  (hn:l.most=some n) (hdf:d.params.defaults=[])
  (call:∀(w:World) (s₀ s₁:Shared) (mg mb:Str->Option Value) (fa:Addr) (o:Obj) (pm cd doc:Value) (a:Addr) (vs:List Value) (ns:List Int),
   Ground q loose [] XP w s₀ mg mb s₁.heap->YP w s₁.heap ->
   s₁.heap.get? fa=some o->o.data=.func (docDef d.name d.params d.body d.scope pm cd doc)->s₁.heap.CodeRec cd d.name->mg d.name=some (.ref fa) ->
   s₁.heap.get? a=some { cls:=.type "list",data:=.seq vs.toArray }->IntsAre vs ns->ns.length<=n->s₁.gens=#[] ->
   codeAny (model l.prog w) callerA (.call (.ref fa) ⟨[.ref a],[]⟩) (fun r s'=>r=.ok (.ret (.bool true))/\OldK s₁.heap s'.heap/\s'.os=s₁.os/\AllBare s'.gens) s₁) :
  WalkO q loose XP YP l.row.toRowW d [] (fun f vs=>PySem.call f vs):=by
 intro w s₀ s₁ mg mb G Y fa o pm cd doc dV kV ho hd hcd hD hmg hg args vals as hpre hlay hrd hwl hlo
 obtain rfl:dV=.none:=Dflts.none hD hdf
 obtain rfl:kV=.none:=Dflts.noKw hD
 obtain⟨a,vs,ns,rfl,rfl,hobj,hints,hlen⟩:=ZiG hn hpre hwl
 refine enter_call (codeAny_mono (call w s₀ s₁ mg mb fa o pm cd doc a vs ns G Y ho (fd_plain hd) hcd hmg hobj hints hlen hg) fun r s' hq=>?_)
 obtain⟨rfl,h2,h3,h4⟩:=hq
 exact⟨.inl ⟨.bool true,.bool true,[],rfl,fun _=>rfl,.bool true,ZiQ l _,fun _=>⟨List.Pairwise.nil,fun _ hm=>(nomatch hm)⟩⟩,h2,h3,h4⟩
section
end
end Att
namespace L2
open PySem PySem.Spec PyProof.Rows
theorem Ze8:∀{vs:List Value}{ns:List Int},IntsAre vs ns->JD (ns.map V.int) vs
 |_,_,.nil=>.nil
 |_,_,.cons n t h=>.cons ⟨t,rfl⟩ (Ze8 h)
def Zpk (H:Hp):Prop:=∀b,H b=none\/∃o xs,H b=some (.frz o (.lst xs))
theorem Zlk {P:Program}{w:World}{K:W.Frag}{mg mb:Str->Option Value}{CX:CXT}{k:Nat}{fa a:Addr}{fd:FuncData}{x:Str}{sp:Sp}{s₁:Shared}{vs:List Value}{ns:List Int}
  (KX:K.In s₁.heap) (hns:s₁.heap.Ns mainGlobals mg) (hb:s₁.heap.Ns builtinsNs mb) (hbb:∀x:Str,x ≠ "__name__"->mb x=bootBuiltins x) (hlim:s₁.heap.NoLimit) (hg:s₁.gens=#[])
  (ha:s₁.heap.get? a=some { cls:=.type "list",data:=.seq vs.toArray }) (hi:IntsAre vs ns) (hl:ns.length<=sizeLine) (hr:ZbB k callerA)
  (F:∀base:Heap,K.In base->base.Ns mainGlobals mg->J5 P w K mg base CX k fa fd [x] sp) (hbind:∀(s:Shared) (u:Value),BindsTo s fd ⟨[u],[]⟩ [(x,u)])
  (hsp:∀H:Hp,Zpk H->SqL K H a (ns.map V.int)->sp [.ref a] H (fun v _=>v=.bl true) fun _ _ _=>False)
  (hCX:∀H e s',CX [] H s₁ (fun _ _ _=>False) e s'->False) :
  codeAny (model P w) callerA (.call (.ref fa) ⟨[.ref a],[]⟩) (fun r s'=>r=.ok (.ret (.bool true))/\OldK s₁.heap s'.heap/\s'.os=s₁.os/\AllBare s'.gens) s₁:=by
 have rv:=Ze8 hi
 have lenV:=hi.length
 have core:∀H:Hp,Zpk H->SqL K H a (ns.map V.int)->HOk P w H s₁.heap->(∀b,H b≠none->b=a)->(H a≠none->K.lookup a=none) ->
   codeAny (model P w) callerA (.call (.ref fa) ⟨[.ref a],[]⟩) (fun r s'=>r=.ok (.ret (.bool true))/\OldK s₁.heap s'.heap/\s'.os=s₁.os/\AllBare s'.gens) s₁:=by
  intro H hO hS hok hA hK
  have base_of:∀{b:Addr}{o:Obj},s₁.heap.get? b=some o->H b=none->(Zlq s₁.heap H).get? b=some o:=fun e n=>Zlp e n
  have noA:∀{b:Addr}{o:Obj}{es:Array DictEntry}{ep:Nat},s₁.heap.get? b=some o->o.data=.dict es ep->H b=none:=fun {b o es ep} e d=>by
   cases q:H b with
   |none=>rfl
   |some u =>
    have e':b=a:=hA b (by rw[q];simp)
    subst e'
    rw[ha] at e;cases e
    have d':Data.seq vs.toArray _=Data.dict es ep:=d
    cases d'
  have nsK:∀{b:Addr}{m:Str->Option Value},s₁.heap.Ns b m->(Zlq s₁.heap H).Ns b m:=fun {b m} ⟨o,es,ep,e,d,r⟩=>⟨o,es,ep,base_of e (noA e d),d,r⟩
  have hKb:K.In (Zlq s₁.heap H):=fun b o e=>base_of (KX b o e) (by
   cases q:H b with
   |none=>rfl
   |some u =>
    have e':b=a:=hA b (by rw[q];simp)
    subst e'
    rw[hK (by rw[q];simp)] at e;cases e)
  have hM:Mod K mg (Zlq s₁.heap H):=⟨hKb,nsK hns,⟨mb,nsK hb,hbb⟩,let ⟨mc,h1,h2⟩:=hlim;⟨mc,nsK h1,h2⟩⟩
  have e0:Zn1 P w K mg (Zlq s₁.heap H) callerA [] s₁ H:=⟨rfl,hM,fun b o e=>ZmO e,Nat.le_of_eq (ZjE _ _),trivial,fun b hb=>absurd (show b∈([]:List Addr) from hb) (by simp),hok,.of_eq hg⟩
  refine codeAny_mono ((F _ hKb (nsK hns)).run callerA [] s₁ H ⟨[.ref a],[]⟩ [.ref a] [.ref a] _ _ hr e0 (hbind s₁ (.ref a)) (.cons rfl .nil) (hsp H hO hS)) fun r s' h=>?_
  cases r with
  |error e=>exact(hCX H e s' h).elim
  |ok fl =>
   cases fl with
   |next=>exact False.elim h
   |brk=>exact False.elim h
   |cont=>exact False.elim h
   |ret u =>
    obtain⟨v,H',os,bare,un,hok',r',q⟩:=h
    have q':v=.bl true:=q
    subst q'
    obtain rfl:u=Value.bool true:=r'
    refine⟨rfl,OldK.of_keep fun b o e=>?_,os,bare⟩
    cases q:H b with
    |none=>exact un.keep b o e q (by intro z;exact absurd (show b∈([]:List Addr) from z) (by simp)) (by simp)
    |some u =>
     rcases hO b with z|⟨ob,xs,z⟩
     ·rw[q] at z;cases z
     ·have z2:=un.frzs b ob _ z
      obtain⟨e1,_⟩:=hok b _ z
      obtain⟨e2,_⟩:=hok' b _ z2
      rw[e] at e1;cases e1
      exact e2
 cases hk:K.lookup a with
 |some o =>
  have e:=KX a o hk
  rw[ha] at e
  cases e
  refine core (fun _=>none) (fun _=>.inl rfl) (.inr ⟨_,vs.toArray,_,hk,rfl,rfl,rfl,by rw[Z0H,lenV];exact hl,by simpa using rv⟩) (fun b u z=>by have z':(none:Option HO)=some u:=z;cases z') (fun b z=>absurd rfl z) fun z=>absurd rfl z
 |none =>
  refine core (fun b=>if b=a then some (.frz { cls:=.type "list",data:=.seq vs.toArray } (.lst (ns.map V.int))) else none) (fun b=>?_) (.inl (.inr ⟨{ cls:=.type "list",data:=.seq vs.toArray },if_pos rfl⟩)) (fun b u z=>?_) (fun b z=>?_) fun _=>hk
  ·by_cases hb:b=a
   ·exact .inr ⟨_,_,if_pos hb⟩
   ·exact .inl (if_neg hb)
  ·by_cases hb:b=a
   ·have z':=(if_pos hb).symm.trans z
    cases z'
    subst hb
    exact⟨ha,by rw[Z0K];exact hl,vs,_,rv,ha⟩
   ·have z':=(if_neg hb).symm.trans z
    cases z'
  ·by_cases hb:b=a
   ·exact hb
   ·exact absurd (if_neg hb) z
noncomputable abbrev KOf {K:W.Frag}{h:Heap} (_:K.In h):W.Frag:=K
theorem Zmw {l:PySem.W.OpenLaw}{n k:Nat}{q:Program}{loose:List Str}{XP:(Str->Option Value)->Heap->Prop}{YP:World->Heap->Prop}{d:DefRec}{K:Params->W.Frag}{CX:World->CXT}{sp:World->Sp}{x:Str}
  (hn:l.most=some n) (hn2:n<=sizeLine) (hdf:d.params.defaults=[]) (hr:ZbB k callerA)
  (hY:∀(w:World) (h:Heap),YP w h->(K w.params).In h)
  (F:∀(w:World) (mg:Str->Option Value) (fa:Addr) (h:Heap),(K w.params).In h->h.Ns mainGlobals mg->mg d.name=some (.ref fa) ->
   ∃fd:FuncData,(∀(s:Shared) (u:Value),BindsTo s fd ⟨[u],[]⟩ [(x,u)]) /\
    ∀base:Heap,(K w.params).In base->base.Ns mainGlobals mg->J5 l.prog w (K w.params) mg base (CX w) k fa fd [x] (sp w))
  (hsp:∀(w:World) (H:Hp) (a:Addr) (ns:List Int),ns.length<=n->Zpk H->SqL (K w.params) H a (ns.map V.int)->sp w [.ref a] H (fun v _=>v=.bl true) fun _ _ _=>False)
  (hCX:∀(w:World) (H:Hp) (s:Shared) (e:Value) (s':Shared),CX w [] H s (fun _ _ _=>False) e s'->False) :
  PySem.W.WalkO q loose XP YP l.row.toRowW d [] (fun f vs=>PySem.call f vs):=by
 refine Att.Zgt hn hdf fun w s₀ s₁ mg mb fa o pm cd doc a vs ns G Y ho hd hcd hmg hobj hints hlen hg=>?_
 have KX:=hY w _ Y
 obtain⟨fd,hb,hF⟩:=F w mg fa _ KX G.T.g hmg
 exact Zlk KX G.T.g G.T.b G.T.builtins G.T.nolimit hg hobj hints (Z0U hlen hn2) hr hF hb (fun H hO hS=>hsp w H a ns hlen hO hS) fun H e s'=>hCX w H s₁ e s'
theorem Zkz {l:PySem.W.OpenLaw}{n k:Nat}{q:Program}{loose:List Str}{XP:(Str->Option Value)->Heap->Prop}{YP:World->Heap->Prop}{d:DefRec}{K:Params->W.Frag}{CX:CXT}{sp:W.Frag->Sp}{x:Str}
  (hn:l.most=some n) (hn2:n<=sizeLine) (hdf:d.params.defaults=[]) (hr:ZbB k callerA)
  (hY:∀(w:World) (h:Heap),YP w h->(K w.params).In h)
  (F:∀(w:World) (mg:Str->Option Value) (fa:Addr) (h:Heap),(K w.params).In h->h.Ns mainGlobals mg->mg d.name=some (.ref fa) ->
   ∃fd:FuncData,(∀(s:Shared) (u:Value),BindsTo s fd ⟨[u],[]⟩ [(x,u)]) /\
    ∀base:Heap,(K w.params).In base->base.Ns mainGlobals mg->J5 l.prog w (K w.params) mg base CX k fa fd [x] (sp (K w.params)))
  (hsp:∀(K:PySem.W.Frag) (H:Hp) (a:Addr) (ns:List Int),ns.length<=n->Zpk H->SqL K H a (ns.map V.int)->sp K [.ref a] H (fun v _=>v=.bl true) fun _ _ _=>False)
  (hCX:∀(H:Hp) (s:Shared) (e:Value) (s':Shared),CX [] H s (fun _ _ _=>False) e s'->False) :
  PySem.W.WalkO q loose XP YP l.row.toRowW d [] (fun f vs=>PySem.call f vs):=
 Zmw (K:=K) (CX:=fun _=>CX) (sp:=fun w=>sp (K w.params)) hn hn2 hdf hr hY F (fun w H a ns h1 h2 h3=>hsp (K w.params) H a ns h1 h2 h3) fun _ H s e s'=>hCX H s e s'
noncomputable def J4 (s:Stmt) (j:Nat):Stmt:=match s with
 |.ClassDef _ _ _ body _ _ _ _ _ _ _=>body.getD j (.Pass ⟨0,0,0,0⟩)
 |_=>.Pass ⟨0,0,0,0⟩
noncomputable def Zq (s:Stmt):Arguments:=match s with
 |.FunctionDef _ a _ _ _ _ _ _ _ _=>a
 |_=>{ posonlyargs:=[],args:=[],vararg:=none,kwonlyargs:=[],kw_defaults:=[],kwarg:=none,defaults:=[] }
noncomputable def Zo (s:Stmt):List Stmt:=match s with
 |.FunctionDef _ _ b _ _ _ _ _ _ _=>b
 |_=>[]
noncomputable def Ze (s:Stmt):Scope:=match s with
 |.FunctionDef _ _ _ _ _ _ sc _ _ _=>sc
 |_=>{ kind:=.function,names:=[],isGenerator:=false,isCoroutine:=false }
noncomputable abbrev CX0:CXT:=fun _ _ _ _ _ _=>False
noncomputable abbrev E0:XK:=fun _ _ _=>False
theorem ZkK {X:Cx}:Zf4 CX0 X E0:=fun _ _ _ _ _ _ _ h=>h.elim
structure Fun (K:PySem.W.Frag) (x qual:Str) (st:Stmt) (f:Addr) (fd:FuncData):Prop where
 ex:∃(oc:Value) (od:Option Addr) (kV doc pm:Value) (an:Option Addr) (cdv ct:Value) (osl:Array (Option Value)),
  fd=PySem.W.fnOf x qual (Zq st) (Zo st) (Ze st) .none kV doc pm an cdv ct/\K.lookup f=some ⟨oc,od,.func fd,osl⟩/\PySem.W.codeIn K cdv qual=true
 kp:PySem.W.keepIn K (.ref f)=true
section
variable {P:Program}{w:World}{K:W.Frag}{mg:Str->Option Value}{base:Heap}
theorem Fun.ok {x qual:Str}{st:Stmt}{f:Addr}{fd:FuncData}{N ps:List Str}{k:Nat}{sp:Sp} (F:Fun K x qual st f fd) (S:Zs N ps (Ze st)) (len:∀vs H Q E,sp vs H Q E->vs.length=ps.length)
  (hbody:∀(cdv:Value) (A:Around) (outer:List Env) (s:Shared) (H:Hp) (vs:List V) (Q:VK) (E:XK),ZbB k (A.deeper (envOfC qual (Ze st) s.heap.objs.size f cdv))->sp vs H Q E ->
   ∃t,PSs (Zc9 CX0 P w K mg base N qual (Ze st) f cdv A outer s H E).nox (Zo st) t/\t { nx:=fun _ H'=>Q .non H',rt:=Q } (ZbS N vs) H):J5 P w K mg base CX0 (k+1) f fd ps sp:=by
 obtain⟨oc,od,kV,doc,pm,an,cdv,ct,osl,rfl,lk,hcd⟩:=F.ex
 refine ZoN lk hcd S len fun A outer s H vs Q E hr hsp=>?_
 obtain⟨t,h,q⟩:=hbody cdv A outer s H vs Q E hr hsp
 exact⟨t,h.nox,q⟩
theorem Fun.binds {x qual:Str}{st:Stmt}{f:Addr}{fd:FuncData}{ps:List Str} (F:Fun K x qual st f fd)
  (h:∀(kV doc pm:Value) (an:Option Addr) (cdv ct:Value) (us:List Value),us.length=ps.length->bindArgs (PySem.W.fnOf x qual (Zq st) (Zo st) (Ze st) .none kV doc pm an cdv ct) ⟨us,[]⟩=pure (ps.zip us)):Zck K fd ps []:=by
 obtain⟨oc,od,kV,doc,pm,an,cdv,ct,osl,rfl,lk,hcd⟩:=F.ex
 exact .all (h kV doc pm an cdv ct)
theorem Zy {x qual:Str}{st:Stmt}{f:Addr}{oc:Value}{od an:Option Addr}{osl:Array (Option Value)}{kV doc pm cdv ct:Value} (l:K.lookup f=some ⟨oc,od,.func (PySem.W.fnOf x qual (Zq st) (Zo st) (Ze st) .none kV doc pm an cdv ct),osl⟩)
  (c:PySem.W.codeIn K cdv qual=true) (k:PySem.W.keepIn K (.ref f)=true):Fun K x qual st f (PySem.W.fnOf x qual (Zq st) (Zo st) (Ze st) .none kV doc pm an cdv ct):=⟨⟨oc,od,kV,doc,pm,an,cdv,ct,osl,rfl,l,c⟩,k⟩
variable {X:Cx}
theorem pv (i:Nat) {x:Str}{pos:Pos} (hN:X.N[i]?=some x:=by rfl) (hv:Vis X.env.scope x:=by first|exact Or.inl rfl|exact Or.inr (Or.inl rfl)|exact Or.inr (Or.inr rfl)) (hd:(x==("__debug__":Str))=false:=by decide)
  (hcd:(x==("__classdict__":Str))=false:=by decide):PE X (.Name x pos) (ZfE i):=Zoi hN hv hd hcd
end
def ZL (H H':Hp):Prop:=∀b o,H b=some o->H' b=some o
theorem ZL.refl (H:Hp):ZL H H:=fun _ _ h=>h
theorem ZL.trans {H H1 H2:Hp} (a:ZL H H1) (b:ZL H1 H2):ZL H H2:=fun c o h=>b c o (a c o h)
theorem ZL.free {H H':Hp} (e:ZL H H') {l:Addr} (h:H' l=Option.none):H l=Option.none:=by
 cases q:H l with
 |none=>rfl
 |some o =>
  rw[e l o q] at h
  cases h
end L2
set_option maxHeartbeats 4000000
namespace L2
open PySem PySem.Spec PyProof.Rows
noncomputable def ZjX (scope:Scope) (env:Env):List (Str×Addr):=
 ((scope.names.filter fun p=>p.2==.free).reverse).map fun p=>(p.1,(env.cells.lookup p.1).getD 0)
theorem Zcc {β:Type}:∀{l:List (Str×β)}{a:Str}{b:β},(a,b)∈l->∃c,l.lookup a=some c
 |[],_,_,h=>absurd h (by simp)
 |(n,v)::r,a,b,h=>by
  cases e:a==n with
  |true=>exact⟨v,by simp[Z0W,e]⟩
  |false =>
   rcases Z0G.mp h with z|z
   ·cases z;simp at e
   ·obtain⟨c,hc⟩:=Zcc z
    exact⟨c,by simp[Z0W,e,hc]⟩
theorem Jn {env:Env}:∀{names:List (Str×NameKind)}{y:Str}{k:NameKind},(∀p∈names,p.2≠.cell) ->
  (names.map fun(n,k)=>if (k==NameKind.free&&env.scope.kind==.function&&env.kindOf n==some .cell) then (n,NameKind.cell) else (n,k)).lookup y=some k ->
  (k=.local->names.lookup y=some .local)/\(k=.cell\/k=.free->names.lookup y=some .free)
 |[],_,_,_,h=>by simp at h
 |(n,k0)::r,y,k,nc,h=>by
  have ih:=@Jn env r y k (fun p hp=>nc p (Z0P _ hp))
  have nc0:=nc (n,k0) Z1q
  have h':Z1o y ((if (k0==NameKind.free&&env.scope.kind==.function&&env.kindOf n==some .cell)=true then (n,NameKind.cell) else (n,k0))::(r.map fun(n,k)=>if (k==NameKind.free&&env.scope.kind==.function&&env.kindOf n==some .cell) then (n,NameKind.cell) else (n,k)))=some k:=h
  cases hx:y==n with
  |true =>
   by_cases hc:(k0==NameKind.free&&env.scope.kind==.function&&env.kindOf n==some .cell)=true
   ·rw[if_pos hc] at h'
    simp only[Z0W,hx] at h'
    have hk:NameKind.cell=k:=Option.some.inj h'
    subst hk
    have hf:k0=.free:=by
     simp only[Bool.and_eq_true] at hc
     exact beq_iff_eq.mp hc.1.1
    subst hf
    exact⟨(fun z=>nomatch z),fun _=>by simp[Z0W,hx]⟩
   ·rw[if_neg hc] at h'
    simp only[Z0W,hx] at h'
    have hk:k0=k:=Option.some.inj h'
    subst hk
    refine⟨fun z=>by subst z;simp[Z0W,hx],fun z=>?_⟩
    rcases z with z|z
    ·exact absurd z nc0
    ·subst z;simp[Z0W,hx]
  |false =>
   by_cases hc:(k0==NameKind.free&&env.scope.kind==.function&&env.kindOf n==some .cell)=true
   ·rw[if_pos hc] at h'
    simp only[Z0W,hx] at h'
    have:=ih h'
    simpa[Z0W,hx] using this
   ·rw[if_neg hc] at h'
    simp only[Z0W,hx] at h'
    have:=ih h'
    simpa[Z0W,hx] using this
noncomputable def Zgq (N:List Str) (sc scope:Scope) (x:Str):Bool:=
 (scope.names.all fun p=>!(p.2==.cell))&&(scope.kind==.function)&&(scope.names.all fun p=>!(p.2==.local) || scope.names.lookup p.1==some .local)&&(scope.names.lookup x==some .local)
  && (N.all fun y=>!(scope.names.lookup y==some .local))&&(scope.names.all fun p=>!(p.2==.free) || sc.names.lookup p.1==some .cell || sc.names.lookup p.1==some .free)
structure Zee (N:List Str) (sc scope:Scope) (x:Str):Prop where
 nc:∀p∈scope.names,p.2≠.cell
 kind:scope.kind=.function
 locs:∀p∈scope.names,p.2=.local->scope.names.lookup p.1=some .local
 var:scope.names.lookup x=some .local
 noN:∀y∈N,scope.names.lookup y≠some .local
 fr:∀p∈scope.names,p.2=.free->sc.names.lookup p.1=some .cell\/sc.names.lookup p.1=some .free
theorem Zee.of {N:List Str}{sc scope:Scope}{x:Str} (h:Zgq N sc scope x=true):Zee N sc scope x:=by
 unfold Zgq at h
 simp only[Bool.and_eq_true,Z0Q,Bool.or_eq_true,Bool.not_eq_true',beq_iff_eq,beq_eq_false_iff_ne] at h
 obtain⟨⟨⟨⟨⟨h1,h2⟩,h3⟩,h4⟩,h5⟩,h6⟩:=h
 refine⟨h1,h2,fun p hp e=>?_,h4,h5,fun p hp e=>?_⟩
 ·rcases h3 p hp with z|z
  ·exact absurd e z
  ·exact z
 ·rcases h6 p hp with (z|z)|z
  ·exact absurd e z
  ·exact .inl z
  ·exact .inr z
section
variable {X:Cx}{pins:List (Addr×Obj)}{σ:St}{H:Hp}{s:Shared}
theorem Inv.adopt {D:Addr}{ys:List V}{its:List Value}{n:Nat} (I:Inv X pins σ H s) (hn:H D=none) (h1:X.s₀.heap.objs.size<=D) (hL:D≠X.env.locals) (hc:∀x c,X.env.cells.lookup x=some c->c≠D)
  (hp:∀p∈X.pn++pins,p.1≠D) (ho:s.heap.get? D=some { cls:=.type "list",data:=.seq its.toArray n }) (r:JD ys its) (hz:ys.length<=sizeLine):Inv X pins σ (upd H D (.lst ys)) s:=by
 refine I.step (h':=s.heap) (g':=s.gens) (d':=s.drawn) (t':=s.toks) (ch:=[D]) (fun b hb=>?_) (fun b o _ _ _ e _=>e) (fun b o _ _ _ e _=>⟨o.slots,e⟩) (fun b o hb _ e=>?_) (fun b o _ e=>⟨o,e⟩)
  (fun b xs e=>?_) (fun b o u e=>?_) (fun b ps e=>⟨#[], ?_⟩) (fun m hm=>hm) (fun b u e=>?_) I.bare
 ·have e:b=D:=by simpa using hb
  subst e
  exact⟨.inr h1,hL,hc,hp⟩
 ·rw[Zu (by simpa using hb)];exact e
 ·rw[Zu (Z0 e hn)];exact e
 ·rw[Zu (Z0 e hn)];exact e
 ·rw[Zu (Z0 e hn),e];simp
 ·by_cases hb:b=D
  ·subst hb
   rw[ZD] at e;cases e
   exact⟨hz,its,n,r,ho⟩
  ·rw[Zu hb] at e
   exact(I.hok b u e).stay (fun c v _ q=>q) (fun c q=>by rw[Zu (Z0 q hn)];exact q) fun c xs q=>by rw[Zu (Z0 q hn)];exact q
variable {scope:Scope}
theorem Zhy {y:Str} (h:scope.names.lookup y=some .free):∃c,(ZjX scope X.env).lookup y=some c:=by
 have hm:=PySem.mem_of_lookup h
 refine Zcc (b:=(X.env.cells.lookup y).getD 0) ?_
 unfold ZjX
 exact Z1e.mpr ⟨(y,.free),List.mem_reverse.mpr (Z1D.mpr ⟨hm,rfl⟩),rfl⟩
end
end L2
namespace HL
open PySem PyProof.Rows
section
open PySem.SeqAt
open PySem.AutoSeq1 (wpAny_loadPart')
open PySem.MeetsSeq PySem.MeetsSeq2 PySem.MeetsSeq3 SeqRoads2
end
section
end
end HL
namespace L2
open PySem PySem.Spec PyProof.Rows
section
variable {X:Cx}
theorem Zl6 (hc:X.calm=true):ZbD X (.builtin "sum") (fun xs H Q=>∃p,∃ns:List Int,xs=[.ref p]/\SqL X.K H p (ns.map V.int)/\Q (.int ns.sum) H):=by
 intro pins s σ H xs us Q I r h
 obtain⟨p,ns,rfl,hq,q⟩:=h
 obtain⟨u,rfl,rx⟩:=ZfC r
 cases rx
 obtain⟨its,r',pl,hz⟩:=I.list hq
 have hi:IntsAre its ns:=ZdY r'
 obtain⟨xs,hx⟩:=hi.allInts.items
 have hl':s.heap.IsList p (intItems xs):=hx▸pl.isList
 refine sum_intListG (I.ok.hd hc) hl' fun h' tk t' hk=>?_
 have e1:ns=xs.toList.map (·.1):=by
  rw[<- nums_intItems,<- hx]
  exact(show numsOf its.toArray.toList=ns from hi.numsOf).symm
 have e2:preSum (numAt xs) xs.size=ns.sum:=by
  rw[preSum_eq,List.take_of_length_le (by simp),e1]
 rw[e2]
 exact⟨.int ns.sum,H,I.kept hk,⟨_,rfl⟩,q⟩
theorem Zd1:∀{bs:List Bool}{us:List Value},JD (bs.map V.bl) us->LSm.BoolsAre us bs
 |[],_,.nil=>.nil
 |b::bs,_,.cons r t=>by
  cases r
  exact .cons b (Zd1 t)
theorem Zl7 (hc:X.calm=true):ZbD X (.builtin "all") (fun xs H Q=>∃p,∃bs:List Bool,xs=[.ref p]/\SqL X.K H p (bs.map V.bl)/\Q (.bl (bs.all id)) H):=by
 intro pins s σ H xs us Q I r h
 obtain⟨p,bs,rfl,hq,q⟩:=h
 obtain⟨u,rfl,rx⟩:=ZfC r
 cases rx
 obtain⟨its,r',pl,hz⟩:=I.list hq
 have hb:=Zd1 r'
 have hlt:p<s.heap.objs.size:=by obtain⟨_,e,_⟩:=pl.isList;exact Heap.lt_size e
 refine call_all_walk (wpAny_pyIter_list pl.isList ?_)
 refine⟨s.heap.objs.size,[s.heap.objs.size,p],[s.heap.objs.size],its.toArray.size,_,_,fun i=>(bs[i]?).getD true,rfl,Walks.list (A:=X.A.in1) (I.ok.hd hc) _ p (Z0O hlt) its.toArray,
  ⟨⟨_,Heap.get?_push_size _ rfl,rfl,rfl⟩,pl.isList.push _⟩,fun i v s' Q' E' hP hQ=>?_,fun h' tk hk=>?_⟩
 ·obtain⟨b,e,rfl⟩:=hb.get i v (by simpa using hP)
  dsimp only at hQ
  rw[e,Z1O] at hQ
  exact wpAny_truthy_bool hQ
 ·rw[Z0H,hb.length,LSm.range_all]
  exact⟨.bl (bs.all id),H,I.kept (LSm.kept_iter hk),rfl,q⟩
end
end L2
namespace HL
open PySem PyProof.Rows
section
end
section
open PySem.SeqAt
open PySem.AutoSeq1 (wpAny_loadPart')
open PySem.MeetsSeq PySem.MeetsSeq2 PySem.MeetsSeq3
end
end HL
namespace HL
open PySem
end HL
namespace L2
open PySem PySem.Spec PyProof.Rows
section
variable {X:Cx}
theorem ZjZ (hc:X.calm=true):ZbD X (.builtin "min") (fun xs H Q=>∃p,∃ns:List Int,xs=[.ref p]/\SqL X.K H p (ns.map V.int)/\0<ns.length/\∀m,m∈ns->(∀a∈ns,m<=a)->Q (.int m) H):=by
 intro pins s σ H xs us Q I r h
 obtain⟨p,ns,rfl,hq,hne,q⟩:=h
 obtain⟨u,rfl,rx⟩:=ZfC r
 cases rx
 obtain⟨its,r',pl,hz⟩:=I.list hq
 have hi:IntsAre its ns:=ZdY r'
 obtain⟨zs,e⟩:=hi.allInts.items
 have hns:ns=zs.toList.map (·.1):=by rw[<- hi.numsOf,<- nums_intItems,<- e]
 have hsz:0<zs.size:=by
  have h3:=hne
  rw[hns,Z0K,Z1j] at h3
  exact h3
 have hl:=pl.isList
 rw[e] at hl
 refine min_intList (I.ok.hd hc) hl hsz fun v h' tk hv hk=>?_
 obtain⟨t,rfl⟩:=intItems_at hv
 obtain⟨h1,h2⟩:=argBest_lt (numAt zs) (zs.size-1)
 refine⟨.int _,H,I.kept hk,⟨_,rfl⟩,q _ ?_ fun a ha=>?_⟩
 ·rw[hns,numAt_eq];exact getD_mem (by rw[Z0K,Z1j];omega)
 ·rw[hns] at ha
  obtain⟨j,hj,rfl⟩:=mem_getD ha
  rw[Z0K,Z1j] at hj
  rw[<- numAt_eq];exact h2 j (by omega)
def Zoc (K:W.Frag):List V->Hp->VK->Prop:=fun xs H Q=>∃p,∃ns:List Int,xs=[.ref p]/\SqL K H p (ns.map V.int)/\0<ns.length/\∀m,m∈ns->(∀a∈ns,m<=a)->Q (.int m) H
end
def Dfn (K:W.Frag) (mg:Str->Option Value) (x:Str) (st:Stmt):Prop:=∃f fd,Fun K x x st f fd/\mg x=some (.ref f)
noncomputable abbrev Zt (x:Str) (st:Stmt) (ps:List Str):Prop:=∀(kV doc pm:Value) (an:Option Addr) (cdv ct:Value) (us:List Value),us.length=ps.length ->
 bindArgs (PySem.W.fnOf x x (Zq st) (Zo st) (Ze st) .none kV doc pm an cdv ct) ⟨us,[]⟩=pure (ps.zip us)
def Ok (P:Program) (w:World) (K:W.Frag) (mg:Str->Option Value) (base:Heap) (k:Nat) (x:Str) (ps:List Str) (sp:Sp):Prop:=
 ∃f fd,J5 P w K mg base CX0 k f fd ps sp/\mg x=some (.ref f)/\PySem.W.keepIn K (.ref f)=true/\Zck K fd ps []
theorem Zca {P:Program}{w:World}{K:W.Frag}{mg:Str->Option Value}{base:Heap}{k:Nat}{x:Str}{st:Stmt}{ps:List Str}{sp:Sp} (d:Dfn K mg x st) (b:Zt x st ps)
  (h:∀{f fd},Fun K x x st f fd->J5 P w K mg base CX0 k f fd ps sp):Ok P w K mg base k x ps sp:=by
 obtain⟨f,fd,F,hm⟩:=d
 exact⟨f,fd,h F,hm,F.kp,F.binds b⟩
section
variable {X:Cx}{k:Nat}{x:Str}{ps:List Str}{sp:Sp}{p pos:Pos}{e:Expr}{es:List Expr}{t:TA}
noncomputable def ZdB (sp:Sp) (t:TA):TE:=fun σ H Q=>t σ H fun vs H1=>sp vs H1 Q E0
theorem ZE (G:Ok X.prog X.w X.K X.mg X.base k x ps sp) (hr:ZbB k X.A) (hg:Gl X x) (ha:PA X (e::es) t) (hdb:(x==("__debug__":Str))=false:=by decide)
  (he:starEach (e::es) X.env=(false,eval e X.env)::starEach es X.env:=by rfl) (hpl:(backTo pos (starEach es X.env)).any (·.1)=false:=by rfl):PE X (.Call (.Name x p) (e::es) [] pos) (ZdB sp t):=by
 obtain⟨f,fd,F,hm,hk,hb⟩:=G
 intro pins s σ H Q I h
 refine ZmB (CX:=CX0) (E:=E0) (dvs:=[]) F hr hg hm hk hb .nil ZkK ha hdb he hpl pins s σ H Q I ?_
 have e:(fun vs H1=>sp (vs++[]) H1 Q E0)=fun vs H1=>sp vs H1 Q E0:=by funext vs H1;rw[Z1d]
 show t σ H (fun vs H1=>sp (vs++[]) H1 Q E0)
 rw[e]
 exact h
theorem ZeL (G:Ok X.prog X.w X.K X.mg X.base k x ps sp) (hr:ZbB k X.A) (hg:Gl X x) (hdb:(x==("__debug__":Str))=false:=by decide):PE X (.Call (.Name x p) [] [] pos) (ZdB sp Zko):=by
 obtain⟨f,fd,F,hm,hk,hb⟩:=G
 exact ZkI (CX:=CX0) (E:=E0) (dvs:=[]) F hr hg hm hk hb .nil ZkK hdb
theorem JI {i:Int} (hm:∃t,X.mg x=some (.int i t)) (hg:Gl X x) (hd:(x==("__debug__":Str))=false:=by decide):PE X (.Name x pos) (tC (.int i)):=by
 obtain⟨t,hm⟩:=hm
 exact J8 (v:=.int i) hg hm ⟨t,rfl⟩ hd
theorem Zlu:Zqm X (Zod X.K):=by
 intro pins s σ H o i ov iv Q I ro ri h
 obtain⟨p,xs,i,z,rfl,rfl,hq,he,q⟩:=h
 cases ro
 obtain⟨t,rfl⟩:=ri
 obtain⟨its,r,pl,hz⟩:=I.list hq
 obtain⟨j,h1,h2,h3,h4,h5⟩:=Ze4 he
 obtain⟨w,ew,rw'⟩:=r.get h2
 have hl:=r.length
 have hn:=ZdN
 have fin:EP X pins σ Q w s:=⟨z,H,I,rw',q⟩
 by_cases h0:0<=i
 ·have hj:i.toNat=j:=by
   rw[seqIndex_of h0 h5] at h1
   exact Option.some.inj h1
  exact wpAny_getItem_list pl.isList h0 (by omega) (by rw[hj];simpa using ew) fin
 ·have hj:(i+(its.toArray.size:Int)).toNat=j:=by
   rw[seqIndex_neg (by omega) h4] at h1
   rw[Z0H,<- hl]
   exact Option.some.inj h1
  exact wpAny_getItem_list_neg pl.isList (by omega) (by rw[Z0H]<;>omega) (by omega) (by rw[hj];simpa using ew) fin
end
theorem Zka {X:Cx}:ZbD X (.builtin "len") (fun xs H Q=>∃p ys,xs=[.ref p]/\(SqL X.K H p ys\/SqT X.K H p ys)/\Q (.int ys.length) H):=Zfy
theorem JG:bootBuiltins "len"=some (.builtin "len"):=by decide +kernel
theorem Zw:bootBuiltins "isinstance"=some (.builtin "isinstance"):=by decide +kernel
theorem Zcj:bootBuiltins "sum"=some (.builtin "sum"):=by decide +kernel
theorem Zd2:bootBuiltins "all"=some (.builtin "all"):=by decide +kernel
theorem Zph:bootBuiltins "min"=some (.builtin "min"):=by decide +kernel
theorem Zd0:bootBuiltins "list"=some (.type "list"):=by decide +kernel
theorem Zpg:bootBuiltins "int"=some (.type "int"):=by decide +kernel
theorem Znq:bootBuiltins "bool"=some (.type "bool"):=by decide +kernel
theorem Zl8:bootBuiltins "tuple"=some (.type "tuple"):=by decide +kernel
section
variable {X:Cx}{K:W.Frag}
theorem Jq (e:X.K=K:=by rfl):IxR X (rIx K):=by subst e;exact ZoF
theorem ZK (e:X.K=K:=by rfl):ZbD X (.builtin "len") (fun xs H Q=>∃p ys,xs=[.ref p]/\(SqL K H p ys\/SqT K H p ys)/\Q (.int ys.length) H):=by subst e;exact Zka
theorem JM (hc:X.calm=true) (e:X.K=K:=by rfl):ZbD X (.builtin "sum") (fun xs H Q=>∃p,∃ns:List Int,xs=[.ref p]/\SqL K H p (ns.map V.int)/\Q (.int ns.sum) H):=by subst e;exact Zl6 hc
theorem Ui (hc:X.calm=true) (e:X.K=K:=by rfl):ZbD X (.builtin "all") (fun xs H Q=>∃p,∃bs:List Bool,xs=[.ref p]/\SqL K H p (bs.map V.bl)/\Q (.bl (bs.all id)) H):=by subst e;exact Zl7 hc
theorem Zc1 (e:X.K=K:=by rfl):ZbD X (.type "list") (fun xs H Q=>∃p ys,xs=[.ref p]/\(SqL K H p ys\/SqT K H p ys)/\∀l,H l=none->Q (.ref l) (upd H l (.lst ys))):=by subst e;exact Zfx
theorem Zfk (e:X.K=K:=by rfl):Zqm X (Zod K):=by subst e;exact Zlu
theorem Ul {tg l:Expr}{tl:TE} (hl:PE X l tl) (e:X.K=K:=by rfl):PI X tg l (Zln K tl):=by subst e;exact Zm6 hl
variable {u:TS}{H:Hp}{b:TA}
theorem Zfd {n:Nat}{k:Int} (h0:0<=k) (h1:k<n):ixN n k=some k.toNat:=by unfold ixN;rw[if_pos h0,if_pos h1]
theorem ZL.upd {H H':Hp}{p:Addr}{o:HO} (h:ZL H H') (hp:H p=none):ZL H (upd H' p o):=fun b u e=>by
 rw[Zu (Z0 e hp)]
 exact h b u e
theorem ZL.new {H:Hp}{p:Addr}{o:HO} (hp:H p=none):ZL H (L2.upd H p o):=ZL.upd (ZL.refl H) hp
theorem Zcd {n:Nat} (h:n<=1000):n<=sizeLine:=Z0U h (by decide)
end
inductive Sh where
 |dk (ks:List Key)|dt (ks:List (List Key))|ob (n:Str) (fs:List Str)
  |jk
inductive PV where
 |non|bl (b:Bool)|int (i:Int)|str (x:Str)|lst (xs:List PV)|tup (xs:List PV)
  |exc (n:Str)
  |exa (n:Str) (i:Int)
  |box (p:Option Addr) (s:Sh) (xs:List PV)
  |fz (xs:List PV)
mutual
noncomputable def PV.flat:PV->Bool
 |.lst _=>false
 |.tup xs=>PV.flats xs
 |.non=>true
 |.bl _=>true
 |.int _=>true
 |.str _=>true
 |.exc _=>true
 |.exa _ _=>true
 |.box _ _ _=>false
 |.fz xs=>PV.flats xs
noncomputable def PV.flats:List PV->Bool
 |[]=>true
 |x::xs=>x.flat&&PV.flats xs
end
def KL (K:W.Frag) (a:Addr) (xs:List V):Prop:=
 ∃(o:Obj) (its:Array Value) (n:Nat),K.lookup a=some o/\o.cls=.type "list"/\o.dict=none/\o.data=.seq its n/\its.size<=sizeLine/\JD xs its.toList
noncomputable def ImO:HO->Prop
 |.tup _=>True
 |.frz _ _=>True
 |.xd _=>True
 |_=>False
def Im (K:W.Frag) (H:Hp) (a:Addr) (u:HO):Prop:=H a=some u/\ImO u
noncomputable def Lvo:HO->Prop
 |.lst _=>True
 |.dK _=>True
 |.dT _=>True
 |.ins _ _ _=>True
 |_=>False
noncomputable abbrev LvO:={ u:HO // Lvo u }
def ZbC (K:W.Frag) (n:Str) (C:Addr):Prop:=PySem.W.nsIn K mainGlobals n=some (some (.ref C))
def Zn0 (K:W.Frag) (H:Hp) (n:Str) (v:V):Prop:=∃a o C,v=.ref a/\Im K H a (.frz o (.own a))/\o.cls=.ref C/\o.dict=none/\PySem.W.notCls o=true/\ZbC K n C
def ZlE (K:W.Frag) (H:Hp) (n:Str) (i:Int) (v:V):Prop:=∃a o C d fs,v=.ref a/\Im K H a (.frz o (.own a))/\Im K H d (.xd fs)/\o.cls=.ref C/\o.dict=some d/\PySem.W.notCls o=true/\ZbC K n C/\fs=[(("at":Str),V.int i)]
noncomputable def Zp0 (K:W.Frag):Sh->List V->HO->Prop
 |.dk ks,vs,u=>ks.length=vs.length/\u=.dK (ks.zip vs)
 |.dt ks,vs,u=>ks.length=vs.length/\u=.dT (ks.zip vs)
 |.ob n fs,vs,u=>fs.length=vs.length/\∃C dx,u=.ins C dx (fs.zip vs)/\ZbC K n C
 |.jk,vs,u=>vs=[]/\∃ws,u=.lst ws
def ZqE (p:Option Addr) (a:Addr):Prop:=match p with
 |none=>True
 |some b=>a=b
theorem Zp0.lv {K:W.Frag}{s:Sh}{vs:List V}{u:HO} (h:Zp0 K s vs u):Lvo u:=by
 cases s with
 |dk ks=>obtain⟨_,rfl⟩:=h;trivial
 |dt ks=>obtain⟨_,rfl⟩:=h;trivial
 |ob n fs=>obtain⟨_,C,dx,rfl,_⟩:=h;trivial
 |jk=>obtain⟨_,ws,rfl⟩:=h;trivial
theorem Zhc {u o:HO} (h:Lvo u) (h':ImO o):o≠u:=by
 intro e;subst e
 cases o<;>first|exact h|exact h'
def FzL (K:W.Frag) (H:Hp) (a:Addr) (vs:List V):Prop:=∃o,Im K H a (.frz o (.lst vs))
mutual
noncomputable def Rep (K:W.Frag) (H:Hp) (S:Addr->Prop):PV->V->Prop
 |.non,v=>v=.non
 |.bl b,v=>v=.bl b
 |.int i,v=>v=.int i
 |.str x,v=>v=.str x
 |.exc n,v=>Zn0 K H n v
 |.exa n i,v=>ZlE K H n i v
 |.box p s xs,v=>∃a vs u,v=.ref a/\(Rd H a u/\S a)/\(ZqE p a/\Zp0 K s vs u)/\Reps K H S xs vs
 |.lst xs,v=>∃a vs,v=.ref a/\((Rd H a (.lst vs)/\S a)\/KL K a vs)/\Reps K H S xs vs
 |.tup xs,v=>∃a vs,v=.ref a/\Im K H a (.tup vs)/\Reps K H S xs vs
 |.fz xs,v=>∃a vs,v=.ref a/\FzL K H a vs/\Reps K H S xs vs
noncomputable def Reps (K:W.Frag) (H:Hp) (S:Addr->Prop):List PV->List V->Prop
 |[],vs=>vs=[]
 |x::xs,vs=>∃v r,vs=v::r/\Rep K H S x v/\Reps K H S xs r
end
mutual
noncomputable def JY (K:W.Frag) (H:Hp):PV->V->List Addr->Prop
 |.non,v,F=>v=.non/\F=[]
 |.bl b,v,F=>v=.bl b/\F=[]
 |.int i,v,F=>v=.int i/\F=[]
 |.str x,v,F=>v=.str x/\F=[]
 |.exc n,v,F=>Zn0 K H n v/\F=[]
 |.exa n i,v,F=>ZlE K H n i v/\F=[]
 |.box p s xs,v,F=>∃a vs u G,v=.ref a/\H a=some u/\(ZqE p a/\Zp0 K s vs u)/\Trees K H xs vs G/\a ∉ G/\F=a::G
 |.lst xs,v,F=>∃a vs G,v=.ref a/\H a=some (.lst vs)/\Trees K H xs vs G/\a ∉ G/\F=a::G
 |.tup xs,v,F=>∃a vs,v=.ref a/\Im K H a (.tup vs)/\Trees K H xs vs F
 |.fz xs,v,F=>∃a vs,v=.ref a/\FzL K H a vs/\Trees K H xs vs F
noncomputable def Trees (K:W.Frag) (H:Hp):List PV->List V->List Addr->Prop
 |[],vs,F=>vs=[]/\F=[]
 |x::xs,vs,F=>∃v r G1 G2,vs=v::r/\JY K H x v G1/\Trees K H xs r G2/\(∀a∈G1,a ∉ G2)/\F=G1++G2
end
section
variable {K:W.Frag}{H H':Hp}{S S':Addr->Prop}
mutual
theorem Rep.mono (h1:∀a u,S a->Rd H a u->Rd H' a u/\S' a) (h2:∀a u,Im K H a u->Im K H' a u):∀{x:PV}{v:V},Rep K H S x v->Rep K H' S' x v
 |.non,_,h=>h
 |.bl _,_,h=>h
 |.int _,_,h=>h
 |.str _,_,h=>h
 |.exc n,_,h=>let ⟨a,o,C,e1,e2,e3⟩:=h;⟨a,o,C,e1,h2 a _ e2,e3⟩
 |.exa n i,_,h=>let ⟨a,o,C,d,fs,e1,e2,e2',e3⟩:=h;⟨a,o,C,d,fs,e1,h2 a _ e2,h2 d _ e2',e3⟩
 |.box p s xs,_,h=>by
  obtain⟨a,vs,u,rfl,⟨n1,n2⟩,hb,hr⟩:=h
  exact⟨a,vs,u,rfl,h1 a u n2 n1,hb,Reps.mono h1 h2 hr⟩
 |.lst xs,_,h=>by
  obtain⟨a,vs,rfl,hn,hr⟩:=h
  refine⟨a,vs,rfl, ?_,Reps.mono h1 h2 hr⟩
  rcases hn with ⟨n1,n2⟩|n
  ·exact .inl (h1 a _ n2 n1)
  ·exact .inr n
 |.tup xs,_,h=>by
  obtain⟨a,vs,rfl,hn,hr⟩:=h
  exact⟨a,vs,rfl,h2 a _ hn,Reps.mono h1 h2 hr⟩
 |.fz xs,_,h=>by
  obtain⟨a,vs,rfl,⟨o,hn⟩,hr⟩:=h
  exact⟨a,vs,rfl,⟨o,h2 a _ hn⟩,Reps.mono h1 h2 hr⟩
theorem Reps.mono (h1:∀a u,S a->Rd H a u->Rd H' a u/\S' a) (h2:∀a u,Im K H a u->Im K H' a u):∀{xs:List PV}{vs:List V},Reps K H S xs vs->Reps K H' S' xs vs
 |[],_,h=>h
 |x::xs,_,h=>by
  obtain⟨v,r,rfl,h3,h4⟩:=h
  exact⟨v,r,rfl,Rep.mono h1 h2 h3,Reps.mono h1 h2 h4⟩
end
mutual
theorem JY.mono:∀{x:PV}{v:V}{F:List Addr},(∀a∈F,∀o,H a=some o->H' a=some o)->(∀a vs,Im K H a vs->Im K H' a vs)->JY K H x v F->JY K H' x v F
 |.non,_,_,_,_,h=>h
 |.bl _,_,_,_,_,h=>h
 |.int _,_,_,_,_,h=>h
 |.str _,_,_,_,_,h=>h
 |.exc n,_,_,_,h2,h=>let ⟨⟨a,o,C,e1,e2,e3⟩,e4⟩:=h;⟨⟨a,o,C,e1,h2 a _ e2,e3⟩,e4⟩
 |.exa n i,_,_,_,h2,h=>let ⟨⟨a,o,C,d,fs,e1,e2,e2',e3⟩,e4⟩:=h;⟨⟨a,o,C,d,fs,e1,h2 a _ e2,h2 d _ e2',e3⟩,e4⟩
 |.box p s xs,_,_,h1,h2,h=>by
  obtain⟨a,vs,u,G,rfl,ha,hb,ht,hn,rfl⟩:=h
  exact⟨a,vs,u,G,rfl,h1 a (by simp) _ ha,hb,Trees.mono (fun b hb o e=>h1 b (by simp[hb]) o e) h2 ht,hn,rfl⟩
 |.lst xs,_,_,h1,h2,h=>by
  obtain⟨a,vs,G,rfl,ha,ht,hn,rfl⟩:=h
  exact⟨a,vs,G,rfl,h1 a (by simp) _ ha,Trees.mono (fun b hb o e=>h1 b (by simp[hb]) o e) h2 ht,hn,rfl⟩
 |.tup xs,_,_,h1,h2,h=>by
  obtain⟨a,vs,rfl,ha,ht⟩:=h
  exact⟨a,vs,rfl,h2 a _ ha,Trees.mono h1 h2 ht⟩
 |.fz xs,_,_,h1,h2,h=>by
  obtain⟨a,vs,rfl,⟨o,ha⟩,ht⟩:=h
  exact⟨a,vs,rfl,⟨o,h2 a _ ha⟩,Trees.mono h1 h2 ht⟩
theorem Trees.mono:∀{xs:List PV}{vs:List V}{F:List Addr},(∀a∈F,∀o,H a=some o->H' a=some o)->(∀a vs,Im K H a vs->Im K H' a vs)->Trees K H xs vs F->Trees K H' xs vs F
 |[],_,_,_,_,h=>h
 |x::xs,_,_,h1,h2,h=>by
  obtain⟨v,r,G1,G2,rfl,h3,h4,hd,rfl⟩:=h
  exact⟨v,r,G1,G2,rfl,JY.mono (fun b hb o e=>h1 b (by simp[hb]) o e) h2 h3,Trees.mono (fun b hb o e=>h1 b (by simp[hb]) o e) h2 h4,hd,rfl⟩
end
mutual
theorem JY.rep:∀{x:PV}{v:V}{F:List Addr},(∀a∈F,S a)->JY K H x v F->Rep K H S x v
 |.non,_,_,_,h=>h.1
 |.bl _,_,_,_,h=>h.1
 |.int _,_,_,_,h=>h.1
 |.str _,_,_,_,h=>h.1
 |.exc _,_,_,_,h=>h.1
 |.exa _ _,_,_,_,h=>h.1
 |.box p s xs,_,_,h1,h=>by
  obtain⟨a,vs,u,G,rfl,ha,hb,ht,hn,rfl⟩:=h
  exact⟨a,vs,u,rfl,⟨.inl ha,h1 a (by simp)⟩,hb,Trees.reps (fun b hb=>h1 b (by simp[hb])) ht⟩
 |.lst xs,_,_,h1,h=>by
  obtain⟨a,vs,G,rfl,ha,ht,hn,rfl⟩:=h
  exact⟨a,vs,rfl,.inl ⟨.inl ha,h1 a (by simp)⟩,Trees.reps (fun b hb=>h1 b (by simp[hb])) ht⟩
 |.tup xs,_,_,h1,h=>by
  obtain⟨a,vs,rfl,ha,ht⟩:=h
  exact⟨a,vs,rfl,ha,Trees.reps h1 ht⟩
 |.fz xs,_,_,h1,h=>by
  obtain⟨a,vs,rfl,ha,ht⟩:=h
  exact⟨a,vs,rfl,ha,Trees.reps h1 ht⟩
theorem Trees.reps:∀{xs:List PV}{vs:List V}{F:List Addr},(∀a∈F,S a)->Trees K H xs vs F->Reps K H S xs vs
 |[],_,_,_,h=>h.1
 |x::xs,_,_,h1,h=>by
  obtain⟨v,r,G1,G2,rfl,h3,h4,hd,rfl⟩:=h
  exact⟨v,r,rfl,JY.rep (fun b hb=>h1 b (by simp[hb])) h3,Trees.reps (fun b hb=>h1 b (by simp[hb])) h4⟩
end
mutual
theorem JY.alive:∀{x:PV}{v:V}{F:List Addr},JY K H x v F->∀a∈F,∃vs:LvO,H a=some vs.1
 |.non,_,_,h=>by rw[h.2];simp
 |.bl _,_,_,h=>by rw[h.2];simp
 |.int _,_,_,h=>by rw[h.2];simp
 |.str _,_,_,h=>by rw[h.2];simp
 |.exc _,_,_,h=>by rw[h.2];simp
 |.exa _ _,_,_,h=>by rw[h.2];simp
 |.box p s xs,_,_,h=>by
  obtain⟨a,vs,u,G,rfl,ha,hb,ht,hn,rfl⟩:=h
  intro b hb'
  rcases Z0G.mp hb' with rfl|hb'
  ·exact⟨⟨u,hb.2.lv⟩,ha⟩
  ·exact Trees.alive ht b hb'
 |.lst xs,_,_,h=>by
  obtain⟨a,vs,G,rfl,ha,ht,hn,rfl⟩:=h
  intro b hb
  rcases Z0G.mp hb with rfl|hb
  ·exact⟨⟨.lst vs,trivial⟩,ha⟩
  ·exact Trees.alive ht b hb
 |.tup xs,_,_,h=>by
  obtain⟨a,vs,rfl,ha,ht⟩:=h
  exact Trees.alive ht
 |.fz xs,_,_,h=>by
  obtain⟨a,vs,rfl,ha,ht⟩:=h
  exact Trees.alive ht
theorem Trees.alive:∀{xs:List PV}{vs:List V}{F:List Addr},Trees K H xs vs F->∀a∈F,∃vs:LvO,H a=some vs.1
 |[],_,_,h=>by rw[h.2];simp
 |x::xs,_,_,h=>by
  obtain⟨v,r,G1,G2,rfl,h3,h4,hd,rfl⟩:=h
  intro b hb
  rcases Z0F.mp hb with hb|hb
  ·exact JY.alive h3 b hb
  ·exact Trees.alive h4 b hb
end
mutual
theorem Rep.tree:∀{x:PV}{v:V},x.flat=true->Rep K H S x v->JY K H x v []
 |.non,_,_,h=>⟨h,rfl⟩
 |.bl _,_,_,h=>⟨h,rfl⟩
 |.int _,_,_,h=>⟨h,rfl⟩
 |.str _,_,_,h=>⟨h,rfl⟩
 |.exc _,_,_,h=>⟨h,rfl⟩
 |.exa _ _,_,_,h=>⟨h,rfl⟩
 |.box p s xs,_,f,_=>by simp[PV.flat] at f
 |.lst xs,_,f,_=>by simp[PV.flat] at f
 |.tup xs,_,f,h=>by
  obtain⟨a,vs,rfl,ha,ht⟩:=h
  exact⟨a,vs,rfl,ha,Reps.trees (by simpa[PV.flat] using f) ht⟩
 |.fz xs,_,f,h=>by
  obtain⟨a,vs,rfl,ha,ht⟩:=h
  exact⟨a,vs,rfl,ha,Reps.trees (by simpa[PV.flat] using f) ht⟩
theorem Reps.trees:∀{xs:List PV}{vs:List V},PV.flats xs=true->Reps K H S xs vs->Trees K H xs vs []
 |[],_,_,h=>⟨h,rfl⟩
 |x::xs,_,f,h=>by
  obtain⟨v,r,rfl,h3,h4⟩:=h
  simp only[PV.flats,Bool.and_eq_true] at f
  exact⟨v,r,[],[],rfl,Rep.tree f.1 h3,Reps.trees f.2 h4,by simp,rfl⟩
end
theorem Rep.any (h:Rep K H S x v):Rep K H (fun _=>True) x v:=Rep.mono (fun a vs _ r=>⟨r,trivial⟩) (fun a vs r=>r) h
theorem Reps.any (h:Reps K H S xs vs):Reps K H (fun _=>True) xs vs:=Reps.mono (fun a vs _ r=>⟨r,trivial⟩) (fun a vs r=>r) h
theorem Rep.flatS {x:PV}{v:V} (f:x.flat=true) (h:Rep K H S x v):Rep K H S' x v:=JY.rep (F:=[]) (by simp) (Rep.tree f h)
theorem Reps.length:∀{xs:List PV}{vs:List V},Reps K H S xs vs->vs.length=xs.length
 |[],_,h=>by rw[h];rfl
 |x::xs,_,h=>by
  obtain⟨v,r,rfl,h3,h4⟩:=h
  simp[Reps.length h4]
theorem Trees.length {xs:List PV}{vs:List V}{F:List Addr} (h:Trees K H xs vs F):vs.length=xs.length:=(Trees.reps (S:=fun _=>True) (fun _ _=>trivial) h).length
theorem Reps.get:∀{xs:List PV}{vs:List V}{i:Nat}{x:PV},Reps K H S xs vs->xs[i]?=some x->∃v,vs[i]?=some v/\Rep K H S x v
 |[],_,_,_,_,e=>by simp at e
 |y::xs,_,0,x,h,e=>by
  obtain⟨v,r,rfl,h3,h4⟩:=h
  simp at e;subst e
  exact⟨v,rfl,h3⟩
 |y::xs,_,i+1,x,h,e=>by
  obtain⟨v,r,rfl,h3,h4⟩:=h
  obtain⟨w,e1,e2⟩:=Reps.get (i:=i) h4 (by simpa using e)
  exact⟨w,by simpa using e1,e2⟩
theorem Reps.append:∀{xs ys:List PV}{vs ws:List V},Reps K H S xs vs->Reps K H S ys ws->Reps K H S (xs++ys) (vs++ws)
 |[],_,_,_,h,h'=>by rw[h];exact h'
 |x::xs,_,_,_,h,h'=>by
  obtain⟨v,r,rfl,h3,h4⟩:=h
  exact⟨v,r++_,rfl,h3,Reps.append h4 h'⟩
theorem Reps.one {x:PV}{v:V} (h:Rep K H S x v):Reps K H S [x] [v]:=⟨v,[],rfl,h,rfl⟩
theorem Trees.append:∀{xs ys:List PV}{vs ws:List V}{F G:List Addr},Trees K H xs vs F->Trees K H ys ws G->(∀a∈F,a ∉ G)->Trees K H (xs++ys) (vs++ws) (F++G)
 |[],_,_,_,_,_,h,h',_=>by rw[h.1,h.2];exact h'
 |x::xs,_,_,_,_,_,h,h',hd=>by
  obtain⟨v,r,G1,G2,rfl,h3,h4,hd',rfl⟩:=h
  refine⟨v,r++_,G1,G2++_,rfl,h3,Trees.append h4 h' (fun a ha=>hd a (by simp[ha])),fun a ha z=>?_,by simp⟩
  rcases Z0F.mp z with z|z
  ·exact hd' a ha z
  ·exact hd a (by simp[ha]) z
theorem Trees.one {x:PV}{v:V}{F:List Addr} (h:JY K H x v F):Trees K H [x] [v] F:=⟨v,[],F,[],rfl,h,⟨rfl,rfl⟩,by simp,by simp⟩
theorem PV.flats_all:∀{xs:List PV},PV.flats xs=true ↔ ∀x∈xs,x.flat=true
 |[]=>by simp[PV.flats]
 |x::xs=>by simp[PV.flats,PV.flats_all (xs:=xs)]
theorem PV.flats_ints (ns:List Int):PV.flats (ns.map PV.int)=true:=PV.flats_all.mpr (by simp[PV.flat])
theorem Rd.same (e:ZL H H') (h:Rd H a u):Rd H' a u:=by
 rcases h with h|⟨o,h⟩
 ·exact .inl (e _ _ h)
 ·exact .inr ⟨o,e _ _ h⟩
theorem ZL.im (e:ZL H H') {k:HO} (h:Im K H a k):Im K H' a k:=⟨e _ _ h.1,h.2⟩
theorem Im.sqT {vs:List V} (h:Im K H a (.tup vs)):SqT K H a vs:=.inl (.inl h.1)
theorem Rep.same (e:ZL H H') (h:Rep K H S x v):Rep K H' S x v:=Rep.mono (fun a vs s r=>⟨r.same e,s⟩) (fun a vs r=>e.im r) h
theorem Reps.same (e:ZL H H') (h:Reps K H S xs vs):Reps K H' S xs vs:=Reps.mono (fun a vs s r=>⟨r.same e,s⟩) (fun a vs r=>e.im r) h
theorem JY.same (e:ZL H H') (h:JY K H x v F):JY K H' x v F:=JY.mono (fun a _ o q=>e a o q) (fun a vs r=>e.im r) h
theorem Trees.same (e:ZL H H') (h:Trees K H xs vs F):Trees K H' xs vs F:=Trees.mono (fun a _ o q=>e a o q) (fun a vs r=>e.im r) h
theorem Im.putL {p:Addr}{us:LvO}{o:HO}{k:HO} (hp:H p=some us.1) (h:Im K H a k):Im K (upd H p o) a k:=
 ⟨by rw[Zu (ZpR h.1 hp (Zhc us.2 h.2))];exact h.1,h.2⟩
theorem Reps.putL {p:Addr}{us:LvO}{o:HO} (hp:H p=some us.1) (hS:¬S p) (h:Reps K H S xs vs):Reps K (upd H p o) S xs vs:=
 Reps.mono (fun a vs s r=>⟨by
  have hne:a≠p:=fun z=>hS (z▸s)
  rcases r with r|⟨o',r⟩
  ·exact .inl (by rw[Zu hne];exact r)
  ·exact .inr ⟨o',by rw[Zu hne];exact r⟩,s⟩) (fun a vs r=>Im.putL hp r) h
theorem Trees.putL {p:Addr}{us:LvO}{o:HO} (hp:H p=some us.1) (hS:p ∉ F) (h:Trees K H xs vs F):Trees K (upd H p o) xs vs F:=
 Trees.mono (fun a ha o q=>by
  have hne:a≠p:=fun z=>hS (z▸ha)
  rw[Zu hne];exact q) (fun a vs r=>Im.putL hp r) h
theorem Reps.put {p:Addr}{us:List V}{o:HO} (hp:H p=some (.lst us)) (hS:¬S p) (h:Reps K H S xs vs):Reps K (upd H p o) S xs vs:=Reps.putL (us:=⟨.lst us,trivial⟩) hp hS h
theorem Trees.put {p:Addr}{us:List V}{o:HO} (hp:H p=some (.lst us)) (hS:p ∉ F) (h:Trees K H xs vs F):Trees K (upd H p o) xs vs F:=Trees.putL (us:=⟨.lst us,trivial⟩) hp hS h
end
inductive Md|U|P|S|T|O
 deriving DecidableEq
def NO (B:Addr->Prop) (F:Nat->List Addr) (R:List Addr) (a:Addr):Prop:=B a/\a ∉ R/\∀i,a ∉ F i
def ZbG (K:W.Frag) (H:Hp) (S:Addr->Prop) (m:Md) (x:PV) (o:Option (Option V)) (G:List Addr):Prop:=match m with
 |.U=>G=[]
 |.P=>G=[]/\∃v,o=some (some v)/\x.flat=true/\Rep K H (fun _=>True) x v
 |.S=>G=[]/\∃v,o=some (some v)/\Rep K H S x v
 |.T=>∃a vs xs,o=some (some (.ref a))/\x=.lst xs/\H a=some (.lst vs)/\Reps K H S xs vs/\G=[a]
 |.O=>∃v,o=some (some v)/\JY K H x v G
structure Ag (K:PySem.W.Frag) (B:Addr->Prop) (H0 H:Hp) (σ:St) (Γ:List Md) (ρ:List PV) (F:Nat->List Addr) (R:List Addr):Prop where
 same:ZL H0 H
 own:∀a,H0 a=none->B a
 young:∀i,∀a∈F i,H0 a=none
 youngR:∀a∈R,H0 a=none
 live:∀i,∀a∈F i,∃vs:LvO,H a=some vs.1
 liveR:∀a∈R,∃vs:LvO,H a=some vs.1
 disj:∀i j,i≠j->∀a∈F i,a ∉ F j
 disjR:∀i,∀a∈F i,a ∉ R
 lenS:σ.length=Γ.length
 lenR:ρ.length=Γ.length
 slot:∀i,ZbG K H (NO B F R) (Γ.getD i .U) (ρ.getD i .non) σ[i]? (F i)
theorem ZbG.mono {K:W.Frag}{H H':Hp}{S S':Addr->Prop}{m:Md}{x:PV}{o:Option (Option V)}{G:List Addr} (h:ZbG K H S m x o G) (h1:∀a u,S a->Rd H a u->Rd H' a u/\S' a)
  (h2:∀a u,Im K H a u->Im K H' a u) (h3:∀a∈G,∀u,H a=some u->H' a=some u):ZbG K H' S' m x o G:=by
 cases m with
 |U=>exact h
 |P =>
  obtain⟨e,v,h4,h5,h6⟩:=h
  exact⟨e,v,h4,h5,JY.rep (F:=[]) (by simp) (JY.mono (by simp) h2 (Rep.tree h5 h6))⟩
 |S =>
  obtain⟨e,v,h4,h5⟩:=h
  exact⟨e,v,h4,Rep.mono h1 h2 h5⟩
 |T =>
  obtain⟨a,vs,xs,h4,h5,h6,h7,rfl⟩:=h
  exact⟨a,vs,xs,h4,h5,h3 a (by simp) _ h6,Reps.mono h1 h2 h7,rfl⟩
 |O =>
  obtain⟨v,h4,h5⟩:=h
  exact⟨v,h4,JY.mono (fun a ha o q=>h3 a ha o q) h2 h5⟩
section
variable {K:W.Frag}{B:Addr->Prop}{H0 H H':Hp}{σ:St}{Γ:List Md}{ρ:List PV}{F:Nat->List Addr}{R R':List Addr}
theorem Ag.grow (A:Ag K B H0 H σ Γ ρ F R) (e:ZL H H'):Ag K B H0 H' σ Γ ρ F R:=
 ⟨A.same.trans e,A.own,A.young,A.youngR,fun i a ha=>let ⟨vs,q⟩:=A.live i a ha;⟨vs,e _ _ q⟩,fun a ha=>let ⟨vs,q⟩:=A.liveR a ha;⟨vs,e _ _ q⟩,A.disj,A.disjR,A.lenS,A.lenR,
  fun i=>(A.slot i).mono (fun a vs s r=>⟨r.same e,s⟩) (fun a vs r=>e.im r) fun a ha vs q=>e _ _ q⟩
theorem Ag.less (A:Ag K B H0 H σ Γ ρ F R) (h:∀a∈R',a∈R):Ag K B H0 H σ Γ ρ F R':=
 ⟨A.same,A.own,A.young,fun a ha=>A.youngR a (h a ha),A.live,fun a ha=>A.liveR a (h a ha),A.disj,fun i a ha z=>A.disjR i a ha (h a z),A.lenS,A.lenR,
  fun i=>(A.slot i).mono (fun a vs s r=>⟨r,s.1,fun z=>s.2.1 (h a z),s.2.2⟩) (fun a vs r=>r) fun a ha vs q=>q⟩
theorem Ag.more {G:List Addr} (A:Ag K B H0 H σ Γ ρ F R) (e:ZL H H') (hf:∀a∈G,H a=none) (hl:∀a∈G,∃vs:LvO,H' a=some vs.1):Ag K B H0 H' σ Γ ρ F (G++R):=by
 refine⟨A.same.trans e,A.own,A.young,fun a ha=>?_,fun i a ha=>let ⟨vs,q⟩:=A.live i a ha;⟨vs,e _ _ q⟩,fun a ha=>?_,A.disj,fun i a ha z=>?_,A.lenS,A.lenR,fun i=>?_⟩
 ·rcases Z0F.mp ha with z|z
  ·exact A.same.free (hf a z)
  ·exact A.youngR a z
 ·rcases Z0F.mp ha with z|z
  ·exact hl a z
  ·obtain⟨vs,q⟩:=A.liveR a z
   exact⟨vs,e _ _ q⟩
 ·rcases Z0F.mp z with z|z
  ·obtain⟨vs,q⟩:=A.live i a ha
   rw[hf a z] at q;cases q
  ·exact A.disjR i a ha z
 ·refine(A.slot i).mono (fun a vs s r=>⟨r.same e,s.1,fun z=>?_,s.2.2⟩) (fun a vs r=>e.im r) fun a ha vs q=>e _ _ q
  rcases Z0F.mp z with z|z
  ·have:=hf a z
   rcases r with r|⟨o,r⟩<;>(rw[this] at r;cases r)
  ·exact s.2.1 z
theorem Ag.fresh (A:Ag K B H0 H σ Γ ρ F R) {p:Addr} (hp:H p=none):p ∉ R/\(∀i,p ∉ F i)/\H0 p=none/\B p:=by
 refine⟨fun z=>?_,fun i z=>?_,A.same.free hp,A.own p (A.same.free hp)⟩
 ·obtain⟨vs,q⟩:=A.liveR p z
  rw[hp] at q;cases q
 ·obtain⟨vs,q⟩:=A.live i p z
  rw[hp] at q;cases q
theorem Ag.new {p:Addr}{xs:List V} (A:Ag K B H0 H σ Γ ρ F R) (hp:H p=none):Ag K B H0 (upd H p (.lst xs)) σ Γ ρ F (p::R):=
 A.more (G:=[p]) (ZL.new hp) (fun a ha=>by rw[Z1r.mp ha];exact hp) fun a ha=>⟨⟨.lst xs,trivial⟩,by rw[Z1r.mp ha,ZD]⟩
theorem Ag.getO {i:Nat} (A:Ag K B H0 H σ Γ ρ F R) (h:Γ[i]?=some .O):∃v,σ[i]?=some (some v)/\JY K H (ρ.getD i .non) v (F i):=by
 have:=A.slot i
 rw[Z09,h] at this
 exact this
theorem Ag.getT {i:Nat} (A:Ag K B H0 H σ Γ ρ F R) (h:Γ[i]?=some .T):∃a vs xs,σ[i]?=some (some (.ref a))/\ρ.getD i .non=.lst xs/\H a=some (.lst vs)/\Reps K H (NO B F R) xs vs/\F i=[a]:=by
 have:=A.slot i
 rw[Z09 (l:=Γ),h] at this
 exact this
theorem Ag.getS {i:Nat} (A:Ag K B H0 H σ Γ ρ F R) (h:Γ[i]?=some .S):∃v,σ[i]?=some (some v)/\Rep K H (NO B F R) (ρ.getD i .non) v:=by
 have:=A.slot i
 rw[Z09 (l:=Γ),h] at this
 exact this.2
theorem Ag.getP {i:Nat} (A:Ag K B H0 H σ Γ ρ F R) (h:Γ[i]?=some .P):∃v,σ[i]?=some (some v)/\(ρ.getD i .non).flat=true/\Rep K H (fun _=>True) (ρ.getD i .non) v:=by
 have:=A.slot i
 rw[Z09 (l:=Γ),h] at this
 exact this.2
theorem Ag.getA {i:Nat}{m:Md} (A:Ag K B H0 H σ Γ ρ F R) (h:Γ[i]?=some m) (hm:m≠.U):∃v,σ[i]?=some (some v)/\Rep K H (fun _=>True) (ρ.getD i .non) v:=by
 cases m with
 |U=>exact absurd rfl hm
 |P=>obtain⟨v,h1,h2,h3⟩:=A.getP h;exact⟨v,h1,h3⟩
 |S=>obtain⟨v,h1,h2⟩:=A.getS h;exact⟨v,h1,h2.any⟩
 |T =>
  obtain⟨a,vs,xs,h1,h2,h3,h4,h5⟩:=A.getT h
  exact⟨_,h1,by rw[h2];exact⟨a,vs,rfl,.inl ⟨.inl h3,trivial⟩,h4.any⟩⟩
 |O=>obtain⟨v,h1,h2⟩:=A.getO h;exact⟨v,h1,h2.rep (fun _ _=>trivial)⟩
theorem Ag.lt {i:Nat}{m:Md} (A:Ag K B H0 H σ Γ ρ F R) (h:Γ[i]?=some m):i<Γ.length:=(Z0X.mp h).1
noncomputable def ZbL (F:Nat->List Addr) (i:Nat) (G:List Addr):Nat->List Addr:=fun j=>if j=i then G else F j
theorem Z4 {i:Nat}{G:List Addr}:ZbL F i G i=G:=if_pos rfl
theorem ZJ {i j:Nat}{G:List Addr} (h:j≠i):ZbL F i G j=F j:=if_neg h
theorem Ag.put {i:Nat}{m:Md}{x:PV}{v:V}{G:List Addr} (A:Ag K B H0 H σ Γ ρ F (G++R)) (hi:i<Γ.length) (hG:∀a∈G,a ∉ R) (hs:ZbG K H (NO B (ZbL F i G) R) m x (some (some v)) G) :
  Ag K B H0 H (σ.set i (some v)) (Γ.set i m) (ρ.set i x) (ZbL F i G) R:=by
 refine⟨A.same,A.own,fun j a ha=>?_,fun a ha=>A.youngR a (Z0A _ ha),fun j a ha=>?_,fun a ha=>A.liveR a (Z0A _ ha),fun j k hjk a ha z=>?_,fun j a ha z=>?_,by simp[A.lenS],by simp[A.lenR],fun j=>?_⟩
 ·by_cases h:j=i
  ·subst h;rw[Z4] at ha;exact A.youngR a (Z0C _ ha)
  ·rw[ZJ h] at ha;exact A.young j a ha
 ·by_cases h:j=i
  ·subst h;rw[Z4] at ha;exact A.liveR a (Z0C _ ha)
  ·rw[ZJ h] at ha;exact A.live j a ha
 ·by_cases h:j=i
  ·subst h
   rw[Z4] at ha
   rw[ZJ (Ne.symm hjk)] at z
   exact A.disjR k a z (Z0C _ ha)
  ·rw[ZJ h] at ha
   by_cases h':k=i
   ·subst h'
    rw[Z4] at z
    exact A.disjR j a ha (Z0C _ z)
   ·rw[ZJ h'] at z
    exact A.disj j k hjk a ha z
 ·by_cases h:j=i
  ·subst h;rw[Z4] at ha;exact hG a ha z
  ·rw[ZJ h] at ha;exact A.disjR j a ha (Z0A _ z)
 ·by_cases h:j=i
  ·subst h
   rw[Z4,Z09,Z09,Z0M hi,Z0M (by rw[A.lenR];exact hi),Z0M (by rw[A.lenS];exact hi)]
   exact hs
  ·rw[ZJ h,Z09,Z09,Z0S (Ne.symm h),Z0S (Ne.symm h),Z0S (Ne.symm h),<- Z09,<- Z09]
   refine(A.slot j).mono (fun a vs s r=>⟨r,s.1,fun z=>s.2.1 (Z0A _ z),fun k z=>?_⟩) (fun a vs r=>r) fun a ha vs q=>q
   by_cases h':k=i
   ·subst h';rw[Z4] at z;exact s.2.1 (Z0C _ z)
   ·rw[ZJ h'] at z;exact s.2.2 k z
theorem Ag.turn {i:Nat}{m m':Md}{G:List Addr} (A:Ag K B H0 H σ Γ ρ F R) (h:Γ[i]?=some m) (hG:∀a∈G,a∈F i) (hs:ZbG K H (NO B (ZbL F i []) (G++R)) m' (ρ.getD i .non) σ[i]? []) :
  Ag K B H0 H σ (Γ.set i m') ρ (ZbL F i []) (G++R):=by
 have hi:=A.lt h
 refine⟨A.same,A.own,fun j a ha=>?_,fun a ha=>?_,fun j a ha=>?_,fun a ha=>?_,fun j k hjk a ha z=>?_,fun j a ha z=>?_,by simp[A.lenS],by simp[A.lenR],fun j=>?_⟩
 ·by_cases h:j=i
  ·subst h;rw[Z4] at ha;simp at ha
  ·rw[ZJ h] at ha;exact A.young j a ha
 ·rcases Z0F.mp ha with z|z
  ·exact A.young i a (hG a z)
  ·exact A.youngR a z
 ·by_cases h:j=i
  ·subst h;rw[Z4] at ha;simp at ha
  ·rw[ZJ h] at ha;exact A.live j a ha
 ·rcases Z0F.mp ha with z|z
  ·exact A.live i a (hG a z)
  ·exact A.liveR a z
 ·by_cases h:j=i
  ·subst h;rw[Z4] at ha;simp at ha
  ·by_cases h':k=i
   ·subst h';rw[Z4] at z;simp at z
   ·rw[ZJ h] at ha;rw[ZJ h'] at z;exact A.disj j k hjk a ha z
 ·by_cases h:j=i
  ·subst h;rw[Z4] at ha;simp at ha
  ·rw[ZJ h] at ha
   rcases Z0F.mp z with z|z
   ·exact A.disj j i h a ha (hG a z)
   ·exact A.disjR j a ha z
 ·by_cases h:j=i
  ·subst h
   rw[Z4,Z09 (l:=Γ.set _ _),Z0M hi]
   exact hs
  ·rw[ZJ h,Z09 (l:=Γ.set _ _),Z0S (Ne.symm h),<- Z09]
   refine(A.slot j).mono (fun a vs s r=>⟨r,s.1,fun z=>?_,fun k z=>?_⟩) (fun a vs r=>r) fun a ha vs q=>q
   ·rcases Z0F.mp z with z|z
    ·exact s.2.2 i (hG a z)
    ·exact s.2.1 z
   ·by_cases h':k=i
    ·subst h';rw[Z4] at z;simp at z
    ·rw[ZJ h'] at z;exact s.2.2 k z
theorem Ag.noF (A:Ag K B H0 H σ Γ ρ F R) {i:Nat}{a:Addr} (ha:a∈F i):NO B (ZbL F i []) R a:=⟨A.own a (A.young i a ha),A.disjR i a ha,fun j z=>by
 by_cases h:j=i
 ·subst h;rw[Z4] at z;simp at z
 ·rw[ZJ h] at z;exact A.disj j i h a z ha⟩
theorem Ag.freeze {i:Nat}{m:Md} (A:Ag K B H0 H σ Γ ρ F R) (h:Γ[i]?=some m) (hm:m≠.U):Ag K B H0 H σ (Γ.set i .S) ρ (ZbL F i []) R:=by
 refine A.turn (G:=[]) h (by simp) ?_
 show ZbG K H (NO B (ZbL F i []) R) .S (ρ.getD i .non) σ[i]? []
 have up:∀{a vs},NO B F R a->Rd H a vs->Rd H a vs/\NO B (ZbL F i []) R a:=fun {a vs} s r=>⟨r,s.1,s.2.1,fun j z=>by
  by_cases h:j=i
  ·subst h;rw[Z4] at z;simp at z
  ·rw[ZJ h] at z;exact s.2.2 j z⟩
 cases m with
 |U=>exact absurd rfl hm
 |P=>obtain⟨v,h1,h2,h3⟩:=A.getP h;exact⟨rfl,v,h1,h3.flatS h2⟩
 |S=>obtain⟨v,h1,h2⟩:=A.getS h;exact⟨rfl,v,h1,Rep.mono (fun a vs s r=>up s r) (fun a vs r=>r) h2⟩
 |T =>
  obtain⟨a,vs,xs,h1,h2,h3,h4,h5⟩:=A.getT h
  refine⟨rfl,_,h1, ?_⟩
  rw[h2]
  exact⟨a,vs,rfl,.inl ⟨.inl h3,A.noF (by rw[h5];simp)⟩,Reps.mono (fun a vs s r=>up s r) (fun a vs r=>r) h4⟩
 |O =>
  obtain⟨v,h1,h2⟩:=A.getO h
  exact⟨rfl,v,h1,h2.rep fun a ha=>A.noF ha⟩
theorem Ag.move {i:Nat} (A:Ag K B H0 H σ Γ ρ F R) (h:Γ[i]?=some .O):Ag K B H0 H σ (Γ.set i .U) ρ (ZbL F i []) (F i++R):=A.turn (G:=F i) h (fun a ha=>ha) rfl
end
noncomputable abbrev PX:=Str×PV
inductive Rr (α:Type) where
 |ok (a:α)|exc (e:PX)|bad
noncomputable def Rr.bind {α β:Type}:Rr α->(α->Rr β)->Rr β
 |.ok a,f=>f a
 |.exc e,_=>.exc e
 |.bad,_=>.bad
def Dn {α:Type} (r:Rr α) (ok:α->Prop) (ex:PX->Prop):Prop:=match r with
 |.ok a=>ok a
 |.exc e=>ex e
 |.bad=>False
theorem Dn.bind {α β:Type}{r:Rr α}{f:α->Rr β}{ok:β->Prop}{ex:PX->Prop} (h:Dn (r.bind f) ok ex):Dn r (fun a=>Dn (f a) ok ex) ex:=by
 cases r with
 |ok a=>exact h
 |exc e=>exact h
 |bad=>exact h
theorem Dn.imp {α:Type}{r:Rr α}{ok ok':α->Prop}{ex ex':PX->Prop} (h:Dn r ok ex) (h1:∀a,r=.ok a->ok a->ok' a) (h2:∀e,ex e->ex' e):Dn r ok' ex':=by
 cases r with
 |ok a=>exact h1 a rfl h
 |exc e=>exact h2 e h
 |bad=>exact h
@[simp] theorem Rr.bind_ok {α β:Type}{a:α}{f:α->Rr β}:(Rr.ok a).bind f=f a:=rfl
@[simp] theorem Rr.bind_exc {α β:Type}{e:PX}{f:α->Rr β}:(Rr.exc e:Rr α).bind f=.exc e:=rfl
@[simp] theorem Rr.bind_bad {α β:Type}{f:α->Rr β}:(Rr.bad:Rr α).bind f=.bad:=rfl
inductive Kd|P|F|T|Z|A|N
def Res (K:W.Frag) (B:Addr->Prop) (H0 H:Hp) (σ:St) (Γ':List Md) (ρ:List PV) (F:Nat->List Addr) (R:List Addr) (k:Kd) (x:PV) (v:V) (H':Hp):Prop:=
 ∃F',(∀i,∀a∈F' i,a∈F i)/\match k with
 |.P=>x.flat=true/\Rep K H' (fun _=>True) x v/\Ag K B H0 H' σ Γ' ρ F' R
 |.F=>∃G,JY K H' x v G/\(∀a∈G,a ∉ R/\(H a=none\/∃i,a∈F i))/\Ag K B H0 H' σ Γ' ρ F' (G++R)
 |.T=>∃a vs xs,x=.lst xs/\v=.ref a/\H' a=some (.lst vs)/\Reps K H' (NO B F' (a::R)) xs vs/\a ∉ R/\(H a=none\/∃i,a∈F i)/\Ag K B H0 H' σ Γ' ρ F' (a::R)
 |.Z=>Rep K H' (NO B F' R) x v/\Ag K B H0 H' σ Γ' ρ F' R
 |.A=>Rep K H' (fun _=>True) x v/\Ag K B H0 H' σ Γ' ρ F' R
 |.N=>False
def DE (K:W.Frag) (EX:PX->Hp->Prop) (Γ Γ':List Md) (k:Kd) (te:TE) (f:List PV->Rr PV):Prop:=
 ∀(B:Addr->Prop) (H0 H:Hp) (σ:St) (ρ:List PV) (F:Nat->List Addr) (R:List Addr) (Q:VK),Ag K B H0 H σ Γ ρ F R ->
  Dn (f ρ) (fun x=>∀v H',ZL H H'->Res K B H0 H σ Γ' ρ F R k x v H'->Q v H') (fun e=>∀H',ZL H0 H'->EX e H')->te σ H Q
def DT (K:W.Frag) (EX:PX->Hp->Prop) (Γ Γ':List Md) (tt:TT) (f:List PV->Rr Bool):Prop:=
 ∀(B:Addr->Prop) (H0 H:Hp) (σ:St) (ρ:List PV) (F:Nat->List Addr) (R:List Addr) (Q:Bool->Hp->Prop),Ag K B H0 H σ Γ ρ F R ->
  Dn (f ρ) (fun b=>∀H' F',ZL H H'->(∀i,∀a∈F' i,a∈F i)->Ag K B H0 H' σ Γ' ρ F' R->Q b H') (fun e=>∀H',ZL H0 H'->EX e H')->tt σ H Q
section
variable {K:W.Frag}{B:Addr->Prop}{EX:PX->Hp->Prop}{H0 H H':Hp}{σ:St}{Γ Γ' Γ1 Γ2:List Md}{ρ:List PV}{F F':Nat->List Addr}{R:List Addr}{k:Kd}{x:PV}{v:V}{te ta tb:TE}{f fa fb:List PV->Rr PV}
theorem Res.ag (h:Res K B H0 H σ Γ' ρ F R k x v H'):∃F',(∀i,∀a∈F' i,a∈F i)/\Rep K H' (fun _=>True) x v/\Ag K B H0 H' σ Γ' ρ F' R:=by
 obtain⟨F',hF,h⟩:=h
 refine⟨F',hF, ?_⟩
 cases k with
 |P=>exact⟨h.2.1,h.2.2⟩
 |F=>obtain⟨G,h1,h2,h3⟩:=h;exact⟨h1.rep fun _ _=>trivial,h3.less fun a ha=>Z0A _ ha⟩
 |T=>obtain⟨a,vs,xs,rfl,rfl,h1,h2,h3,h4,h5⟩:=h;exact⟨⟨a,vs,rfl,.inl ⟨.inl h1,trivial⟩,h2.any⟩,h5.less fun a ha=>Z0P _ ha⟩
 |Z=>exact⟨h.1.any,h.2⟩
 |A=>exact h
 |N=>exact h.elim
theorem Res.toA (h:Res K B H0 H σ Γ' ρ F R k x v H'):Res K B H0 H σ Γ' ρ F R .A x v H':=let ⟨F',a,b,c⟩:=h.ag;⟨F',a,b,c⟩
theorem Res.PF (h:Res K B H0 H σ Γ' ρ F R .P x v H'):Res K B H0 H σ Γ' ρ F R .F x v H':=by
 obtain⟨F',hF,h1,h2,h3⟩:=h
 exact⟨F',hF,[],h2.tree h1,by simp,h3⟩
theorem Res.PZ (h:Res K B H0 H σ Γ' ρ F R .P x v H'):Res K B H0 H σ Γ' ρ F R .Z x v H':=by
 obtain⟨F',hF,h1,h2,h3⟩:=h
 exact⟨F',hF,h2.flatS h1,h3⟩
theorem Res.FZ (h:Res K B H0 H σ Γ' ρ F R .F x v H'):Res K B H0 H σ Γ' ρ F R .Z x v H':=by
 obtain⟨F',hF,G,h1,h2,h3⟩:=h
 exact⟨F',hF,h1.rep fun a ha=>⟨h3.own a (h3.youngR a (Z0C _ ha)),(h2 a ha).1,fun i z=>h3.disjR i a z (Z0C _ ha)⟩,h3.less fun a ha=>Z0A _ ha⟩
theorem DE.imp {k':Kd} (h:DE K EX Γ Γ' k te f) (hr:∀{B:Addr->Prop}{H0 H H':Hp}{σ:St}{ρ:List PV}{F:Nat->List Addr}{R:List Addr}{x:PV}{v:V},Res K B H0 H σ Γ' ρ F R k x v H'->Res K B H0 H σ Γ' ρ F R k' x v H'):DE K EX Γ Γ' k' te f:=
 fun B H0 H σ ρ F R Q A d=>h B H0 H σ ρ F R Q A (d.imp (fun x _ q v H' s r=>q v H' s (hr r)) fun e q=>q)
theorem DE.toA (h:DE K EX Γ Γ' k te f):DE K EX Γ Γ' .A te f:=h.imp Res.toA
theorem DE.PF (h:DE K EX Γ Γ' .P te f):DE K EX Γ Γ' .F te f:=h.imp Res.PF
theorem DE.PZ (h:DE K EX Γ Γ' .P te f):DE K EX Γ Γ' .Z te f:=h.imp Res.PZ
theorem DE.FZ (h:DE K EX Γ Γ' .F te f):DE K EX Γ Γ' .Z te f:=h.imp Res.FZ
noncomputable def grd (x:PV):Rr PV:=if x.flat=true then .ok x else .bad
theorem DE.grd (h:DE K EX Γ Γ' .A te f):DE K EX Γ Γ' .P te (fun ρ=>(f ρ).bind grd):=fun B H0 H σ ρ F R Q A d=>by
 refine h B H0 H σ ρ F R Q A (d.bind.imp (fun x _ q v H' s r=>?_) fun e q=>q)
 unfold L2.grd at q
 by_cases hx:x.flat=true
 ·rw[if_pos hx] at q
  obtain⟨F',h1,h2,h3⟩:=r
  exact q v H' s ⟨F',h1,hx,h2,h3⟩
 ·rw[if_neg hx] at q;exact q.elim
theorem Zpy {v:V} (hf:x.flat=true) (hr:∀H,Rep K H (fun _=>True) x v):DE K EX Γ Γ .P (tC v) (fun _=>.ok x):=fun B H0 H σ ρ F R Q A d =>
 d v H (ZL.refl H) ⟨F,fun _ _ h=>h,hf,hr H,A⟩
theorem Zk {i:Int}:DE K EX Γ Γ .P (tC (.int i)) (fun _=>.ok (.int i)):=Zpy rfl fun _=>rfl
theorem Zgp {b:Bool}:DE K EX Γ Γ .P (tC (.bl b)) (fun _=>.ok (.bl b)):=Zpy rfl fun _=>rfl
theorem ZjQ:DE K EX Γ Γ .P (tC .non) (fun _=>.ok .non):=Zpy rfl fun _=>rfl
theorem Z5 {x:Str}:DE K EX Γ Γ .P (tC (.str x)) (fun _=>.ok (.str x)):=Zpy rfl fun _=>rfl
noncomputable def gv (i:Nat) (ρ:List PV):PV:=ρ.getD i .non
theorem Zd {i:Nat}{m:Md} (h:Γ[i]?=some m) (hm:m≠.U):DE K EX Γ Γ .A (ZfE i) (fun ρ=>.ok (gv i ρ)):=fun B H0 H σ ρ F R Q A d=>by
 obtain⟨v,h1,h2⟩:=A.getA h hm
 exact⟨v,h1,d v H (ZL.refl H) ⟨F,fun _ _ h=>h,h2,A⟩⟩
theorem Z3 {i:Nat} (h:Γ[i]?=some .P):DE K EX Γ Γ .P (ZfE i) (fun ρ=>.ok (gv i ρ)):=fun B H0 H σ ρ F R Q A d=>by
 obtain⟨v,h1,h2,h3⟩:=A.getP h
 exact⟨v,h1,d v H (ZL.refl H) ⟨F,fun _ _ h=>h,h2,h3,A⟩⟩
theorem Zcy {i:Nat} (h:Γ[i]?=some .S):DE K EX Γ Γ .Z (ZfE i) (fun ρ=>.ok (gv i ρ)):=fun B H0 H σ ρ F R Q A d=>by
 obtain⟨v,h1,h2⟩:=A.getS h
 exact⟨v,h1,d v H (ZL.refl H) ⟨F,fun _ _ h=>h,h2,A⟩⟩
theorem Zep {i:Nat}{F:Nat->List Addr}:∀j,∀a∈ZbL F i [] j,a∈F j:=fun j a ha=>by
 by_cases h:j=i
 ·subst h;rw[Z4] at ha;simp at ha
 ·rw[ZJ h] at ha;exact ha
theorem Zcz {i:Nat} (h:Γ[i]?=some .O):DE K EX Γ (Γ.set i .U) .F (ZfE i) (fun ρ=>.ok (gv i ρ)):=fun B H0 H σ ρ F R Q A d=>by
 obtain⟨v,h1,h2⟩:=A.getO h
 exact⟨v,h1,d v H (ZL.refl H) ⟨ZbL F i [],Zep,F i,h2,fun a ha=>⟨A.disjR i a ha,.inr ⟨i,ha⟩⟩,A.move h⟩⟩
theorem Zez {i:Nat}{m:Md} (h:Γ[i]?=some m) (hm:m≠.U):DE K EX Γ (Γ.set i .S) .Z (ZfE i) (fun ρ=>.ok (gv i ρ)):=fun B H0 H σ ρ F R Q A d=>by
 have A':=A.freeze h hm
 obtain⟨v,h1,h2⟩:=A'.getS (Z0M (A.lt h))
 exact⟨v,h1,d v H (ZL.refl H) ⟨ZbL F i [],Zep,h2,A'⟩⟩
def OpP (K:W.Frag) (r:R2) (o:PV->PV->Rr PV):Prop:=∀{H:Hp}{x y:PV}{v w:V}{Q:VK},Rep K H (fun _=>True) x v->Rep K H (fun _=>True) y w ->
 (∃z,o x y=.ok z/\(z.flat=true->∀u,Rep K H (fun _=>True) z u->Q u H))->r v w H Q
theorem Dn.bind2 {α β γ:Type}{r:Rr α}{q:Rr β}{f:α->β->Rr γ}{ok:γ->Prop}{ex:PX->Prop} (h:Dn (r.bind fun a=>q.bind fun b=>f a b) ok ex):Dn r (fun a=>Dn q (fun b=>Dn (f a b) ok ex) ex) ex:=
 h.bind.imp (fun a _ h=>h.bind) fun e h=>h
theorem two {Q:V->V->Hp->Prop}{ok:PV->PV->Prop} (ha:DE K EX Γ Γ1 .A ta fa) (hb:DE K EX Γ1 Γ2 .A tb fb) (A:Ag K B H0 H σ Γ ρ F R)
  (d:Dn (fa ρ) (fun x=>Dn (fb ρ) (fun y=>ok x y) (fun e=>∀H',ZL H0 H'->EX e H')) (fun e=>∀H',ZL H0 H'->EX e H'))
  (hq:∀x y v w H' F',ok x y->ZL H H'->(∀i,∀a∈F' i,a∈F i)->Rep K H' (fun _=>True) x v->Rep K H' (fun _=>True) y w->Ag K B H0 H' σ Γ2 ρ F' R->Q v w H') :
  ta σ H fun v H1=>tb σ H1 fun w H2=>Q v w H2:=by
 refine ha B H0 H σ ρ F R _ A (d.imp (fun x _ d v H1 s1 r1=>?_) fun e q=>q)
 obtain⟨F1,f1,p1,A1⟩:=r1
 refine hb B H0 H1 σ ρ F1 R _ A1 (d.imp (fun y _ q w H2 s2 r2=>?_) fun e q=>q)
 obtain⟨F2,f2,p2,A2⟩:=r2
 exact hq x y v w H2 F2 q (s1.trans s2) (fun i a h=>f1 i a (f2 i a h)) (p1.same s2) p2 A2
theorem Zl0 {r:R2}{o:PV->PV->Rr PV} (hr:OpP K r o) (ho:∀x y z,o x y=.ok z->z.flat=true) (hx:∀x y e,o x y≠.exc e) (ha:DE K EX Γ Γ1 .A ta fa) (hb:DE K EX Γ1 Γ2 .A tb fb) :
  DE K EX Γ Γ2 .P (tOp r ta tb) (fun ρ=>(fa ρ).bind fun x=>(fb ρ).bind fun y=>o x y):=fun B H0 H σ ρ F R Q A d=>by
 refine two ha hb A d.bind2 fun x y v w H' F' d s hF p1 p2 A'=>?_
 cases e:o x y with
 |ok z=>rw[e] at d;exact hr p1 p2 ⟨z,e,fun hf u hu=>d u H' s ⟨F',hF,hf,hu,A'⟩⟩
 |exc q=>exact absurd e (hx x y q)
 |bad=>rw[e] at d;exact d.elim
def UnP (K:W.Frag) (r:V->Hp->VK->Prop) (o:PV->Rr PV):Prop:=∀{H:Hp}{x:PV}{v:V}{Q:VK},Rep K H (fun _=>True) x v->(∃z,o x=.ok z/\(z.flat=true->∀u,Rep K H (fun _=>True) z u->Q u H))->r v H Q
theorem ZpY {r:V->Hp->VK->Prop}{o:PV->Rr PV} (hr:UnP K r o) (hx:∀x e,o x≠.exc e) (ha:DE K EX Γ Γ1 .A ta fa):DE K EX Γ Γ1 .P (tUn r ta) (fun ρ=>(fa ρ).bind o):=fun B H0 H σ ρ F R Q A d=>by
 refine ha B H0 H σ ρ F R _ A (d.bind.imp (fun x _ d v H1 s1 r1=>?_) fun e q=>q)
 obtain⟨F1,f1,p1,A1⟩:=r1
 cases e:o x with
 |ok z=>rw[e] at d;exact hr p1 ⟨z,e,fun hf u hu=>d u H1 s1 ⟨F1,f1,hf,hu,A1⟩⟩
 |exc q=>exact absurd e (hx x q)
 |bad=>rw[e] at d;exact d.elim
noncomputable def oI (C:Int->Int->Bool) (g:Int->Int->PV) (x y:PV):Rr PV:=match x,y with
 |.int i,.int j=>if C i j=true then .ok (g i j) else .bad
 |_,_=>.bad
theorem ZgS {C:Int->Int->Bool}{g:Int->Int->PV}{i j:Int} (h:C i j=true):oI C g (.int i) (.int j)=.ok (g i j):=if_pos h
theorem ZqN {C:Int->Int->Bool}{D:Int->Int->Prop}{g:Int->Int->PV}{g':Int->Int->V} (hC:∀i j,C i j=true->D i j) (hg:∀H i j,Rep K H (fun _=>True) (g i j) (g' i j)) (hf:∀i j,(g i j).flat=true):OpP K (rI D g') (oI C g):=by
 intro H x y v w Q rx ry ⟨z,e,q⟩
 cases x<;>cases y<;>first|(simp only[oI] at e;cases e;done)|skip
 rename_i i j
 simp only[oI] at e
 by_cases h:C i j=true
 ·rw[if_pos h] at e;cases e
  cases rx;cases ry
  exact⟨i,j,rfl,rfl,hC i j h,q (hf i j) _ (hg H i j)⟩
 ·rw[if_neg h] at e;cases e
theorem ZpP {g:Int->Int->PV}{g':Int->Int->V} (hg:∀H i j,Rep K H (fun _=>True) (g i j) (g' i j)) (hf:∀i j,(g i j).flat=true):OpP K (rI0 g') (oI (fun _ _=>true) g):=by
 intro H x y v w Q rx ry ⟨z,e,q⟩
 cases x<;>cases y<;>first|(simp only[oI] at e;cases e;done)|skip
 rename_i i j
 simp only[oI,if_true] at e
 cases e;cases rx;cases ry
 exact⟨i,j,rfl,rfl,q (hf i j) _ (hg H i j)⟩
theorem ZgR {C:Int->Int->Bool}{g:Int->Int->PV} (x y:PV) (e:PX):oI C g x y≠.exc e:=by
 cases x<;>cases y<;>first|(intro h;simp only[oI] at h;cases h;done)|skip
 intro h
 simp only[oI] at h
 split at h<;>cases h
theorem Zjp {C:Int->Int->Bool}{g:Int->Int->PV} (hf:∀i j,(g i j).flat=true) (x y z:PV) (h:oI C g x y=.ok z):z.flat=true:=by
 cases x<;>cases y<;>first|(simp only[oI] at h;cases h;done)|skip
 simp only[oI] at h
 split at h
 ·cases h;exact hf _ _
 ·cases h
end
mutual
noncomputable def PV.noX:PV->Bool
 |.exc _=>false
 |.exa _ _=>false
 |.box _ _ _=>false
 |.fz xs=>PV.noXs xs
 |.lst xs=>PV.noXs xs
 |.tup xs=>PV.noXs xs
 |.non=>true
 |.bl _=>true
 |.int _=>true
 |.str _=>true
noncomputable def PV.noXs:List PV->Bool
 |[]=>true
 |x::xs=>x.noX&&PV.noXs xs
end
theorem PV.noXs_ints:∀(ns:List Int),PV.noXs (ns.map PV.int)=true
 |[]=>rfl
 |n::ns=>by simp[PV.noXs,PV.noX,PV.noXs_ints ns]
mutual
noncomputable def PV.dat:PV->PyData
 |.non=>.none
 |.bl b=>.bool b
 |.int i=>.int i
 |.str x=>.str x
 |.exc _=>.none
 |.exa _ _=>.none
 |.box _ _ _=>.none
 |.fz xs=>.list (PV.dats xs)
 |.lst xs=>.list (PV.dats xs)
 |.tup xs=>.tuple (PV.dats xs)
noncomputable def PV.dats:List PV->List PyData
 |[]=>[]
 |x::xs=>x.dat::PV.dats xs
end
section
variable {X:Cx}{pins:List (Addr×Obj)}{σ:St}{H:Hp}{s:Shared}{S:Addr->Prop}
theorem ZaP {K:W.Frag}{a:Addr}{vs:List V} (h:(Rd H a (.lst vs)/\S a)\/KL K a vs):SqL K H a vs:=by
 rcases h with h|h
 ·exact .inl h.1
 ·exact .inr h
mutual
theorem Rep.reads (I:Inv X pins σ H s):∀{x:PV}{v:V}{u:Value},x.noX=true->Rep X.K H S x v->Vj v u->∃as,Reads s.heap u x.dat as
 |.non,_,_,_,h,r=>by cases h;cases r;exact⟨_,.none⟩
 |.bl _,_,_,_,h,r=>by cases h;cases r;exact⟨_,.bool _⟩
 |.int _,_,_,_,h,r=>by cases h;obtain⟨t,rfl⟩:=r;exact⟨_,.int _ _⟩
 |.str _,_,_,_,h,r=>by cases h;obtain⟨t,rfl⟩:=r;exact⟨_,.str _ _⟩
 |.exc _,_,_,z,_,_=>by simp[PV.noX] at z
 |.exa _ _,_,_,z,_,_=>by simp[PV.noX] at z
 |.box _ _ _,_,_,z,_,_=>by simp[PV.noX] at z
 |.fz xs,_,_,z,h,r=>by
  obtain⟨a,vs,rfl,⟨o,hn⟩,hr⟩:=h
  cases r
  obtain⟨its,rv,pl,_⟩:=I.list (ZaP (S:=fun _=>True) (.inl ⟨.inr ⟨o,hn.1⟩,trivial⟩))
  obtain⟨as,ra⟩:=Reps.reads I (by simpa[PV.noX] using z) hr rv
  obtain⟨o,ho,hc,n,hd⟩:=pl.isList
  exact⟨_,.list ho hc hd (by simpa using ra)⟩
 |.lst xs,_,_,z,h,r=>by
  obtain⟨a,vs,rfl,hn,hr⟩:=h
  cases r
  obtain⟨its,rv,pl,_⟩:=I.list (ZaP hn)
  obtain⟨as,ra⟩:=Reps.reads I (by simpa[PV.noX] using z) hr rv
  obtain⟨o,ho,hc,n,hd⟩:=pl.isList
  exact⟨_,.list ho hc hd (by simpa using ra)⟩
 |.tup xs,_,_,z,h,r=>by
  obtain⟨a,vs,rfl,hn,hr⟩:=h
  cases r
  obtain⟨its,rv,⟨o,ho,hc,n,hd⟩,_⟩:=I.tuple hn.sqT
  obtain⟨as,ra⟩:=Reps.reads I (by simpa[PV.noX] using z) hr rv
  exact⟨_,.tuple ho hc hd (by simpa using ra)⟩
theorem Reps.reads (I:Inv X pins σ H s):∀{xs:List PV}{vs:List V}{us:List Value},PV.noXs xs=true->Reps X.K H S xs vs->JD vs us->∃as,ReadsAll s.heap us (PV.dats xs) as
 |[],_,_,_,h,r=>by rw[h] at r;cases r;exact⟨_,.nil⟩
 |x::xs,_,_,z,h,r=>by
  simp only[PV.noXs,Bool.and_eq_true] at z
  obtain⟨v,vs,rfl,h1,h2⟩:=h
  cases r with
  |cons r1 r2 =>
   obtain⟨as,a1⟩:=Rep.reads I z.1 h1 r1
   obtain⟨bs,b1⟩:=Reps.reads I z.2 h2 r2
   exact⟨_,.cons a1 b1⟩
end
noncomputable def okD (x:PV):Bool:=x.noX&&x.dat.canLay0&&decide (x.dat.depth<=64)
noncomputable def ZpB (K:W.Frag) (g:Bool->Bool):R2:=fun x y H Q=>∃p q,Rep K H (fun _=>True) p x/\Rep K H (fun _=>True) q y/\okD p=true/\okD q=true/\Q (.bl (g (PyData.eqv p.dat q.dat))) H
theorem Js {K:W.Frag} (hu:X.A.units+64<cLine) (e:X.K=K:=by rfl):OpR X (compareOp .Eq) (ZpB K id):=by
 subst e
 intro pins s σ H x y v u Q I rx ry h
 obtain⟨p,q,h1,h2,h3,h4,hq⟩:=h
 simp only[okD,Bool.and_eq_true,decide_eq_true_eq] at h3 h4
 obtain⟨as,ra⟩:=h1.reads I h3.1.1 rx
 obtain⟨bs,rb⟩:=h2.reads I h4.1.1 ry
 exact SeqAt.rcAt_reads ra rb h3.1.2 h4.1.2 (by have:=Nat.min_le_left p.dat.depth q.dat.depth;omega) _ _ _ _ ⟨.bl (PyData.eqv p.dat q.dat),H,I,rfl,hq⟩
theorem Zc3 {K:W.Frag} (hu:X.A.units+64<cLine) (e:X.K=K:=by rfl):OpR X (compareOp .NotEq) (ZpB K (!·)):=by
 subst e
 intro pins s σ H x y v u Q I rx ry h
 obtain⟨p,q,h1,h2,h3,h4,hq⟩:=h
 simp only[okD,Bool.and_eq_true,decide_eq_true_eq] at h3 h4
 obtain⟨as,ra⟩:=h1.reads I h3.1.1 rx
 obtain⟨bs,rb⟩:=h2.reads I h4.1.1 ry
 exact SeqAt.rcNeAt_reads ra rb h3.1.2 h4.1.2 (by have:=Nat.min_le_left p.dat.depth q.dat.depth;omega) _ _ _ _ ⟨.bl (!PyData.eqv p.dat q.dat),H,I,rfl,hq⟩
end
noncomputable def ZbP (g:Bool->Bool) (x y:PV):Rr PV:=if (okD x&&okD y)=true then .ok (.bl (g (PyData.eqv x.dat y.dat))) else .bad
def Zg0 (i j:Int):Prop:=i.natAbs<2^60000/\j.natAbs<2^60000
def Zg1 (i j:Int):Prop:=0<j/\j.natAbs<2^9000
noncomputable instance (i j:Int):Decidable (Zg0 i j):=by unfold Zg0;infer_instance
noncomputable instance (i j:Int):Decidable (Zg1 i j):=by unfold Zg1;infer_instance
noncomputable instance (i j:Int):Decidable (ZnD i j):=by unfold ZnD;infer_instance
theorem Zkc {i:Int}{n:Nat} (h:i.natAbs<2^n):Builtin.Int.intBits i<=n:=by
 unfold Builtin.Int.intBits
 split
 ·exact Z16 _
 ·rename_i h0
  have:i.natAbs≠0:=by simpa using h0
  exact Nat.succ_le_of_lt ((Nat.log2_lt this).mpr h)
section
variable {X:Cx}
theorem Zjk:OpR X (binaryOp .Mult) (rI Zg0 fun i j=>.int (i*j)):=opI fun _ _ _ _ _ _ _ hc q=>mul_int q (PyProof.Rows.mulOk_of_bits (Zkc hc.1) (Zkc hc.2) (by decide))
theorem Zeq:OpR X (binaryOp .FloorDiv) (rI Zg1 fun i j=>.int (i/j)):=opI fun i j _ _ _ _ _ hc q=>by
 refine floordiv_int (by have:=hc.1;omega) ?_ (.inl (PyProof.noPylong_of_log2 ?_))
 ·rw[Int.fdiv_eq_ediv_of_nonneg _ (by have:=hc.1;omega)];exact q
 ·have h0:j.natAbs≠0:=by have:=hc.1;omega
  exact(Nat.log2_lt h0).mpr hc.2
variable {K:W.Frag}{B:Addr->Prop}{EX:PX->Hp->Prop}{H0 H:Hp}{σ:St}{Γ Γ' Γ1 Γ2:List Md}{ρ:List PV}{F:Nat->List Addr}{R:List Addr}{k:Kd}{x:PV}{v:V}{ta tb:TE}{fa fb fc:List PV->Rr PV}
noncomputable abbrev ZpM:PV->PV->Rr PV:=oI (fun _ _=>true) fun i j=>.int (i+j)
noncomputable abbrev ZpH:PV->PV->Rr PV:=oI (fun _ _=>true) fun i j=>.int (i-j)
noncomputable abbrev ZpI:PV->PV->Rr PV:=oI (fun i j=>decide (Zg0 i j)) fun i j=>.int (i*j)
noncomputable abbrev ZpL:PV->PV->Rr PV:=oI (fun i j=>decide (Zg1 i j)) fun i j=>.int (i/j)
noncomputable abbrev Zq3:PV->PV->Rr PV:=oI (fun _ j=>decide (0<j)) fun i j=>.int (i%j)
noncomputable abbrev Zps:PV->PV->Rr PV:=oI (fun i j=>decide (ZnD i j)) fun i j=>.int (i^j.toNat)
noncomputable abbrev pLt:PV->PV->Rr PV:=oI (fun _ _=>true) fun i j=>.bl (decide (i<j))
noncomputable abbrev pLe:PV->PV->Rr PV:=oI (fun _ _=>true) fun i j=>.bl (decide (i<=j))
noncomputable abbrev pGt:PV->PV->Rr PV:=oI (fun _ _=>true) fun i j=>.bl (decide (j<i))
noncomputable abbrev pGe:PV->PV->Rr PV:=oI (fun _ _=>true) fun i j=>.bl (decide (j<=i))
theorem Zl1 {D:Int->Int->Prop}{C:Int->Int->Bool}{g:Int->Int->PV}{g':Int->Int->V} (hC:∀i j,C i j=true->D i j) (hg:∀H i j,Rep K H (fun _=>True) (g i j) (g' i j)) (hf:∀i j,(g i j).flat=true)
  (ha:DE K EX Γ Γ1 .A ta fa) (hb:DE K EX Γ1 Γ2 .A tb fb):DE K EX Γ Γ2 .P (tOp (rI D g') ta tb) (fun ρ=>(fa ρ).bind fun x=>(fb ρ).bind fun y=>oI C g x y):=
 Zl0 (ZqN hC hg hf) (Zjp hf) ZgR ha hb
theorem Zeb {g:Int->Int->PV}{g':Int->Int->V} (hg:∀H i j,Rep K H (fun _=>True) (g i j) (g' i j)) (hf:∀i j,(g i j).flat=true)
  (ha:DE K EX Γ Γ1 .A ta fa) (hb:DE K EX Γ1 Γ2 .A tb fb):DE K EX Γ Γ2 .P (tOp (rI0 g') ta tb) (fun ρ=>(fa ρ).bind fun x=>(fb ρ).bind fun y=>oI (fun _ _=>true) g x y):=
 Zl0 (ZpP hg hf) (Zjp hf) ZgR ha hb
theorem JR (ha:DE K EX Γ Γ1 .A ta fa) (hb:DE K EX Γ1 Γ2 .A tb fb):DE K EX Γ Γ2 .P (tOp (rI0 fun i j=>.int (i+j)) ta tb) (fun ρ=>(fa ρ).bind fun x=>(fb ρ).bind fun y=>ZpM x y):=Zeb (fun _ _ _=>rfl) (fun _ _=>rfl) ha hb
theorem Zdu (ha:DE K EX Γ Γ1 .A ta fa) (hb:DE K EX Γ1 Γ2 .A tb fb):DE K EX Γ Γ2 .P (tOp (rI0 fun i j=>.int (i-j)) ta tb) (fun ρ=>(fa ρ).bind fun x=>(fb ρ).bind fun y=>ZpH x y):=Zeb (fun _ _ _=>rfl) (fun _ _=>rfl) ha hb
theorem Zl3 (ha:DE K EX Γ Γ1 .A ta fa) (hb:DE K EX Γ1 Γ2 .A tb fb):DE K EX Γ Γ2 .P (tOp (rI0 fun i j=>.bl (decide (i<j))) ta tb) (fun ρ=>(fa ρ).bind fun x=>(fb ρ).bind fun y=>pLt x y):=Zeb (fun _ _ _=>rfl) (fun _ _=>rfl) ha hb
theorem ZoY (ha:DE K EX Γ Γ1 .A ta fa) (hb:DE K EX Γ1 Γ2 .A tb fb):DE K EX Γ Γ2 .P (tOp (rI0 fun i j=>.bl (decide (i<=j))) ta tb) (fun ρ=>(fa ρ).bind fun x=>(fb ρ).bind fun y=>pLe x y):=Zeb (fun _ _ _=>rfl) (fun _ _=>rfl) ha hb
theorem Zch (ha:DE K EX Γ Γ1 .A ta fa) (hb:DE K EX Γ1 Γ2 .A tb fb):DE K EX Γ Γ2 .P (tOp (rI0 fun i j=>.bl (decide (j<i))) ta tb) (fun ρ=>(fa ρ).bind fun x=>(fb ρ).bind fun y=>pGt x y):=Zeb (fun _ _ _=>rfl) (fun _ _=>rfl) ha hb
theorem Zqa (ha:DE K EX Γ Γ1 .A ta fa) (hb:DE K EX Γ1 Γ2 .A tb fb):DE K EX Γ Γ2 .P (tOp (rI0 fun i j=>.bl (decide (j<=i))) ta tb) (fun ρ=>(fa ρ).bind fun x=>(fb ρ).bind fun y=>pGe x y):=Zeb (fun _ _ _=>rfl) (fun _ _=>rfl) ha hb
theorem Zmo (ha:DE K EX Γ Γ1 .A ta fa) (hb:DE K EX Γ1 Γ2 .A tb fb):DE K EX Γ Γ2 .P (tOp (rI Zg0 fun i j=>.int (i*j)) ta tb) (fun ρ=>(fa ρ).bind fun x=>(fb ρ).bind fun y=>ZpI x y):=Zl1 (fun _ _ h=>of_decide_eq_true h) (fun _ _ _=>rfl) (fun _ _=>rfl) ha hb
theorem ZjR (ha:DE K EX Γ Γ1 .A ta fa) (hb:DE K EX Γ1 Γ2 .A tb fb):DE K EX Γ Γ2 .P (tOp (rI Zg1 fun i j=>.int (i/j)) ta tb) (fun ρ=>(fa ρ).bind fun x=>(fb ρ).bind fun y=>ZpL x y):=Zl1 (fun _ _ h=>of_decide_eq_true h) (fun _ _ _=>rfl) (fun _ _=>rfl) ha hb
theorem JB (ha:DE K EX Γ Γ1 .A ta fa) (hb:DE K EX Γ1 Γ2 .A tb fb):DE K EX Γ Γ2 .P (tOp (rI (fun _ j=>0<j) fun i j=>.int (i%j)) ta tb) (fun ρ=>(fa ρ).bind fun x=>(fb ρ).bind fun y=>Zq3 x y):=Zl1 (fun _ _ h=>of_decide_eq_true h) (fun _ _ _=>rfl) (fun _ _=>rfl) ha hb
theorem Zhu (ha:DE K EX Γ Γ1 .A ta fa) (hb:DE K EX Γ1 Γ2 .A tb fb):DE K EX Γ Γ2 .P (tOp (rI ZnD fun i j=>.int (i^j.toNat)) ta tb) (fun ρ=>(fa ρ).bind fun x=>(fb ρ).bind fun y=>Zps x y):=Zl1 (fun _ _ h=>of_decide_eq_true h) (fun _ _ _=>rfl) (fun _ _=>rfl) ha hb
noncomputable def Zpt (x:PV):Rr PV:=match x with
 |.int i=>.ok (.int (-i))
 |_=>.bad
theorem Zmn (ha:DE K EX Γ Γ1 .A ta fa):DE K EX Γ Γ1 .P (tUn (rU fun i=>.int (-i)) ta) (fun ρ=>(fa ρ).bind Zpt):=by
 refine ZpY (fun {H x v Q} rx ⟨z,e,q⟩=>?_) (fun x e h=>?_) ha
 ·cases x<;>first|(simp only[Zpt] at e;cases e;done)|skip
  cases e;cases rx
  exact⟨_,rfl,q rfl _ rfl⟩
 ·cases x<;>(simp only[Zpt] at h;cases h)
theorem ZhI {g:Bool->Bool} (x y:PV) (e:PX):ZbP g x y≠.exc e:=by
 unfold ZbP
 intro h
 split at h<;>cases h
theorem Zjf {g:Bool->Bool} (x y z:PV) (h:ZbP g x y=.ok z):z.flat=true:=by
 unfold ZbP at h
 split at h
 ·cases h;rfl
 ·cases h
theorem Jb {g:Bool->Bool} (ha:DE K EX Γ Γ1 .A ta fa) (hb:DE K EX Γ1 Γ2 .A tb fb):DE K EX Γ Γ2 .P (tOp (ZpB K g) ta tb) (fun ρ=>(fa ρ).bind fun x=>(fb ρ).bind fun y=>ZbP g x y):=by
 refine Zl0 (fun {H x y v w Q} rx ry ⟨z,e,q⟩=>?_) Zjf ZhI ha hb
 unfold ZbP at e
 by_cases h:(okD x&&okD y)=true
 ·rw[if_pos h] at e;cases e
  rw[Bool.and_eq_true] at h
  exact⟨x,y,rx,ry,h.1,h.2,q rfl _ rfl⟩
 ·rw[if_neg h] at e;cases e
noncomputable def Zq4 (g:Bool->Bool) (x:PV):Rr PV:=match x with
 |.non=>.ok (.bl (g true))
 |_=>.ok (.bl (g false))
theorem Zm3 {x:PV}{v:V}{S:Addr->Prop} (h:Rep K H S x v):decide (v=.non)=match x with|.non=>true|_=>false:=by
 cases x<;>first|(cases h;rfl)|(obtain⟨a,vs,rfl,_⟩:=h;rfl)|(obtain⟨a,vs,c,rfl,_⟩:=h;rfl)|(obtain⟨a,o,c,d,fs,rfl,_⟩:=h;rfl)
theorem Zpb (ha:DE K EX Γ Γ1 .A ta fa):DE K EX Γ Γ1 .P (tOp (fun x y H Q=>y=.non/\Q (.bl (decide (x=.non))) H) ta (tC .non)) (fun ρ=>(fa ρ).bind (Zq4 id)):=fun B H0 H σ ρ F R Q A d=>by
 refine ha B H0 H σ ρ F R _ A (d.bind.imp (fun x _ d v H1 s1 r1=>?_) fun e q=>q)
 obtain⟨F1,f1,p1,A1⟩:=r1
 have e:=Zm3 p1
 refine⟨rfl, ?_⟩
 rw[e]
 cases x<;>exact d _ H1 s1 ⟨F1,f1,rfl,rfl,A1⟩
noncomputable def asB (x:PV):Rr Bool:=match x with
 |.bl b=>.ok b
 |_=>.bad
theorem Dn.asB {x:PV}{ok:Bool->Prop}{ex:PX->Prop} (d:Dn (asB x) ok ex):∃b,x=.bl b/\ok b:=by
 cases x with
 |bl b=>exact⟨b,rfl,d⟩
 |_=>exact d.elim
theorem ZoW (ha:DE K EX Γ Γ1 .A ta fa):DE K EX Γ Γ1 .P (ZnO ta) (fun ρ=>(fa ρ).bind fun x=>(asB x).bind fun b=>.ok (.bl (!b))):=fun B H0 H σ ρ F R Q A d=>by
 refine ha B H0 H σ ρ F R _ A (d.bind.imp (fun x _ d v H1 s1 r1=>?_) fun e q=>q)
 obtain⟨b,rfl,d⟩:=d.bind.asB
 obtain⟨F1,f1,p1,A1⟩:=r1
 cases p1
 exact⟨b,rfl,d _ H1 s1 ⟨F1,f1,rfl,rfl,A1⟩⟩
theorem Res.shift {H1:Hp}{F1:Nat->List Addr}{k:Kd}{Γ2:List Md}{y:PV}{w:V}{H2:Hp} (s1:ZL H H1) (f1:∀i,∀a∈F1 i,a∈F i) (h:Res K B H0 H1 σ Γ2 ρ F1 R k y w H2):Res K B H0 H σ Γ2 ρ F R k y w H2:=by
 obtain⟨F2,f2,h⟩:=h
 refine⟨F2,fun i a ha=>f1 i a (f2 i a ha), ?_⟩
 have org:∀a,(H1 a=none\/∃i,a∈F1 i)->(H a=none\/∃i,a∈F i):=fun a h=>h.elim (fun z=>.inl (s1.free z)) fun⟨i,z⟩=>.inr ⟨i,f1 i a z⟩
 cases k with
 |P=>exact h
 |F=>obtain⟨G,h1,h2,h3⟩:=h;exact⟨G,h1,fun a ha=>⟨(h2 a ha).1,org a (h2 a ha).2⟩,h3⟩
 |T=>obtain⟨a,vs,xs,h1,h2,h3,h4,h5,h6,h7⟩:=h;exact⟨a,vs,xs,h1,h2,h3,h4,h5,org a h6,h7⟩
 |Z=>exact h
 |A=>exact h
 |N=>exact h.elim
theorem Zdv (ha:DE K EX Γ Γ .A ta fa) (hb:DE K EX Γ Γ .P tb fb):DE K EX Γ Γ .P (ZnV ta tb) (fun ρ=>(fa ρ).bind fun x=>(asB x).bind fun b=>if b=true then fb ρ else .ok (.bl false)):=fun B H0 H σ ρ F R Q A d=>by
 refine ha B H0 H σ ρ F R _ A (d.bind.imp (fun x _ d v H1 s1 r1=>?_) fun e q=>q)
 obtain⟨b,rfl,d⟩:=d.bind.asB
 obtain⟨F1,f1,p1,A1⟩:=r1
 cases p1
 refine⟨b,rfl, ?_⟩
 cases b with
 |true=>exact hb B H0 H1 σ ρ F1 R _ A1 (d.imp (fun y _ q w H2 s2 r2=>q w H2 (s1.trans s2) (r2.shift s1 f1)) fun e q=>q)
 |false=>exact d _ H1 s1 ⟨F1,f1,rfl,rfl,A1⟩
theorem ZpZ (ha:DE K EX Γ Γ .A ta fa) (hb:DE K EX Γ Γ .P tb fb):DE K EX Γ Γ .P (Zqr ta tb) (fun ρ=>(fa ρ).bind fun x=>(asB x).bind fun b=>if b=true then .ok (.bl true) else fb ρ):=fun B H0 H σ ρ F R Q A d=>by
 refine ha B H0 H σ ρ F R _ A (d.bind.imp (fun x _ d v H1 s1 r1=>?_) fun e q=>q)
 obtain⟨b,rfl,d⟩:=d.bind.asB
 obtain⟨F1,f1,p1,A1⟩:=r1
 cases p1
 refine⟨b,rfl, ?_⟩
 cases b with
 |false=>exact hb B H0 H1 σ ρ F1 R _ A1 (d.imp (fun y _ q w H2 s2 r2=>q w H2 (s1.trans s2) (r2.shift s1 f1)) fun e q=>q)
 |true=>exact d _ H1 s1 ⟨F1,f1,rfl,rfl,A1⟩
theorem Z1 (ha:DE K EX Γ Γ' .A ta fa):DT K EX Γ Γ' (ZnN ta) (fun ρ=>(fa ρ).bind asB):=fun B H0 H σ ρ F R Q A d=>by
 refine ha B H0 H σ ρ F R _ A (d.bind.imp (fun x _ d v H1 s1 r1=>?_) fun e q=>q)
 obtain⟨b,rfl,d⟩:=d.asB
 obtain⟨F1,f1,p1,A1⟩:=r1
 cases p1
 exact⟨b,rfl,d H1 F1 s1 f1 A1⟩
theorem Ze7 (ha:DE K EX Γ Γ' .A ta fa):DT K EX Γ Γ' (tB ta) (fun ρ=>(fa ρ).bind asB):=Z1 ha
theorem Zhs {c d:TT}{fc fd:List PV->Rr Bool} (hc:DT K EX Γ Γ c fc) (hd:DT K EX Γ Γ d fd):DT K EX Γ Γ (Zqw c d) (fun ρ=>(fc ρ).bind fun b=>if b=true then fd ρ else .ok false):=fun B H0 H σ ρ F R Q A dn=>by
 refine hc B H0 H σ ρ F R _ A (dn.bind.imp (fun b _ dn H1 F1 s1 f1 A1=>?_) fun e q=>q)
 cases b with
 |true=>exact hd B H0 H1 σ ρ F1 R _ A1 (dn.imp (fun y _ q H2 F2 s2 f2 A2=>q H2 F2 (s1.trans s2) (fun i a h=>f1 i a (f2 i a h)) A2) fun e q=>q)
 |false=>exact dn H1 F1 s1 f1 A1
theorem Zcf {c d:TT}{fc fd:List PV->Rr Bool} (hc:DT K EX Γ Γ c fc) (hd:DT K EX Γ Γ d fd):DT K EX Γ Γ (tOr c d) (fun ρ=>(fc ρ).bind fun b=>if b=true then .ok true else fd ρ):=fun B H0 H σ ρ F R Q A dn=>by
 refine hc B H0 H σ ρ F R _ A (dn.bind.imp (fun b _ dn H1 F1 s1 f1 A1=>?_) fun e q=>q)
 cases b with
 |false=>exact hd B H0 H1 σ ρ F1 R _ A1 (dn.imp (fun y _ q H2 F2 s2 f2 A2=>q H2 F2 (s1.trans s2) (fun i a h=>f1 i a (f2 i a h)) A2) fun e q=>q)
 |true=>exact dn H1 F1 s1 f1 A1
theorem Vi {c:TT}{fc:List PV->Rr Bool} (hc:DT K EX Γ Γ' c fc):DT K EX Γ Γ' (Zqs c) (fun ρ=>(fc ρ).bind fun b=>.ok (!b)):=fun B H0 H σ ρ F R Q A dn =>
 hc B H0 H σ ρ F R _ A (dn.bind.imp (fun b _ dn H1 F1 s1 f1 A1=>dn H1 F1 s1 f1 A1) fun e q=>q)
end
def DAA (K:W.Frag) (EX:PX->Hp->Prop) (Γ Γ':List Md) (ta:TA) (f:List PV->Rr (List PV)):Prop:=
 ∀(B:Addr->Prop) (H0 H:Hp) (σ:St) (ρ:List PV) (F:Nat->List Addr) (R:List Addr) (Q:List V->Hp->Prop),Ag K B H0 H σ Γ ρ F R ->
  Dn (f ρ) (fun xs=>∀vs H' F',ZL H H'->(∀i,∀a∈F' i,a∈F i)->Reps K H' (fun _=>True) xs vs->Ag K B H0 H' σ Γ' ρ F' R->Q vs H') (fun e=>∀H',ZL H0 H'->EX e H')->ta σ H Q
def DAF (K:W.Frag) (EX:PX->Hp->Prop) (Γ Γ':List Md) (ta:TA) (f:List PV->Rr (List PV)):Prop:=
 ∀(B:Addr->Prop) (H0 H:Hp) (σ:St) (ρ:List PV) (F:Nat->List Addr) (R:List Addr) (Q:List V->Hp->Prop),Ag K B H0 H σ Γ ρ F R ->
  Dn (f ρ) (fun xs=>∀vs H' F' G,ZL H H'->(∀i,∀a∈F' i,a∈F i)->Trees K H' xs vs G->(∀a∈G,a ∉ R/\(H a=none\/∃i,a∈F i))->Ag K B H0 H' σ Γ' ρ F' (G++R)->Q vs H') (fun e=>∀H',ZL H0 H'->EX e H')->ta σ H Q
def DAZ (K:W.Frag) (EX:PX->Hp->Prop) (Γ Γ':List Md) (ta:TA) (f:List PV->Rr (List PV)):Prop:=
 ∀(B:Addr->Prop) (H0 H:Hp) (σ:St) (ρ:List PV) (F:Nat->List Addr) (R:List Addr) (Q:List V->Hp->Prop),Ag K B H0 H σ Γ ρ F R ->
  Dn (f ρ) (fun xs=>∀vs H' F',ZL H H'->(∀i,∀a∈F' i,a∈F i)->Reps K H' (NO B F' R) xs vs->Ag K B H0 H' σ Γ' ρ F' R->Q vs H') (fun e=>∀H',ZL H0 H'->EX e H')->ta σ H Q
section
variable {K:W.Frag}{B:Addr->Prop}{EX:PX->Hp->Prop}{H0 H H':Hp}{σ:St}{Γ Γ' Γ1 Γ2:List Md}{ρ:List PV}{F F':Nat->List Addr}{R:List Addr}{x:PV}{v:V}{te tb:TE}{ta:TA}{f fb:List PV->Rr PV}{fa:List PV->Rr (List PV)}
theorem Zh:DAA K EX Γ Γ Zko (fun _=>.ok []):=fun B H0 H σ ρ F R Q A d=>d [] H F (ZL.refl H) (fun _ _ h=>h) rfl A
theorem Zc (he:DE K EX Γ Γ1 .A te f) (ha:DAA K EX Γ1 Γ2 ta fa):DAA K EX Γ Γ2 (ZcK te ta) (fun ρ=>(f ρ).bind fun x=>(fa ρ).bind fun xs=>.ok (x::xs)):=fun B H0 H σ ρ F R Q A d=>by
 refine he B H0 H σ ρ F R _ A (d.bind.imp (fun x _ d v H1 s1 r1=>?_) fun e q=>q)
 obtain⟨F1,f1,p1,A1⟩:=r1
 refine ha B H0 H1 σ ρ F1 R _ A1 (d.bind.imp (fun xs _ d vs H2 F2 s2 f2 p2 A2=>?_) fun e q=>q)
 exact d (v::vs) H2 F2 (s1.trans s2) (fun i a h=>f1 i a (f2 i a h)) ⟨v,vs,rfl,p1.same s2,p2⟩ A2
theorem ZO:DAF K EX Γ Γ Zko (fun _=>.ok []):=fun B H0 H σ ρ F R Q A d=>d [] H F [] (ZL.refl H) (fun _ _ h=>h) ⟨rfl,rfl⟩ (by simp) A
theorem Zn (he:DE K EX Γ Γ1 .F te f) (ha:DAF K EX Γ1 Γ2 ta fa):DAF K EX Γ Γ2 (ZcK te ta) (fun ρ=>(f ρ).bind fun x=>(fa ρ).bind fun xs=>.ok (x::xs)):=fun B H0 H σ ρ F R Q A d=>by
 refine he B H0 H σ ρ F R _ A (d.bind.imp (fun x _ d v H1 s1 r1=>?_) fun e q=>q)
 obtain⟨F1,f1,G1,p1,o1,A1⟩:=r1
 refine ha B H0 H1 σ ρ F1 (G1++R) _ A1 (d.bind.imp (fun xs _ d vs H2 F2 G2 s2 f2 p2 o2 A2=>?_) fun e q=>q)
 refine d (v::vs) H2 F2 (G1++G2) (s1.trans s2) (fun i a h=>f1 i a (f2 i a h)) ⟨v,vs,G1,G2,rfl,p1.same s2,p2,fun a ha z=>(o2 a z).1 (Z0C _ ha),rfl⟩ (fun a ha=>?_) (A2.less fun a ha=>?_)
 ·rcases Z0F.mp ha with z|z
  ·exact o1 a z
  ·obtain⟨o3,o4⟩:=o2 a z
   exact⟨fun q=>o3 (Z0A _ q),o4.elim (fun q=>.inl (s1.free q)) fun⟨i,q⟩=>.inr ⟨i,f1 i a q⟩⟩
 ·simp only[Z0F] at ha ⊢
  rcases ha with (z|z)|z
  ·exact .inr (.inl z)
  ·exact .inl z
  ·exact .inr (.inr z)
theorem Zdx:DAZ K EX Γ Γ Zko (fun _=>.ok []):=fun B H0 H σ ρ F R Q A d=>d [] H F (ZL.refl H) (fun _ _ h=>h) rfl A
theorem QF (he:DE K EX Γ Γ1 .Z te f) (ha:DAZ K EX Γ1 Γ2 ta fa):DAZ K EX Γ Γ2 (ZcK te ta) (fun ρ=>(f ρ).bind fun x=>(fa ρ).bind fun xs=>.ok (x::xs)):=fun B H0 H σ ρ F R Q A d=>by
 refine he B H0 H σ ρ F R _ A (d.bind.imp (fun x _ d v H1 s1 r1=>?_) fun e q=>q)
 obtain⟨F1,f1,p1,A1⟩:=r1
 refine ha B H0 H1 σ ρ F1 R _ A1 (d.bind.imp (fun xs _ d vs H2 F2 s2 f2 p2 A2=>?_) fun e q=>q)
 refine d (v::vs) H2 F2 (s1.trans s2) (fun i a h=>f1 i a (f2 i a h)) ⟨v,vs,rfl, ?_,p2⟩ A2
 exact Rep.mono (fun a us s r=>⟨r.same s2,s.1,s.2.1,fun i z=>s.2.2 i (f2 i a z)⟩) (fun a us r=>s2.im r) p1
noncomputable def mkT (xs:List PV):Rr PV:=if xs.length<=1000 then .ok (.tup xs) else .bad
noncomputable def mkL (xs:List PV):Rr PV:=if xs.length<=1000 then .ok (.lst xs) else .bad
theorem Dn.mkT {xs:List PV}{ok:PV->Prop}{ex:PX->Prop} (d:Dn (mkT xs) ok ex):xs.length<=1000/\ok (.tup xs):=by
 unfold L2.mkT at d
 by_cases h:xs.length<=1000
 ·rw[if_pos h] at d;exact⟨h,d⟩
 ·rw[if_neg h] at d;exact d.elim
theorem Dn.mkL {xs:List PV}{ok:PV->Prop}{ex:PX->Prop} (d:Dn (mkL xs) ok ex):xs.length<=1000/\ok (.lst xs):=by
 unfold L2.mkL at d
 by_cases h:xs.length<=1000
 ·rw[if_pos h] at d;exact⟨h,d⟩
 ·rw[if_neg h] at d;exact d.elim
theorem Zgn (ha:DAF K EX Γ Γ' ta fa):DE K EX Γ Γ' .F (Zp5 ta) (fun ρ=>(fa ρ).bind mkT):=fun B H0 H σ ρ F R Q A d=>by
 refine ha B H0 H σ ρ F R _ A (d.bind.imp (fun xs _ d vs H1 F1 G s1 f1 p1 o1 A1=>?_) fun e q=>q)
 obtain⟨hl,d⟩:=d.mkT
 refine⟨by rw[p1.length];exact Zcd hl,fun p hp=>?_⟩
 have e:ZL H1 (upd H1 p (.tup vs)):=ZL.new hp
 exact d _ _ (s1.trans e) ⟨F1,f1,G,⟨p,vs,rfl,⟨ZD,trivial⟩,p1.same e⟩,o1,A1.grow e⟩
theorem Ze0 (ha:DAA K EX Γ Γ' ta fa):DE K EX Γ Γ' .A (Zp5 ta) (fun ρ=>(fa ρ).bind mkT):=fun B H0 H σ ρ F R Q A d=>by
 refine ha B H0 H σ ρ F R _ A (d.bind.imp (fun xs _ d vs H1 F1 s1 f1 p1 A1=>?_) fun e q=>q)
 obtain⟨hl,d⟩:=d.mkT
 refine⟨by rw[p1.length];exact Zcd hl,fun p hp=>?_⟩
 have e:ZL H1 (upd H1 p (.tup vs)):=ZL.new hp
 exact d _ _ (s1.trans e) ⟨F1,f1,⟨p,vs,rfl,⟨ZD,trivial⟩,p1.same e⟩,A1.grow e⟩
theorem Res.newF {H1:Hp}{F1:Nat->List Addr}{G:List Addr}{xs:List PV}{vs:List V}{p:Addr} (s1:ZL H H1) (f1:∀i,∀a∈F1 i,a∈F i) (p1:Trees K H1 xs vs G) (o1:∀a∈G,a ∉ R/\(H a=none\/∃i,a∈F i)) (A1:Ag K B H0 H1 σ Γ' ρ F1 (G++R)) (hp:H1 p=none) :
  Res K B H0 H σ Γ' ρ F R .F (.lst xs) (.ref p) (upd H1 p (.lst vs)):=by
 have e:ZL H1 (upd H1 p (.lst vs)):=ZL.new hp
 have hf:=A1.fresh hp
 refine⟨F1,f1,p::G,⟨p,vs,G,rfl,ZD,p1.same e,fun z=>hf.1 (Z0C _ z),rfl⟩,fun a ha=>?_,A1.new hp⟩
 rcases Z0G.mp ha with rfl|z
 ·exact⟨fun z=>hf.1 (Z0A _ z),.inl (s1.free hp)⟩
 ·exact o1 a z
theorem Res.newP {H1:Hp}{F1:Nat->List Addr}{xs:List PV}{vs:List V}{p:Addr}{S:Addr->Prop} (s1:ZL H H1) (f1:∀i,∀a∈F1 i,a∈F i) (p1:Reps K H1 S xs vs) (hx:PV.flats xs=true) (A1:Ag K B H0 H1 σ Γ' ρ F1 R) (hp:H1 p=none) :
  Res K B H0 H σ Γ' ρ F R .F (.lst xs) (.ref p) (upd H1 p (.lst vs)):=Res.newF (G:=[]) s1 f1 (p1.trees hx) (by simp) A1 hp
theorem Res.newT {H1:Hp}{F1:Nat->List Addr}{xs:List PV}{vs:List V}{p:Addr} (s1:ZL H H1) (f1:∀i,∀a∈F1 i,a∈F i) (p1:Reps K H1 (NO B F1 R) xs vs) (A1:Ag K B H0 H1 σ Γ' ρ F1 R) (hp:H1 p=none) :
  Res K B H0 H σ Γ' ρ F R .T (.lst xs) (.ref p) (upd H1 p (.lst vs)):=by
 have e:ZL H1 (upd H1 p (.lst vs)):=ZL.new hp
 have hf:=A1.fresh hp
 refine⟨F1,f1,p,vs,xs,rfl,rfl,ZD, ?_,hf.1,.inl (s1.free hp),A1.new hp⟩
 refine Reps.mono (fun a us s r=>⟨r.same e,s.1,fun z=>?_,s.2.2⟩) (fun a us r=>e.im r) p1
 rcases Z0G.mp z with rfl|z
 ·rcases r with r|⟨o,r⟩<;>(rw[hp] at r;cases r)
 ·exact s.2.1 z
theorem Ja (ha:DAF K EX Γ Γ' ta fa):DE K EX Γ Γ' .F (Zpq ta) (fun ρ=>(fa ρ).bind mkL):=fun B H0 H σ ρ F R Q A d=>by
 refine ha B H0 H σ ρ F R _ A (d.bind.imp (fun xs _ d vs H1 F1 G s1 f1 p1 o1 A1=>?_) fun e q=>q)
 obtain⟨hl,d⟩:=d.mkL
 refine⟨by rw[p1.length];exact Zcd hl,fun p hp=>d _ _ (s1.trans (ZL.new hp)) (Res.newF s1 f1 p1 o1 A1 hp)⟩
theorem Znl (ha:DAZ K EX Γ Γ' ta fa):DE K EX Γ Γ' .T (Zpq ta) (fun ρ=>(fa ρ).bind mkL):=fun B H0 H σ ρ F R Q A d=>by
 refine ha B H0 H σ ρ F R _ A (d.bind.imp (fun xs _ d vs H1 F1 s1 f1 p1 A1=>?_) fun e q=>q)
 obtain⟨hl,d⟩:=d.mkL
 refine⟨by rw[p1.length];exact Zcd hl,fun p hp=>d _ _ (s1.trans (ZL.new hp)) (Res.newT s1 f1 p1 A1 hp)⟩
noncomputable def pIx (x y:PV):Rr PV:=match x,y with
 |.lst xs,.int i=>match atI xs i with
  |some z=>.ok z
  |none=>.bad
 |.tup xs,.int i=>match atI xs i with
  |some z=>.ok z
  |none=>.bad
 |_,_=>.bad
theorem ZiI {S:Addr->Prop}{xs:List PV}{vs:List V}{i:Int}{z:PV} (h:Reps K H S xs vs) (e:atI xs i=some z):∃u,atI vs i=some u/\Rep K H S z u:=by
 unfold atI at e ⊢
 rw[h.length]
 cases q:ixN xs.length i with
 |none=>rw[q] at e;cases e
 |some j =>
  rw[q] at e
  obtain⟨u,e1,e2⟩:=h.get e
  exact⟨u,e1,e2⟩
theorem Zoa {S:Addr->Prop}{x y z:PV}{v w:V}{Q:VK} (hx:Rep K H S x v) (hy:Rep K H (fun _=>True) y w) (e:pIx x y=.ok z) (q:∀u,Rep K H S z u->Q u H):rIx K v w H Q:=by
 cases x<;>cases y<;>first|(simp only[pIx] at e;cases e;done)|skip
 ·rename_i xs i
  obtain⟨a,vs,rfl,hn,hr⟩:=hx
  cases hy
  simp only[pIx] at e
  cases e1:atI xs i with
  |none=>rw[e1] at e;cases e
  |some z' =>
   rw[e1] at e;cases e
   obtain⟨u,e2,e3⟩:=ZiI hr e1
   exact .inl ⟨a,vs,i,u,rfl,rfl,ZaP hn,e2,q u e3⟩
 ·rename_i xs i
  obtain⟨a,vs,rfl,hn,hr⟩:=hx
  cases hy
  simp only[pIx] at e
  cases e1:atI xs i with
  |none=>rw[e1] at e;cases e
  |some z' =>
   rw[e1] at e;cases e
   obtain⟨u,e2,e3⟩:=ZiI hr e1
   exact .inr (.inl ⟨a,vs,i,u,rfl,rfl,hn.sqT,e2,q u e3⟩)
theorem Zjc (x y:PV) (e:PX):pIx x y≠.exc e:=by
 cases x<;>cases y<;>first|(intro h;simp only[pIx] at h;cases h;done)|skip
 all_goals
  intro h
  simp only[pIx] at h
  split at h<;>cases h
theorem Dn.pIx {x y:PV}{ok:PV->Prop}{ex:PX->Prop} (d:Dn (pIx x y) ok ex):∃z,pIx x y=.ok z/\ok z:=by
 cases e:L2.pIx x y with
 |ok z=>rw[e] at d;exact⟨z,rfl,d⟩
 |exc q=>exact absurd e (Zjc x y q)
 |bad=>rw[e] at d;exact d.elim
theorem JH {te ta':TE}{fa':List PV->Rr PV} (ha:DE K EX Γ Γ1 .A ta' fa') (hb:DE K EX Γ1 Γ2 .A tb fb):DE K EX Γ Γ2 .A (tOp (rIx K) ta' tb) (fun ρ=>(fa' ρ).bind fun x=>(fb ρ).bind fun y=>pIx x y):=fun B H0 H σ ρ F R Q A d=>by
 refine two ha hb A d.bind2 fun x y v w H' F' d s hF p1 p2 A'=>?_
 obtain⟨z,e,d⟩:=d.pIx
 exact Zoa p1 p2 e fun u hu=>d u H' s ⟨F',hF,hu,A'⟩
def CbP (K:W.Frag) (r:List V->Hp->VK->Prop) (o:List PV->Rr PV):Prop:=∀{H:Hp}{xs:List PV}{vs:List V}{Q:VK},Reps K H (fun _=>True) xs vs->∀z,o xs=.ok z->z.flat=true/\((∀u,Rep K H (fun _=>True) z u->Q u H)->r vs H Q)
theorem ZjS {r:List V->Hp->VK->Prop}{o:List PV->Rr PV} (hr:CbP K r o) (hx:∀xs e,o xs≠.exc e) (ha:DAA K EX Γ Γ' ta fa):DE K EX Γ Γ' .P (tCB r ta) (fun ρ=>(fa ρ).bind o):=fun B H0 H σ ρ F R Q A d=>by
 refine ha B H0 H σ ρ F R _ A (d.bind.imp (fun xs _ d vs H1 F1 s1 f1 p1 A1=>?_) fun e q=>q)
 cases e:o xs with
 |ok z =>
  rw[e] at d
  obtain⟨hf,h⟩:=hr (Q:=Q) p1 z e
  exact h fun u hu=>d u H1 s1 ⟨F1,f1,hf,hu,A1⟩
 |exc q=>exact absurd e (hx xs q)
 |bad=>rw[e] at d;exact d.elim
noncomputable def ZlU (xs:List PV):Rr PV:=match xs with
 |[.lst ys]=>.ok (.int ys.length)
 |[.tup ys]=>.ok (.int ys.length)
 |_=>.bad
theorem ZcM {S:Addr->Prop}{x:PV}{vs:List V} (h:Reps K H S [x] vs):∃v,vs=[v]/\Rep K H S x v:=by
 obtain⟨v,r,rfl,h1,h2⟩:=h
 cases h2
 exact⟨v,rfl,h1⟩
theorem Zob {S:Addr->Prop}{x y:PV}{vs:List V} (h:Reps K H S [x,y] vs):∃v w,vs=[v,w]/\Rep K H S x v/\Rep K H S y w:=by
 obtain⟨v,r,rfl,h1,w,r',rfl,h2,h3⟩:=h
 cases h3
 exact⟨v,w,rfl,h1,h2⟩
theorem JF (ha:DAA K EX Γ Γ' ta fa):DE K EX Γ Γ' .P (tCB (fun xs H Q=>∃p ys,xs=[.ref p]/\(SqL K H p ys\/SqT K H p ys)/\Q (.int ys.length) H) ta) (fun ρ=>(fa ρ).bind ZlU):=by
 refine ZjS (fun {H xs vs Q} h z e=>?_) (fun xs e h=>?_) ha
 ·unfold ZlU at e
  split at e<;>first|(cases e;done)|skip
  all_goals
   cases e
   refine⟨rfl,fun q=>?_⟩
   obtain⟨v,rfl,a,ws,rfl,hn,hr⟩:=ZcM h
   refine⟨a,ws,rfl, ?_,by rw[hr.length];exact q _ rfl⟩
   first|exact .inl (ZaP (S:=fun _=>True) hn)|exact .inr hn.sqT
 ·unfold ZlU at h;split at h<;>cases h
noncomputable def Zc6:List PV->Option (List Int)
 |[]=>some []
 |.int i::xs=>(Zc6 xs).map (i::·)
 |_::_=>none
@[simp] theorem Zn8 (ns:List Int):Zc6 (ns.map PV.int)=some ns:=by
 induction ns with
 |nil=>rfl
 |cons n ns ih=>simp[Zc6,ih]
theorem Zff:∀{xs:List PV}{ns:List Int},Zc6 xs=some ns->xs=ns.map PV.int
 |[],_,h=>by cases h;rfl
 |.int i::xs,ns,h=>by
  simp only[Zc6] at h
  cases e:Zc6 xs with
  |none=>rw[e] at h;cases h
  |some ms=>rw[e] at h;cases h;rw[Zff e];rfl
 |.non::_,_,h=>by cases h
 |.bl _::_,_,h=>by cases h
 |.str _::_,_,h=>by cases h
 |.exc _::_,_,h=>by cases h
 |.exa _ _::_,_,h=>by cases h
 |.box _ _ _::_,_,h=>by cases h
 |.fz _::_,_,h=>by cases h
 |.lst _::_,_,h=>by cases h
 |.tup _::_,_,h=>by cases h
theorem ZeJ {S:Addr->Prop}:∀{ns:List Int}{vs:List V},Reps K H S (ns.map PV.int) vs->vs=ns.map V.int
 |[],_,h=>h
 |n::ns,_,h=>by
  obtain⟨v,r,rfl,h1,h2⟩:=h
  cases h1
  rw[ZeJ h2];rfl
theorem Zfe {S:Addr->Prop}:∀(ns:List Int),Reps K H S (ns.map PV.int) (ns.map V.int)
 |[]=>rfl
 |n::ns=>⟨_,_,rfl,rfl,Zfe ns⟩
theorem ZgD {S:Addr->Prop}{ns:List Int}{v:V} (h:Rep K H S (.lst (ns.map PV.int)) v):∃a,v=.ref a/\SqL K H a (ns.map V.int):=by
 obtain⟨a,vs,rfl,hn,hr⟩:=h
 rw[ZeJ hr] at hn
 exact⟨a,rfl,ZaP hn⟩
noncomputable def ZeQ (g:List Int->Rr PV) (xs:List PV):Rr PV:=match xs with
 |[.lst ys]=>match Zc6 ys with
  |some ns=>g ns
  |none=>.bad
 |_=>.bad
theorem Rr.ints {g:List Int->Rr PV}{xs:List PV}{z:PV} (e:ZeQ g xs=.ok z):∃ns,xs=[.lst (ns.map PV.int)]/\g ns=.ok z:=by
 unfold ZeQ at e
 split at e
 ·split at e
  ·rename_i ns h
   exact⟨ns,by rw[Zff h],e⟩
  ·cases e
 ·cases e
theorem ZcT {g:List Int->Rr PV} (hg:∀ns e,g ns≠.exc e) (xs:List PV) (e:PX):ZeQ g xs≠.exc e:=by
 intro h
 unfold ZeQ at h
 split at h
 ·split at h
  ·exact hg _ _ h
  ·cases h
 ·cases h
noncomputable abbrev Zpr:=ZeQ fun ns=>.ok (.int ns.sum)
theorem Zcg (ha:DAA K EX Γ Γ' ta fa):DE K EX Γ Γ' .P (tCB (fun xs H Q=>∃p,∃ns:List Int,xs=[.ref p]/\SqL K H p (ns.map V.int)/\Q (.int ns.sum) H) ta) (fun ρ=>(fa ρ).bind Zpr):=by
 refine ZjS (fun {H xs vs Q} h z e=>?_) (ZcT fun ns e h=>by cases h) ha
 obtain⟨ns,rfl,e'⟩:=Rr.ints e
 cases e'
 obtain⟨v,rfl,h1⟩:=ZcM h
 obtain⟨a,rfl,h2⟩:=ZgD h1
 exact⟨rfl,fun q=>⟨a,ns,rfl,h2,q _ rfl⟩⟩
noncomputable def Zc5:List Int->Int
 |[]=>0
 |[n]=>n
 |n::ns=>min n (Zc5 ns)
theorem Zb6:∀{ns:List Int},ns≠[]->Zc5 ns∈ns
 |[],h=>absurd rfl h
 |[n],_=>by simp[Zc5]
 |n::m::ns,_=>by
  have:=Zb6 (ns:=m::ns) (by simp)
  show min n (Zc5 (m::ns))∈n::m::ns
  rcases Int.le_total n (Zc5 (m::ns)) with h|h
  ·rw[Int.min_eq_left h];simp
  ·rw[Int.min_eq_right h];exact Z0P _ this
theorem Zet:∀{ns:List Int}{x:Int},x∈ns->Zc5 ns<=x
 |[n],x,h=>by simp at h;subst h;exact Z1L _
 |n::m::ns,x,h=>by
  show min n (Zc5 (m::ns))<=x
  rcases Z0G.mp h with rfl|h
  ·exact Int.min_le_left _ _
  ·exact Int.le_trans (Int.min_le_right _ _) (Zet h)
theorem ZmV {ns:List Int}{m:Int} (h1:m∈ns) (h2:∀a∈ns,m<=a):m=Zc5 ns:=Int.le_antisymm (h2 _ (Zb6 (List.ne_nil_of_mem h1))) (Zet h1)
noncomputable abbrev ZpJ:=ZeQ fun ns=>if ns=[] then .bad else .ok (.int (Zc5 ns))
theorem ZoX (ha:DAA K EX Γ Γ' ta fa):DE K EX Γ Γ' .P (tCB (Zoc K) ta) (fun ρ=>(fa ρ).bind ZpJ):=by
 refine ZjS (fun {H xs vs Q} h z e=>?_) (ZcT fun ns e h=>by split at h<;>cases h) ha
 obtain⟨ns,rfl,e'⟩:=Rr.ints e
 by_cases hn:ns=[]
 ·rw[if_pos hn] at e';cases e'
 rw[if_neg hn] at e'
 cases e'
 obtain⟨v,rfl,h1⟩:=ZcM h
 obtain⟨a,rfl,h2⟩:=ZgD h1
 exact⟨rfl,fun q=>⟨a,ns,rfl,h2,Z1y.mpr hn,fun m hm hl=>by rw[ZmV hm hl];exact q _ rfl⟩⟩
noncomputable def Zgs:List PV->Option (List Bool)
 |[]=>some []
 |.bl i::xs=>(Zgs xs).map (i::·)
 |_::_=>none
@[simp] theorem Zkb (ns:List Bool):Zgs (ns.map PV.bl)=some ns:=by
 induction ns with
 |nil=>rfl
 |cons n ns ih=>simp[Zgs,ih]
theorem Zh0:∀{xs:List PV}{ns:List Bool},Zgs xs=some ns->xs=ns.map PV.bl
 |[],_,h=>by cases h;rfl
 |.bl i::xs,ns,h=>by
  simp only[Zgs] at h
  cases e:Zgs xs with
  |none=>rw[e] at h;cases h
  |some ms=>rw[e] at h;cases h;rw[Zh0 e];rfl
 |.non::_,_,h=>by cases h
 |.int _::_,_,h=>by cases h
 |.str _::_,_,h=>by cases h
 |.exc _::_,_,h=>by cases h
 |.exa _ _::_,_,h=>by cases h
 |.box _ _ _::_,_,h=>by cases h
 |.fz _::_,_,h=>by cases h
 |.lst _::_,_,h=>by cases h
 |.tup _::_,_,h=>by cases h
theorem ZgC {S:Addr->Prop}:∀{ns:List Bool}{vs:List V},Reps K H S (ns.map PV.bl) vs->vs=ns.map V.bl
 |[],_,h=>h
 |n::ns,_,h=>by
  obtain⟨v,r,rfl,h1,h2⟩:=h
  cases h1
  rw[ZgC h2];rfl
noncomputable def Zop (xs:List PV):Rr PV:=match xs with
 |[.lst ys]=>match Zgs ys with
  |some bs=>.ok (.bl (bs.all id))
  |none=>.bad
 |_=>.bad
theorem Zdw (ha:DAA K EX Γ Γ' ta fa):DE K EX Γ Γ' .P (tCB (fun xs H Q=>∃p,∃bs:List Bool,xs=[.ref p]/\SqL K H p (bs.map V.bl)/\Q (.bl (bs.all id)) H) ta) (fun ρ=>(fa ρ).bind Zop):=by
 refine ZjS (fun {H xs vs Q} h z e=>?_) (fun xs e h=>?_) ha
 ·unfold Zop at e
  split at e
  ·split at e
   ·rename_i bs hb
    cases e
    rw[Zh0 hb] at h
    obtain⟨v,rfl,a,ws,rfl,hn,hr⟩:=ZcM h
    rw[ZgC hr] at hn
    exact⟨rfl,fun q=>⟨a,bs,rfl,ZaP (S:=fun _=>True) hn,q _ rfl⟩⟩
   ·cases e
  ·cases e
 ·unfold Zop at h
  split at h
  ·split at h<;>cases h
  ·cases h
end
theorem Zb7 {n:Nat} (h:n<=1000000):n<=sizeLine:=Z0U h (by decide)
def LX (K:W.Frag) (H:Hp) (a:Addr) (vs:List V):Prop:=Rd H a (.lst vs)\/KL K a vs
noncomputable def Zoe (K:W.Frag):R2:=fun x y H Q=>∃l b xs zs,x=.ref l/\y=.ref b/\LX K H l xs/\LX K H b zs/\xs.length+zs.length<=sizeLine/\∀p,H p=none->Q (.ref p) (upd H p (.lst (xs++zs)))
section
variable {X:Cx}{K:W.Frag}
theorem Zo0 {H:Hp}{S:Addr->Prop}{a:Addr}{vs:List V} (h:(Rd H a (.lst vs)/\S a)\/KL K a vs):LX K H a vs:=h.elim (fun z=>.inl z.1) .inr
theorem Zbx (e:X.K=K:=by rfl):OpR X (binaryOp .Add) (Zoe K):=by
 subst e
 intro pins s σ H x y v u Q I rx ry h
 obtain⟨l,b,xs,zs,rfl,rfl,hH,hB,hz,q⟩:=h
 cases rx
 cases ry
 obtain⟨its,r,pl,_⟩:=I.list (show SqL X.K H l xs from hH)
 obtain⟨its2,r2,pl2,_⟩:=I.list (show SqL X.K H b zs from hB)
 have hl:=r.length
 have hl2:=r2.length
 obtain⟨⟨cls,dd,data,sl⟩,ho,hc,n,hd⟩:=pl.isList
 obtain⟨⟨cls2,dd2,data2,sl2⟩,ho2,hc2,n2,hd2⟩:=pl2.isList
 simp only at hc hd hc2 hd2
 subst hc hd hc2 hd2
 have ea:its.toArray++its2.toArray=(its++its2).toArray:=by simp
 refine concat_meets ⟨_,ho,rfl⟩ ⟨_,ho2,rfl⟩ noFill_list_add seq_list_add PySem.F.slot_list_add PySem.F.entry_list_add (PySem.F.args_list_add_2 _ _) (list_addW l b its.toArray its2.toArray n n2 dd dd2 sl sl2 (by rw[Z0H,Z0H];omega)) ⟨ho,ho2, ?_⟩
 rw[ea]
 exact⟨.ref _,_,I.lnew (t':=s.toks) (r.append r2) (by rw[Z0Z];omega),rfl,q _ I.fresh⟩
end
def Frm (H:Hp) (F:Nat->List Addr) (H':Hp) (F':Nat->List Addr):Prop:=∀a o,H a=some o->(∀i,a ∉ F i)->H' a=some o/\∀i,a ∉ F' i
theorem Frm.refl {H:Hp}{F:Nat->List Addr}:Frm H F H F:=fun a o h n=>⟨h,n⟩
theorem Frm.trans {H H1 H2:Hp}{F F1 F2:Nat->List Addr} (h1:Frm H F H1 F1) (h2:Frm H1 F1 H2 F2):Frm H F H2 F2:=fun a o h n=>let ⟨h3,n3⟩:=h1 a o h n;h2 a o h3 n3
theorem Frm.of {H H':Hp}{F F':Nat->List Addr} (s:ZL H H') (f:∀i,∀a∈F' i,a∈F i):Frm H F H' F':=fun a o h n=>⟨s a o h,fun i z=>n i (f i a z)⟩
def ItP (K:W.Frag) (S:Addr->Prop) (J:It) (xs:List PV) (H:Hp):Prop:=
 ∀i,(∀x,xs[i]?=some x->J.go i H/\∀v H',J.yld i H v H'->ZL H H'/\Rep K H' S x v)/\(xs[i]?=none->J.stop i H)
def DI (K:W.Frag) (EX:PX->Hp->Prop) (Γ Γ':List Md) (wi:TI) (f:List PV->Rr (List PV)):Prop:=
 ∀(B:Addr->Prop) (H0 H:Hp) (σ:St) (ρ:List PV) (F:Nat->List Addr) (R:List Addr) (Q:It->Hp->Prop),Ag K B H0 H σ Γ ρ F R ->
  Dn (f ρ) (fun xs=>∀J H' F',ZL H H'->(∀i,∀a∈F' i,a∈F i)->Ag K B H0 H' σ Γ' ρ F' R->(∀H2 F2,Frm H' F' H2 F2->ItP K (fun a=>NO B F2 R a/\H' a≠none/\∀i,a ∉ F' i) J xs H2)->Q J H') (fun e=>∀H',ZL H0 H'->EX e H')->wi σ H Q
def DIc (K:W.Frag) (EX:PX->Hp->Prop) (Γ Γ':List Md) (wi:TI) (f:List PV->Rr (List PV)):Prop:=
 ∀(B:Addr->Prop) (H0 H:Hp) (σ:St) (ρ:List PV) (F:Nat->List Addr) (R:List Addr) (Q:It->Hp->Prop),Ag K B H0 H σ Γ ρ F R ->
  Dn (f ρ) (fun xs=>∀J H' F',ZL H H'->(∀i,∀a∈F' i,a∈F i)->Ag K B H0 H' σ Γ' ρ F' R->(∀H2 F2,ZL H' H2->(∀i,∀a∈F2 i,a∈F' i)->ItP K (fun a=>NO B F2 R a/\H' a≠none/\∀i,a ∉ F' i) J xs H2)->Q J H') (fun e=>∀H',ZL H0 H'->EX e H')->wi σ H Q
theorem DI.c {K:W.Frag}{EX:PX->Hp->Prop}{Γ Γ':List Md}{wi:TI}{f:List PV->Rr (List PV)} (h:DI K EX Γ Γ' wi f):DIc K EX Γ Γ' wi f:=fun B H0 H σ ρ F R Q A d =>
 h B H0 H σ ρ F R Q A (d.imp (fun xs _ d J H' F' s1 f1 A1 it=>d J H' F' s1 f1 A1 fun H2 F2 s2 f2=>it H2 F2 (Frm.of s2 f2)) fun e q=>q)
theorem ItP.flat {K:W.Frag}{S S':Addr->Prop}{J:It}{xs:List PV}{H:Hp} (f:PV.flats xs=true) (h:ItP K S J xs H):ItP K S' J xs H:=fun i=>by
 refine⟨fun x hx=>?_,(h i).2⟩
 obtain⟨h1,h2⟩:=(h i).1 x hx
 have fx:∀(xs:List PV) (i:Nat),PV.flats xs=true->xs[i]?=some x->x.flat=true:=by
  intro xs
  induction xs with
  |nil=>intro i _ h;simp at h
  |cons y ys ih =>
   intro i hf hx
   simp only[PV.flats,Bool.and_eq_true] at hf
   cases i with
   |zero=>simp at hx;rw[<- hx];exact hf.1
   |succ i=>exact ih i hf.2 (by simpa using hx)
 exact⟨h1,fun v H' y=>⟨(h2 v H' y).1,(h2 v H' y).2.flatS (fx xs i f hx)⟩⟩
section
variable {K:W.Frag}{B:Addr->Prop}{EX:PX->Hp->Prop}{H0 H H':Hp}{σ:St}{Γ Γ' Γ1 Γ2:List Md}{ρ:List PV}{F F':Nat->List Addr}{R:List Addr}{k:Kd}{x:PV}{v:V}{te tb:TE}{ta:TA}{f fb:List PV->Rr PV}{fa:List PV->Rr (List PV)}
theorem Rep.frm {F2:Nat->List Addr}{H2:Hp} (h:Frm H F H2 F2) (A:Ag K B H0 H σ Γ ρ F R) (r:Rep K H (NO B F R) x v):Rep K H2 (fun a=>NO B F2 R a/\H a≠none/\∀i,a ∉ F i) x v:=by
 refine Rep.mono (fun a us s r=>?_) (fun a us r=>?_) r
 ·rcases r with r|⟨o,r⟩
  ·obtain⟨h1,h2⟩:=h a _ r s.2.2;exact⟨.inl h1,⟨s.1,s.2.1,h2⟩,by rw[r];simp,s.2.2⟩
  ·obtain⟨h1,h2⟩:=h a _ r s.2.2;exact⟨.inr ⟨o,h1⟩,⟨s.1,s.2.1,h2⟩,by rw[r];simp,s.2.2⟩
 ·refine⟨(h a _ r.1 fun i z=>?_).1,r.2⟩
  obtain⟨vs,q⟩:=A.live i a z
  exact Zhc vs.2 r.2 (by rw[r.1] at q;exact Option.some.inj q)
noncomputable def ZhC (lo:Int) (n:Nat):List PV:=(List.range n).map fun(k:Nat)=>PV.int (lo+(k:Int))
theorem Zna {lo:Int}{n:Nat}{S:Addr->Prop}:ItP K S (Itr lo n) (ZhC lo n) H:=by
 intro i
 constructor
 ·intro x hx
  unfold ZhC at hx
  rw[Z0N] at hx
  by_cases h:i<n
  ·rw[Z1z h] at hx
   cases hx
   exact⟨h,fun v H' ⟨e1,e2⟩=>by subst e1 e2;exact⟨ZL.refl _,rfl⟩⟩
  ·rw[Z0I (by simpa using h)] at hx;cases hx
 ·intro hx
  unfold ZhC at hx
  have:=Z1b.mp hx
  show n<=i
  simpa using this
noncomputable def okR (j:Int):Bool:=decide (-(2^62)<=j/\j<2^62)
noncomputable def ZkN (xs:List PV):Rr (List PV):=match xs with
 |[.int j]=>if okR j=true then .ok (ZhC 0 j.toNat) else .bad
 |_=>.bad
theorem Zds (ha:DAA K EX Γ Γ' ta fa):DI K EX Γ Γ' (ZoJ ta) (fun ρ=>(fa ρ).bind ZkN):=fun B H0 H σ ρ F R Q A d=>by
 refine ha B H0 H σ ρ F R _ A (d.bind.imp (fun xs _ d vs H1 F1 s1 f1 p1 A1=>?_) fun e q=>q)
 unfold ZkN at d
 split at d
 ·rename_i j _
  obtain⟨v,rfl,h1⟩:=ZcM p1
  cases h1
  by_cases h:okR j=true
  ·rw[if_pos h] at d
   have h':=of_decide_eq_true h
   exact⟨j,rfl,h'.1,h'.2,d _ H1 F1 s1 f1 A1 fun H2 F2 _=>Zna⟩
  ·rw[if_neg h] at d;exact d.elim
 ·exact d.elim
noncomputable def asL (x:PV):Rr (List PV):=match x with
 |.lst xs=>.ok xs
 |_=>.bad
theorem Zj8 {a:Addr}{xs:List PV}{S:Addr->Prop} (h:Rep K H S (.lst xs) (.ref a)):ItP K S (Itl K a) xs H:=by
 obtain⟨a',vs,e,hn,hr⟩:=h
 cases e
 intro i
 constructor
 ·intro x hx
  obtain⟨u,e1,e2⟩:=hr.get hx
  refine⟨⟨vs,u,ZaP hn,e1⟩,fun v H' ⟨e,y⟩=>?_⟩
  subst e
  have:=y vs (ZaP hn)
  rw[e1] at this;cases this
  exact⟨ZL.refl _,e2⟩
 ·intro hx
  exact⟨vs,ZaP hn,by rw[hr.length];exact Z1b.mp hx⟩
theorem Zdt (he:DE K EX Γ Γ' .Z te f):DI K EX Γ Γ' (Zln K te) (fun ρ=>(f ρ).bind asL):=fun B H0 H σ ρ F R Q A d=>by
 refine he B H0 H σ ρ F R _ A (d.bind.imp (fun x _ d v H1 s1 r1=>?_) fun e q=>q)
 obtain⟨F1,f1,p1,A1⟩:=r1
 cases x with
 |lst xs =>
  obtain⟨a,vs,rfl,hn,hr⟩:=id p1
  exact⟨a,rfl,⟨vs,ZaP hn⟩,d _ H1 F1 s1 f1 A1 fun H2 F2 h=>Zj8 (p1.frm h A1)⟩
 |_=>exact d.elim
noncomputable def Zpi (x:PV):Rr (List PV):=match x with
 |.lst xs=>if PV.flats xs=true then .ok xs else .bad
 |_=>.bad
theorem Zex (he:DE K EX Γ Γ' .A te f):DIc K EX Γ Γ' (Zln K te) (fun ρ=>(f ρ).bind Zpi):=fun B H0 H σ ρ F R Q A d=>by
 refine he B H0 H σ ρ F R _ A (d.bind.imp (fun x _ d v H1 s1 r1=>?_) fun e q=>q)
 obtain⟨F1,f1,p1,A1⟩:=r1
 cases x with
 |lst xs =>
  unfold Zpi at d
  by_cases hf:PV.flats xs=true
  ·simp only[hf,if_true] at d
   obtain⟨a,vs,rfl,hn,hr⟩:=id p1
   exact⟨a,rfl,⟨vs,ZaP (S:=fun _=>True) hn⟩,d _ H1 F1 s1 f1 A1 fun H2 F2 s2 _=>ItP.flat hf (Zj8 (p1.same s2))⟩
  ·simp only[hf] at d;exact d.elim
 |_=>exact d.elim
theorem Zdo:∀{ns:List Int},PV.flats (ns.map PV.int)=true
 |[]=>rfl
 |n::ns=>by simp only[Z0R,PV.flats,PV.flat,Zdo,Bool.and_self]
theorem ZlB {ns:List Int}:Zpi (.lst (ns.map PV.int))=.ok (ns.map PV.int):=by unfold Zpi;simp only[Zdo,if_true]
noncomputable def newF (xs:List PV):Rr PV:=if (PV.flats xs&&decide (xs.length<=1000000))=true then .ok (.lst xs) else .bad
theorem Dn.newF {xs:List PV}{ok:PV->Prop}{ex:PX->Prop} (d:Dn (newF xs) ok ex):PV.flats xs=true/\xs.length<=1000000/\ok (.lst xs):=by
 unfold L2.newF at d
 by_cases h:(PV.flats xs&&decide (xs.length<=1000000))=true
 ·rw[if_pos h] at d
  rw[Bool.and_eq_true] at h
  exact⟨h.1,of_decide_eq_true h.2,d⟩
 ·rw[if_neg h] at d;exact d.elim
theorem Zb2 {tb':TE}{fb':List PV->Rr PV} (ha:DE K EX Γ Γ1 .A te f) (hb:DE K EX Γ1 Γ2 .A tb' fb') :
  DE K EX Γ Γ2 .F (tOp (Zoe K) te tb') (fun ρ=>(f ρ).bind fun x=>(fb' ρ).bind fun y=>(asL x).bind fun xs=>(asL y).bind fun ys=>newF (xs++ys)):=fun B H0 H σ ρ F R Q A d=>by
 refine two ha hb A d.bind2 fun x y v w H' F' d s hF p1 p2 A'=>?_
 cases x with
 |lst xs =>
  cases y with
  |lst ys =>
   obtain⟨h1,h2,d⟩:=Dn.newF d
   obtain⟨a,vs,rfl,hn,hr⟩:=p1
   obtain⟨b,ws,rfl,hn',hr'⟩:=p2
   refine⟨a,b,vs,ws,rfl,rfl,Zo0 (S:=fun _=>True) hn,Zo0 (S:=fun _=>True) hn', ?_,fun p hp=>?_⟩
   ·rw[hr.length,hr'.length,<- Z0Z];exact Zb7 h2
   ·exact d _ _ (s.trans (ZL.new hp)) (Res.newP s hF (hr.append hr') h1 A' hp)
  |_=>exact d.elim
 |_=>exact d.elim
noncomputable def ZmF (xs:List PV) (y:PV):Rr PV:=match y with
 |.int k=>if xs.length*k.toNat<=1000000/\-(2^63)<=k/\k<2^63 then newF (List.replicate k.toNat xs).flatten else .bad
 |_=>.bad
theorem Reps.rep {S:Addr->Prop}{xs:List PV}{vs:List V} (h:Reps K H S xs vs):∀n:Nat,Reps K H S (List.replicate n xs).flatten (List.replicate n vs).flatten
 |0=>rfl
 |n+1=>by
  rw[Z0V,Z0V,Z1m,Z1m]
  exact h.append (Reps.rep h n)
theorem Zgo (ha:DAA K EX Γ Γ1 ta fa) (hb:DE K EX Γ1 Γ2 .A tb fb) :
  DE K EX Γ Γ2 .F (tOp Zqz (Zpq ta) tb) (fun ρ=>(fa ρ).bind fun xs=>(mkL xs).bind fun _=>(fb ρ).bind fun y=>ZmF xs y):=fun B H0 H σ ρ F R Q A d=>by
 refine ha B H0 H σ ρ F R _ A (d.bind.imp (fun xs _ d vs H1 F1 s1 f1 p1 A1=>?_) fun e q=>q)
 obtain⟨hl,d⟩:=Dn.mkL d.bind
 refine⟨by rw[p1.length];exact Zcd hl,fun p hp=>?_⟩
 have e:ZL H1 (upd H1 p (.lst vs)):=ZL.new hp
 refine hb B H0 _ σ ρ F1 R _ (A1.grow e) (d.bind.imp (fun y _ d w H2 s2 r2=>?_) fun e q=>q)
 obtain⟨F2,f2,p2,A2⟩:=r2
 cases y with
 |int k =>
  cases p2
  simp only[ZmF] at d
  by_cases h:xs.length*k.toNat<=1000000/\-(2^63)<=k/\k<2^63
  ·rw[if_pos h] at d
   obtain⟨h1,h2,d⟩:=Dn.newF d
   refine⟨p,k,vs,rfl,rfl,s2 _ _ ZD,h.2.1,h.2.2,by rw[p1.length];exact Zb7 h.1,fun q hq=>?_⟩
   have st:=(s1.trans e).trans s2
   exact d _ _ (st.trans (ZL.new hq)) (Res.newP st (fun i a h=>f1 i a (f2 i a h)) (((p1.same e).same s2).rep k.toNat) h1 A2 hq)
  ·rw[if_neg h] at d;exact d.elim
 |_=>exact d.elim
noncomputable def ZkP (xs:List PV):Rr PV:=match xs with
 |[.lst ys]=>newF ys
 |[.tup ys]=>newF ys
 |_=>.bad
theorem Ze1 (ha:DAA K EX Γ Γ' ta fa):DE K EX Γ Γ' .F (tCB (fun xs H Q=>∃p ys,xs=[.ref p]/\(SqL K H p ys\/SqT K H p ys)/\∀l,H l=none->Q (.ref l) (upd H l (.lst ys))) ta) (fun ρ=>(fa ρ).bind ZkP):=fun B H0 H σ ρ F R Q A d=>by
 refine ha B H0 H σ ρ F R _ A (d.bind.imp (fun xs _ d vs H1 F1 s1 f1 p1 A1=>?_) fun e q=>q)
 unfold ZkP at d
 split at d
 ·obtain⟨h1,h2,d⟩:=Dn.newF d
  obtain⟨v,rfl,a,ws,rfl,hn,hr⟩:=ZcM p1
  exact⟨a,ws,rfl,.inl (ZaP (S:=fun _=>True) hn),fun l hl=>d _ _ (s1.trans (ZL.new hl)) (Res.newP s1 f1 hr h1 A1 hl)⟩
 ·obtain⟨h1,h2,d⟩:=Dn.newF d
  obtain⟨v,rfl,a,ws,rfl,hn,hr⟩:=ZcM p1
  exact⟨a,ws,rfl,.inr hn.sqT,fun l hl=>d _ _ (s1.trans (ZL.new hl)) (Res.newP s1 f1 hr h1 A1 hl)⟩
 ·exact d.elim
noncomputable def ZaV:PV->String
 |.non => "NoneType"
 |.bl _ => "bool"
 |.int _ => "int"
 |.str _ => "str"
 |.lst _ => "list"
 |.tup _ => "tuple"
 |.exc _ => "?"
 |.exa _ _ => "?"
 |.box _ (.dk _) _ => "dict"
 |.box _ (.dt _) _ => "dict"
 |.box _ (.ob _ _) _ => "?"
 |.box _ .jk _ => "?"
 |.fz _ => "?"
noncomputable def PV.isX:PV->Bool
 |.exc _=>true
 |.exa _ _=>true
 |.box _ _ _=>true
 |.fz _=>true
 |_=>false
noncomputable def Zdj (t n:String):Bool:=t==n || (t == "bool" && n == "int")
noncomputable def Zp2 (n:String):Bool:=n == "int" || n == "bool" || n == "str" || n == "list" || n == "tuple"
theorem Zo6 (K:W.Frag) {n:String} (h:Zp2 n=true) (x:PV) (hx:x.isX=false):PySem.W.kitOne K (.type (ZaV x)) (.type n)=some (Zdj (ZaV x) n):=by
 simp only[Zp2,Bool.or_eq_true,beq_iff_eq] at h
 rcases h with (((rfl|rfl)|rfl)|rfl)|rfl<;>cases x<;>first|rfl|cases hx
def Zq1 (K:W.Frag) (n:String):List V->Hp->VK->Prop:=fun xs H Q=>∃x p,xs=[x,.ty n]/\Rep K H (fun _=>True) p x/\p.isX=false/\Q (.bl (Zdj (ZaV p) n)) H
theorem Zb3 {X:Cx}{n:String} (hn:Zp2 n=true) (e:X.K=K:=by rfl):ZbD X (.builtin "isinstance") (Zq1 K n):=by
 subst e
 intro pins s σ H xs us Q I r h
 obtain⟨x,p,rfl,hp,hx,q⟩:=h
 obtain⟨u,w',rfl,rx,rn⟩:=ZnG r
 cases rn
 have e:=Zo6 X.K hn p hx
 have fin:∀tk,EP X pins σ Q (.bool (Zdj (ZaV p) n)) { s with toks:=tk }:=fun tk=>⟨.bl _,H,I.tok _,rfl,q⟩
 cases p with
 |non=>cases hp;cases rx;exact PySem.W.kia_one PySem.W.kitx_none I.kIn True.intro e (fun z=>nomatch z) fin
 |bl y=>cases hp;cases rx;exact PySem.W.kia_one PySem.W.kitx_bool I.kIn True.intro e (fun z=>nomatch z) fin
 |int i=>cases hp;obtain⟨t,rfl⟩:=rx;exact PySem.W.kia_one PySem.W.kitx_int I.kIn True.intro e (fun z=>nomatch z) fin
 |str y=>cases hp;obtain⟨t,rfl⟩:=rx;exact PySem.W.kia_one PySem.W.kitx_str I.kIn True.intro e (fun z=>nomatch z) fin
 |exc y=>cases hx
 |exa y i=>cases hx
 |box p s ps=>cases hx
 |fz ps=>cases hx
 |lst ps =>
  obtain⟨a,vs,rfl,hn',hr⟩:=hp
  cases rx
  obtain⟨its,_,pl,_⟩:=I.list (ZaP (S:=fun _=>True) hn')
  obtain⟨o,h1,h2,_⟩:=pl.isList
  exact PySem.W.kia_one PySem.W.kitx_list I.kIn ⟨o,h1,h2⟩ e (fun z=>nomatch z) fin
 |tup ps =>
  obtain⟨a,vs,rfl,hn',hr⟩:=hp
  cases rx
  obtain⟨its,_,⟨o,h1,h2,_⟩,_⟩:=I.tuple hn'.sqT
  exact PySem.W.kia_one PySem.W.kitx_tuple I.kIn ⟨o,h1,h2⟩ e (fun z=>nomatch z) fin
noncomputable def Zoo (n:String) (x:PV):Rr PV:=if x.isX=true then .bad else .ok (.bl (Zdj (ZaV x) n))
theorem Zfs {n:String} (he:DE K EX Γ Γ' .A te f):DE K EX Γ Γ' .P (tCB (Zq1 K n) (ZcK te (ZcK (tC (.ty n)) Zko))) (fun ρ=>(f ρ).bind (Zoo n)):=fun B H0 H σ ρ F R Q A d=>by
 refine he B H0 H σ ρ F R _ A (d.bind.imp (fun x _ d v H1 s1 r1=>?_) fun e q=>q)
 obtain⟨F1,f1,p1,A1⟩:=r1
 unfold Zoo at d
 cases hx:x.isX with
 |true=>rw[hx] at d;exact d.elim
 |false=>rw[hx] at d;exact⟨v,x,rfl,p1,hx,d _ H1 s1 ⟨F1,f1,rfl,rfl,A1⟩⟩
def Len (fa:List PV->Rr (List PV)) (n:Nat):Prop:=∀ρ xs,fa ρ=.ok xs->xs.length=n
theorem Zm:Len (fun _=>.ok []) 0:=fun ρ xs h=>by cases h;rfl
theorem Zf {f:List PV->Rr PV}{fa:List PV->Rr (List PV)}{n:Nat} (h:Len fa n):Len (fun ρ=>(f ρ).bind fun x=>(fa ρ).bind fun xs=>.ok (x::xs)) (n+1):=fun ρ xs e=>by
 dsimp only at e
 cases h1:f ρ with
 |ok x =>
  rw[h1] at e
  cases h2:fa ρ with
  |ok ys=>simp only[Rr.bind_ok,h2] at e;cases e;simp[h ρ ys h2]
  |exc q=>simp only[Rr.bind_ok,h2,Rr.bind_exc] at e;cases e
  |bad=>simp only[Rr.bind_ok,h2,Rr.bind_bad] at e;cases e
 |exc q=>rw[h1] at e;cases e
 |bad=>rw[h1] at e;cases e
def ZlC (K:W.Frag) (B:Addr->Prop) (H:Hp) (k:Kd) (x:PV) (v:V) (H':Hp):Prop:=match k with
 |.P=>x.flat=true/\Rep K H' (fun _=>True) x v
 |.F=>∃G,JY K H' x v G/\∀a∈G,H a=none
 |.N=>∃y a s xs G1 G2,x=.tup [y,.box (some a) s xs]/\JY K H' y v G1/\JY K H' (.box (some a) s xs) (.ref a) G2/\(∀b∈G1,b ∉ G2)/\(∀b∈G1,H b=none)/\∀b∈G2,H b=none
 |_=>Rep K H' (fun a=>B a\/H a=none) x v
noncomputable def spF (K:PySem.W.Frag) (n:Nat) (k:Kd) (W:PX->XK->Hp->Prop) (m:List PV->Rr PV):Sp:=fun vs H Q E=>∃B xs,Reps K H B xs vs/\xs.length=n /\
 Dn (m xs) (fun x=>∀v H',ZL H H'->ZlC K B H k x v H'->Q v H') (fun e=>∀H',ZL H H'->W e E H')
def W0:PX->XK->Hp->Prop:=fun _ _ _=>False
def X0:PX->Hp->Prop:=fun _ _=>False
section
variable {n:Nat}{W:PX->XK->Hp->Prop}{m:List PV->Rr PV}{E:XK}
theorem Ze2 {t:TE} (ht:∀σ H Q,(ta σ H fun vs H1=>spF K n .P W m vs H1 Q E)->t σ H Q) (hW:∀e H',EX e H'->W e E H') (hn:Len fa n) (ha:DAA K EX Γ Γ' ta fa):DE K EX Γ Γ' .P t (fun ρ=>(fa ρ).bind m):=fun B H0 H σ ρ F R Q A d=>by
 refine ht _ _ _ (ha B H0 H σ ρ F R _ A (d.bind.imp (fun xs hx d vs H1 F1 s1 f1 p1 A1=>?_) fun e q=>q))
 exact⟨fun _=>True,xs,p1,hn ρ xs hx,d.imp (fun x _ d v H2 s2 r=>d v H2 (s1.trans s2) ⟨F1,f1,r.1,r.2,A1.grow s2⟩) fun e q H2 s2=>hW e H2 (q H2 (A1.same.trans s2))⟩
theorem Zhw {t:TE} (ht:∀σ H Q,(ta σ H fun vs H1=>spF K n .F W m vs H1 Q E)->t σ H Q) (hW:∀e H',EX e H'->W e E H') (hn:Len fa n) (ha:DAA K EX Γ Γ' ta fa):DE K EX Γ Γ' .F t (fun ρ=>(fa ρ).bind m):=fun B H0 H σ ρ F R Q A d=>by
 refine ht _ _ _ (ha B H0 H σ ρ F R _ A (d.bind.imp (fun xs hx d vs H1 F1 s1 f1 p1 A1=>?_) fun e q=>q))
 refine⟨fun _=>True,xs,p1,hn ρ xs hx,d.imp (fun x _ d v H2 s2 r=>?_) fun e q H2 s2=>hW e H2 (q H2 (A1.same.trans s2))⟩
 obtain⟨G,r1,r2⟩:=r
 exact d v H2 (s1.trans s2) ⟨F1,f1,G,r1,fun a ha=>⟨(A1.fresh (r2 a ha)).1,.inl (s1.free (r2 a ha))⟩,A1.more s2 r2 r1.alive⟩
theorem Zl4 {t:TE} (ht:∀σ H Q,(ta σ H fun vs H1=>spF K n .Z W m vs H1 Q E)->t σ H Q) (hW:∀e H',EX e H'->W e E H') (hn:Len fa n) (ha:DAZ K EX Γ Γ' ta fa):DE K EX Γ Γ' .Z t (fun ρ=>(fa ρ).bind m):=fun B H0 H σ ρ F R Q A d=>by
 refine ht _ _ _ (ha B H0 H σ ρ F R _ A (d.bind.imp (fun xs hx d vs H1 F1 s1 f1 p1 A1=>?_) fun e q=>q))
 refine⟨NO B F1 R,xs,p1,hn ρ xs hx,d.imp (fun x _ d v H2 s2 r=>?_) fun e q H2 s2=>hW e H2 (q H2 (A1.same.trans s2))⟩
 refine d v H2 (s1.trans s2) ⟨F1,f1,Rep.mono (fun a us s r=>⟨r, ?_⟩) (fun a us r=>r) r,A1.grow s2⟩
 rcases s with s|s
 ·exact s
 ·obtain⟨h1,h2,h3,h4⟩:=A1.fresh s
  exact⟨h4,h1,h2⟩
end
end
noncomputable def Zf7 {α β:Type} (f:α->Rr β):List α->Rr (List β)
 |[]=>.ok []
 |x::xs=>(f x).bind fun y=>(Zf7 f xs).bind fun ys=>.ok (y::ys)
noncomputable def lenM (xs:List PV):Rr Unit:=if xs.length<=1000000 then .ok () else .bad
theorem Dn.lenM {xs:List PV}{ok:Unit->Prop}{ex:PX->Prop} (d:Dn (lenM xs) ok ex):xs.length<=1000000/\ok ():=by
 unfold L2.lenM at d
 by_cases h:xs.length<=1000000
 ·rw[if_pos h] at d;exact⟨h,d⟩
 ·rw[if_neg h] at d;exact d.elim
theorem Rr.assoc {α β γ:Type}{r:Rr α}{f:α->Rr β}{g:β->Rr γ}:(r.bind f).bind g=r.bind fun a=>(f a).bind g:=by cases r<;>rfl
section
variable {K:W.Frag}{B:Addr->Prop}{H0 H:Hp}{σ:St}{Γ:List Md}{ρ:List PV}{F:Nat->List Addr}{R:List Addr}{x:PV}{v:V}
theorem Ag.outF (A:Ag K B H0 H σ Γ ρ F R) {i:Nat} (h:Γ.length<=i):F i=[]:=by
 have:=A.slot i
 rw[Z09,Z0I h] at this
 exact this
theorem Ag.push (A:Ag K B H0 H σ Γ ρ F R) (h:Rep K H (NO B F R) x v):Ag K B H0 H (σ++[some v]) (Γ++[.S]) (ρ++[x]) F R:=by
 refine⟨A.same,A.own,A.young,A.youngR,A.live,A.liveR,A.disj,A.disjR,by simp[A.lenS],by simp[A.lenR],fun i=>?_⟩
 by_cases h1:i<Γ.length
 ·have:=A.slot i
  rw[Z09,Z09,Z0J h1,Z0J (by rw[A.lenR];exact h1),Z0J (by rw[A.lenS];exact h1),<- Z09,<- Z09]
  exact this
 ·by_cases h2:i=Γ.length
  ·subst h2
   rw[Z09,Z09,Z0L (Z0D _),Z0L (by rw[A.lenR];exact Z0D _),Z0L (by rw[A.lenS];exact Z0D _),A.lenR,A.lenS]
   simp only[Nat.sub_self,Z13,Z1O]
   exact⟨A.outF (Z0D _),v,rfl,h⟩
  ·rw[Z09,Z0I (by simp;omega)]
   exact A.outF (by omega)
end
inductive RS where
 |next (ρ:List PV)|ret (x:PV)|brk (ρ:List PV)|cont (ρ:List PV)|exc (e:PX)|bad
noncomputable def Rr.thenS {α:Type}:Rr α->(α->RS)->RS
 |.ok a,f=>f a
 |.exc e,_=>.exc e
 |.bad,_=>.bad
noncomputable def RS.seq:RS->(List PV->RS)->RS
 |.next ρ,f=>f ρ
 |r,_=>r
@[simp] theorem Rr.thenS_ok {α:Type}{a:α}{f:α->RS}:(Rr.ok a).thenS f=f a:=rfl
@[simp] theorem Rr.thenS_exc {α:Type}{e:PX}{f:α->RS}:(Rr.exc e:Rr α).thenS f=.exc e:=rfl
@[simp] theorem RS.seq_next {ρ:List PV}{f:List PV->RS}:(RS.next ρ).seq f=f ρ:=rfl
@[simp] theorem RS.seq_ret {x:PV}{f:List PV->RS}:(RS.ret x).seq f=.ret x:=rfl
@[simp] theorem RS.seq_exc {e:PX}{f:List PV->RS}:(RS.exc e).seq f=.exc e:=rfl
structure Tys where
 n:List Md
 b:List Md
 c:List Md
 r:Kd
def DnS (K:W.Frag) (B:Addr->Prop) (EX:PX->Hp->Prop) (Y:Tys) (H0 H:Hp) (F:Nat->List Addr) (D:Zir) (r:RS):Prop:=match r with
 |.next ρ=>∀σ' H' F',Frm H F H' F'->Ag K B H0 H' σ' Y.n ρ F' []->D.nx σ' H'
 |.brk ρ=>∀σ' H' F',Frm H F H' F'->Ag K B H0 H' σ' Y.b ρ F' []->D.bk σ' H'
 |.cont ρ=>∀σ' H' F',Frm H F H' F'->Ag K B H0 H' σ' Y.c ρ F' []->D.ct σ' H'
 |.ret x=>∀v H',ZL H0 H'->ZlC K B H0 Y.r x v H'->D.rt v H'
 |.exc e=>∀H',ZL H0 H'->EX e H'
 |.bad=>False
def DS (K:W.Frag) (EX:PX->Hp->Prop) (Γ:List Md) (Y:Tys) (t:TS) (g:List PV->RS):Prop:=
 ∀(B:Addr->Prop) (H0 H:Hp) (σ:St) (ρ:List PV) (F:Nat->List Addr) (D:Zir),Ag K B H0 H σ Γ ρ F []->DnS K B EX Y H0 H F D (g ρ)->t D σ H
section
variable {K:W.Frag}{B:Addr->Prop}{EX:PX->Hp->Prop}{H0 H H':Hp}{σ:St}{Γ Γ' Γ1 Γ2 Γ3:List Md}{ρ:List PV}{F F':Nat->List Addr}{R:List Addr}{k:Kd}{x:PV}{v:V}{te:TE}{f fc:List PV->Rr PV}
 {t u:TS}{g g':List PV->RS}{Y:Tys}{D:Zir}
theorem DnS.shift {H1:Hp}{F1:Nat->List Addr}{r:RS} (fr:Frm H F H1 F1) (h:DnS K B EX Y H0 H F D r):DnS K B EX Y H0 H1 F1 D r:=by
 cases r with
 |next ρ=>exact fun σ' H' F' fr' A=>h σ' H' F' (fr.trans fr') A
 |brk ρ=>exact fun σ' H' F' fr' A=>h σ' H' F' (fr.trans fr') A
 |cont ρ=>exact fun σ' H' F' fr' A=>h σ' H' F' (fr.trans fr') A
 |ret x=>exact h
 |exc e=>exact h
 |bad=>exact h
theorem DnS.thenS {α:Type}{r:Rr α}{f:α->RS} (h:DnS K B EX Y H0 H F D (r.thenS f)):Dn r (fun a=>DnS K B EX Y H0 H F D (f a)) (fun e=>∀H',ZL H0 H'->EX e H'):=by
 cases r with
 |ok a=>exact h
 |exc e=>exact h
 |bad=>exact h
theorem Z8:DS K EX Γ ⟨Γ,Γ1,Γ2,k⟩ ZnP (fun ρ=>.next ρ):=fun B H0 H σ ρ F D A d=>d σ H F Frm.refl A
theorem Zp {Γm:List Md} (h1:DS K EX Γ ⟨Γm,Y.b,Y.c,Y.r⟩ t g) (h2:DS K EX Γm Y u g'):DS K EX Γ Y (Zp6 t u) (fun ρ=>(g ρ).seq g'):=fun B H0 H σ ρ F D A d=>by
 refine h1 B H0 H σ ρ F _ A ?_
 dsimp only at d
 cases e:g ρ with
 |next ρ1 =>
  rw[e] at d
  exact fun σ' H' F' fr A'=>h2 B H0 H' σ' ρ1 F' D A' (DnS.shift fr d)
 |brk ρ1=>rw[e] at d;exact d
 |cont ρ1=>rw[e] at d;exact d
 |ret x=>rw[e] at d;exact d
 |exc q=>rw[e] at d;exact d
 |bad=>rw[e] at d;exact d
noncomputable def mle (m m':Md):Bool:=m==m' || m'==.U || (m'==.S&&m != .U) || (m'==.O&&m==.P)
noncomputable def Zes:List Md->List Md->Bool
 |[],[]=>true
 |m::ms,m'::ms'=>mle m m'&&Zes ms ms'
 |_,_=>false
theorem ZgY:∀{Γ Γ':List Md},Zes Γ Γ'=true->Γ.length=Γ'.length/\∀i,mle (Γ.getD i .U) (Γ'.getD i .U)=true
 |[],[],_=>⟨rfl,fun i=>by simp[mle]⟩
 |m::ms,m'::ms',h=>by
  simp only[Zes,Bool.and_eq_true] at h
  obtain⟨h1,h2⟩:=ZgY h.2
  refine⟨by simp[h1],fun i=>?_⟩
  cases i with
  |zero=>simpa using h.1
  |succ i=>simpa using h2 i
 |[],_::_,h=>by cases h
 |_::_,[],h=>by cases h
theorem Ag.weak (A:Ag K B H0 H σ Γ ρ F R) (h:Zes Γ Γ'=true):∃F',(∀i,∀a∈F' i,a∈F i)/\Ag K B H0 H σ Γ' ρ F' R:=by
 obtain⟨hl,hm⟩:=ZgY h
 let F':Nat->List Addr:=fun i=>if Γ.getD i .U=Γ'.getD i .U then F i else []
 have hF:∀i,∀a∈F' i,a∈F i:=fun i a ha=>by
  by_cases q:Γ.getD i .U=Γ'.getD i .U
  ·simp only[F',if_pos q] at ha;exact ha
  ·simp only[F',if_neg q] at ha;simp at ha
 have up:∀{a},NO B F R a->NO B F' R a:=fun {a} s=>⟨s.1,s.2.1,fun j z=>s.2.2 j (hF j a z)⟩
 refine⟨F',hF,A.same,A.own,fun i a ha=>A.young i a (hF i a ha),A.youngR,fun i a ha=>A.live i a (hF i a ha),A.liveR,fun i j hij a ha z=>A.disj i j hij a (hF i a ha) (hF j a z),fun i a ha=>A.disjR i a (hF i a ha),by rw[A.lenS,hl],by rw[A.lenR,hl],fun i=>?_⟩
 have sl:=A.slot i
 have hmi:=hm i
 by_cases q:Γ.getD i .U=Γ'.getD i .U
 ·simp only[F',if_pos q]
  rw[<- q]
  exact sl.mono (fun a vs s r=>⟨r,up s⟩) (fun a vs r=>r) fun a ha vs r=>r
 ·simp only[F',if_neg q]
  simp only[mle,Bool.or_eq_true,beq_iff_eq,Bool.and_eq_true,bne_iff_ne] at hmi
  rcases hmi with ((z|z)|z)|z
  ·exact absurd z q
  ·rw[z];exact rfl
  rotate_left
  ·rw[z.1]
   rw[z.2] at sl
   obtain⟨e,v,h1,h2,h3⟩:=sl
   exact⟨v,h1,h3.tree h2⟩
  ·rw[z.1]
   have own:∀a∈F i,NO B F' R a:=fun a ha=>⟨A.own a (A.young i a ha),A.disjR i a ha,fun j w=>by
    by_cases hj:j=i
    ·subst hj;simp only[F',if_neg q] at w;simp at w
    ·exact A.disj j i hj a (hF j a w) ha⟩
   cases hmm:Γ.getD i .U with
   |U=>exact absurd hmm z.2
   |P=>rw[hmm] at sl;obtain⟨e,v,h1,h2,h3⟩:=sl;exact⟨rfl,v,h1,h3.flatS h2⟩
   |S=>rw[hmm] at sl;obtain⟨e,v,h1,h2⟩:=sl;exact⟨rfl,v,h1,Rep.mono (fun a vs s r=>⟨r,up s⟩) (fun a vs r=>r) h2⟩
   |T =>
    rw[hmm] at sl
    obtain⟨a,vs,xs,h1,h2,h3,h4,h5⟩:=sl
    refine⟨rfl,_,h1, ?_⟩
    rw[h2]
    exact⟨a,vs,rfl,.inl ⟨.inl h3,own a (by rw[h5];simp)⟩,Reps.mono (fun a vs s r=>⟨r,up s⟩) (fun a vs r=>r) h4⟩
   |O=>rw[hmm] at sl;obtain⟨v,h1,h2⟩:=sl;exact⟨rfl,v,h1,h2.rep own⟩
theorem DS.out {Y':Tys} (h:DS K EX Γ Y t g) (hn:Zes Y.n Y'.n=true) (hb:Zes Y.b Y'.b=true) (hc:Zes Y.c Y'.c=true) (hr:Y.r=Y'.r):DS K EX Γ Y' t g:=fun B H0 H σ ρ F D A d=>by
 refine h B H0 H σ ρ F D A ?_
 cases e:g ρ with
 |next ρ1=>rw[e] at d;exact fun σ' H' F' fr A'=>let ⟨F2,f2,A2⟩:=A'.weak hn;d σ' H' F2 (fr.trans (Frm.of (ZL.refl _) f2)) A2
 |brk ρ1=>rw[e] at d;exact fun σ' H' F' fr A'=>let ⟨F2,f2,A2⟩:=A'.weak hb;d σ' H' F2 (fr.trans (Frm.of (ZL.refl _) f2)) A2
 |cont ρ1=>rw[e] at d;exact fun σ' H' F' fr A'=>let ⟨F2,f2,A2⟩:=A'.weak hc;d σ' H' F2 (fr.trans (Frm.of (ZL.refl _) f2)) A2
 |ret x=>rw[e] at d;exact fun v H' s r=>d v H' s (hr▸r)
 |exc q=>rw[e] at d;exact d
 |bad=>rw[e] at d;exact d
theorem Zdl {H1:Hp}{F1:Nat->List Addr}{i:Nat}{G:List Addr} (s1:ZL H H1) (f1:∀i,∀a∈F1 i,a∈F i) (o:∀a∈G,H a=none\/∃i,a∈F i):Frm H F H1 (ZbL F1 i G):=fun a u h n=>by
 refine⟨s1 a u h,fun j z=>?_⟩
 by_cases q:j=i
 ·subst q
  rw[Z4] at z
  rcases o a z with w|⟨l,w⟩
  ·rw[h] at w;cases w
  ·exact n l w
 ·rw[ZJ q] at z;exact n j (f1 j a z)
theorem Jt {i:Nat} (he:DE K EX Γ Γ' .P te f) (hi:i<Γ'.length):DS K EX Γ ⟨Γ'.set i .P,Γ1,Γ2,k⟩ (Zn4 te (Zd9 i)) (fun ρ=>(f ρ).thenS fun x=>.next (ρ.set i x)):=fun B H0 H σ ρ F D A d=>by
 refine he B H0 H σ ρ F [] _ A (d.thenS.imp (fun x _ d v H1 s1 r1=>?_) fun e q=>q)
 obtain⟨F1,f1,h1,h2,A1⟩:=r1
 exact d _ H1 _ (Zdl (G:=[]) s1 f1 (by simp)) (Ag.put (G:=[]) (R:=[]) A1 hi (by simp) ⟨rfl,v,rfl,h1,h2⟩)
theorem JA {i:Nat} (he:DE K EX Γ Γ' .F te f) (hi:i<Γ'.length):DS K EX Γ ⟨Γ'.set i .O,Γ1,Γ2,k⟩ (Zn4 te (Zd9 i)) (fun ρ=>(f ρ).thenS fun x=>.next (ρ.set i x)):=fun B H0 H σ ρ F D A d=>by
 refine he B H0 H σ ρ F [] _ A (d.thenS.imp (fun x _ d v H1 s1 r1=>?_) fun e q=>q)
 obtain⟨F1,f1,G,h1,h2,A1⟩:=r1
 exact d _ H1 _ (Zdl s1 f1 fun a ha=>(h2 a ha).2) (Ag.put (R:=[]) A1 hi (by simp) ⟨v,rfl,h1⟩)
theorem Znf {i:Nat} (he:DE K EX Γ Γ' .T te f) (hi:i<Γ'.length):DS K EX Γ ⟨Γ'.set i .T,Γ1,Γ2,k⟩ (Zn4 te (Zd9 i)) (fun ρ=>(f ρ).thenS fun x=>.next (ρ.set i x)):=fun B H0 H σ ρ F D A d=>by
 refine he B H0 H σ ρ F [] _ A (d.thenS.imp (fun x _ d v H1 s1 r1=>?_) fun e q=>q)
 obtain⟨F1,f1,a,vs,xs,rfl,rfl,h1,h2,h3,h4,A1⟩:=r1
 refine d _ H1 _ (Zdl (G:=[a]) s1 f1 fun b hb=>by rw[Z1r.mp hb];exact h4) (Ag.put (G:=[a]) (R:=[]) A1 hi (by simp) ⟨a,vs,xs,rfl,rfl,h1, ?_,rfl⟩)
 refine Reps.mono (fun b us s r=>⟨r,s.1,by simp,fun j z=>?_⟩) (fun b us r=>r) h2
 by_cases q:j=i
 ·subst q;rw[Z4] at z;exact s.2.1 z
 ·rw[ZJ q] at z;exact s.2.2 j z
theorem ZY (he:DE K EX Γ Γ' .A te f):DS K EX Γ ⟨Γ',Γ1,Γ2,k⟩ (Zk6 te) (fun ρ=>(f ρ).thenS fun _=>.next ρ):=fun B H0 H σ ρ F D A d=>by
 refine he B H0 H σ ρ F [] _ A (d.thenS.imp (fun x _ d v H1 s1 r1=>?_) fun e q=>q)
 obtain⟨F1,f1,h1,A1⟩:=r1
 exact d σ H1 F1 (Frm.of s1 f1) A1
theorem ZC (he:DE K EX Γ Γ' .P te f):DS K EX Γ ⟨Γ3,Γ1,Γ2,.P⟩ (Zpp te) (fun ρ=>(f ρ).thenS fun x=>.ret x):=fun B H0 H σ ρ F D A d=>by
 refine he B H0 H σ ρ F [] _ A (d.thenS.imp (fun x _ d v H1 s1 r1=>?_) fun e q=>q)
 obtain⟨F1,f1,h1,h2,A1⟩:=r1
 exact d v H1 A1.same ⟨h1,h2⟩
theorem Jy (he:DE K EX Γ Γ' .F te f):DS K EX Γ ⟨Γ3,Γ1,Γ2,.F⟩ (Zpp te) (fun ρ=>(f ρ).thenS fun x=>.ret x):=fun B H0 H σ ρ F D A d=>by
 refine he B H0 H σ ρ F [] _ A (d.thenS.imp (fun x _ d v H1 s1 r1=>?_) fun e q=>q)
 obtain⟨F1,f1,G,h1,h2,A1⟩:=r1
 exact d v H1 A1.same ⟨G,h1,fun a ha=>A1.youngR a (by simpa using ha)⟩
theorem Zb1 (he:DE K EX Γ Γ' .Z te f):DS K EX Γ ⟨Γ3,Γ1,Γ2,.Z⟩ (Zpp te) (fun ρ=>(f ρ).thenS fun x=>.ret x):=fun B H0 H σ ρ F D A d=>by
 refine he B H0 H σ ρ F [] _ A (d.thenS.imp (fun x _ d v H1 s1 r1=>?_) fun e q=>q)
 obtain⟨F1,f1,h1,A1⟩:=r1
 exact d v H1 A1.same (Rep.mono (fun a us s r=>⟨r,.inl s.1⟩) (fun a us r=>r) h1)
theorem Jp {c:TT}{fc:List PV->Rr Bool} (hc:DT K EX Γ Γ' c fc) (h1:DS K EX Γ' Y t g) (h2:DS K EX Γ' Y u g'):DS K EX Γ Y (Zqt c t u) (fun ρ=>(fc ρ).thenS fun b=>if b=true then g ρ else g' ρ):=fun B H0 H σ ρ F D A d=>by
 refine hc B H0 H σ ρ F [] _ A (d.thenS.imp (fun b _ d H1 F1 s1 f1 A1=>?_) fun e q=>q)
 cases b with
 |true=>exact h1 B H0 H1 σ ρ F1 D A1 (DnS.shift (Frm.of s1 f1) d)
 |false=>exact h2 B H0 H1 σ ρ F1 D A1 (DnS.shift (Frm.of s1 f1) d)
theorem JK:DS K EX Γ Y ZlL (fun _=>.bad):=fun B H0 H σ ρ F D A d=>d
theorem ZjM {i:Nat}{h:Int->Int->Int} (hm:Γ[i]?=some .P) (he:DE K EX Γ Γ .A te f):DS K EX Γ ⟨Γ,Γ1,Γ2,k⟩ (Zqv i te (ipI h)) (fun ρ=>(f ρ).thenS fun y=>(oI (fun _ _=>true) (fun i j=>.int (h i j)) (gv i ρ) y).thenS fun z=>.next (ρ.set i z)):=fun B H0 H σ ρ F D A d=>by
 obtain⟨v,h1,h2,h3⟩:=A.getP hm
 refine⟨v,h1,he B H0 H σ ρ F [] _ A (d.thenS.imp (fun y _ d w H1 s1 r1=>?_) fun e q=>q)⟩
 obtain⟨F1,f1,p1,A1⟩:=r1
 have h3':=h3.same s1
 change Rep K H1 _ (gv i ρ) v at h3'
 generalize gv i ρ=gx at h3' d
 cases gx<;>cases y<;>first|(exact d.elim;done)|skip
 rename_i p q _
 cases h3';cases p1
 refine⟨p,q,rfl,rfl,d _ H1 _ (Zdl (i:=i) (G:=[]) s1 f1 (by simp)) ?_⟩
 have:=Ag.put (i:=i) (m:=.P) (x:=.int (h p q)) (v:=.int (h p q)) (G:=[]) (R:=[]) A1 (A.lt hm) (by simp) ⟨rfl,_,rfl,rfl,rfl⟩
 have e:Γ.set i .P=Γ:=by
  apply List.ext_getElem?
  intro j
  by_cases q:i=j
  ·subst q;rw[Z0M (A.lt hm),hm]
  ·rw[Z0S q]
 rw[e] at this
 exact this
variable {ti:TE}{fi:List PV->Rr PV}
 {t u:TS}{g g':List PV->RS}{Y:Tys}{D:Zir}
theorem Ag.chgB {i:Nat}{m:Md}{a:Addr}{o':HO} (ho:Lvo o') {x':PV}{G G':List Addr} (A:Ag K B H0 H σ Γ ρ F (G++R)) (hm:Γ[i]?=some m) (ha:a∈F i) (hG:∀b∈G',b∈F i\/b∈G) (hGR:∀b∈G,b ∉ R)
  (hs:ZbG K (upd H a o') (NO B (ZbL F i G') R) m x' σ[i]? G'):Ag K B H0 (upd H a o') σ Γ (ρ.set i x') (ZbL F i G') R:=by
 obtain⟨us,hH⟩:=A.live i a ha
 have hi:=A.lt hm
 have liveU:∀b,(∃us:LvO,H b=some us.1)->∃us:LvO,upd H a o' b=some us.1:=fun b ⟨us,q⟩=>by
  by_cases e:b=a
  ·exact⟨⟨o',ho⟩,by rw[e,ZD]⟩
  ·exact⟨us,by rw[Zu e];exact q⟩
 refine⟨A.same.upd (A.young i a ha),A.own,fun j b hb=>?_,fun b hb=>A.youngR b (Z0A _ hb),fun j b hb=>liveU b ?_,fun b hb=>liveU b (A.liveR b (Z0A _ hb)),fun j l hjl b hb z=>?_,fun j b hb z=>?_,A.lenS,by simp[A.lenR],fun j=>?_⟩
 ·by_cases q:j=i
  ·subst q;rw[Z4] at hb
   rcases hG b hb with z|z
   ·exact A.young j b z
   ·exact A.youngR b (Z0C _ z)
  ·rw[ZJ q] at hb;exact A.young j b hb
 ·by_cases q:j=i
  ·subst q;rw[Z4] at hb
   rcases hG b hb with z|z
   ·exact A.live j b z
   ·exact A.liveR b (Z0C _ z)
  ·rw[ZJ q] at hb;exact A.live j b hb
 ·by_cases q:j=i
  ·subst q
   rw[Z4] at hb
   rw[ZJ (Ne.symm hjl)] at z
   rcases hG b hb with w|w
   ·exact A.disj j l hjl b w z
   ·exact A.disjR l b z (Z0C _ w)
  ·rw[ZJ q] at hb
   by_cases q':l=i
   ·subst q'
    rw[Z4] at z
    rcases hG b z with w|w
    ·exact A.disj j l hjl b hb w
    ·exact A.disjR j b hb (Z0C _ w)
   ·rw[ZJ q'] at z;exact A.disj j l hjl b hb z
 ·by_cases q:j=i
  ·subst q;rw[Z4] at hb
   rcases hG b hb with w|w
   ·exact A.disjR j b w (Z0A _ z)
   ·exact hGR b w z
  ·rw[ZJ q] at hb;exact A.disjR j b hb (Z0A _ z)
 ·by_cases q:j=i
  ·subst q
   rw[Z4,Z09,Z09,hm,Z0M (by rw[A.lenR];exact hi)]
   exact hs
  ·rw[ZJ q,Z09 (l:=ρ.set _ _),Z0S (Ne.symm q),<- Z09]
   refine(A.slot j).mono (fun b us s r=>?_) (fun b us r=>Im.putL hH r) fun b hb us r=>?_
   ·have hne:b≠a:=fun z=>s.2.2 i (z▸ha)
    refine⟨?_,s.1,fun z=>s.2.1 (Z0A _ z),fun l z=>?_⟩
    ·rcases r with r|⟨o,r⟩
     ·exact .inl (by rw[Zu hne];exact r)
     ·exact .inr ⟨o,by rw[Zu hne];exact r⟩
    ·by_cases q':l=i
     ·subst q';rw[Z4] at z
      rcases hG b z with w|w
      ·exact s.2.2 l w
      ·exact s.2.1 (Z0C _ w)
     ·rw[ZJ q'] at z;exact s.2.2 l z
   ·have hne:b≠a:=fun z=>A.disj j i q b hb (z▸ha)
    rw[Zu hne];exact r
theorem Ag.chg {i:Nat}{m:Md}{a:Addr}{vs':List V}{x':PV}{G G':List Addr} (A:Ag K B H0 H σ Γ ρ F (G++R)) (hm:Γ[i]?=some m) (ha:a∈F i) (hG:∀b∈G',b∈F i\/b∈G) (hGR:∀b∈G,b ∉ R)
  (hs:ZbG K (upd H a (.lst vs')) (NO B (ZbL F i G') R) m x' σ[i]? G'):Ag K B H0 (upd H a (.lst vs')) σ Γ (ρ.set i x') (ZbL F i G') R:=Ag.chgB (o':=.lst vs') trivial A hm ha hG hGR hs
theorem Zev {H1:Hp}{F1:Nat->List Addr}{i:Nat}{a:Addr}{o:HO}{G':List Addr} (s1:ZL H H1) (f1:∀i,∀b∈F1 i,b∈F i) (ha:a∈F1 i) (hG:∀b∈G',H b=none\/∃j,b∈F j):Frm H F (upd H1 a o) (ZbL F1 i G'):=fun b u h n=>by
 have hne:b≠a:=fun z=>n i (f1 i b (z▸ha))
 refine⟨by rw[Zu hne];exact s1 b u h,fun j z=>?_⟩
 by_cases q:j=i
 ·subst q;rw[Z4] at z
  rcases hG b z with w|⟨l,w⟩
  ·rw[h] at w;cases w
  ·exact n l w
 ·rw[ZJ q] at z;exact n j (f1 j b z)
theorem Trees.setP:∀{xs:List PV}{vs:List V}{G:List Addr}{j:Nat}{y:PV}{w:V},Trees K H xs vs G->JY K H y w []->∃G',(∀a∈G',a∈G)/\Trees K H (xs.set j y) (vs.set j w) G'
 |[],_,_,_,_,_,h,_=>⟨[],by simp,by rw[h.1];exact⟨rfl,rfl⟩⟩
 |x::xs,_,_,0,y,w,h,h'=>by
  obtain⟨v,r,G1,G2,rfl,h1,h2,h3,rfl⟩:=h
  exact⟨G2,fun a ha=>by simp[ha],w,r,[],G2,rfl,h',h2,by simp,rfl⟩
 |x::xs,_,_,j+1,y,w,h,h'=>by
  obtain⟨v,r,G1,G2,rfl,h1,h2,h3,rfl⟩:=h
  obtain⟨G',h4,h5⟩:=Trees.setP (j:=j) h2 h'
  refine⟨G1++G',fun a ha=>?_,v,r.set j w,G1,G',rfl,h1,h5,fun a ha z=>h3 a ha (h4 a z),rfl⟩
  rcases Z0F.mp ha with z|z
  ·simp[z]
  ·simp[h4 a z]
noncomputable def pSet (x i y:PV):Rr PV:=match x,i with
 |.lst xs,.int j=>match ixN xs.length j with
  |some n=>.ok (.lst (xs.set n y))
  |none=>.bad
 |_,_=>.bad
theorem Dn.pSet {x i y:PV}{ok:PV->Prop}{ex:PX->Prop} (d:Dn (pSet x i y) ok ex):∃xs j n,x=.lst xs/\i=.int j/\ixN xs.length j=some n/\ok (.lst (xs.set n y)):=by
 unfold L2.pSet at d
 split at d
 ·rename_i xs j
  cases e:ixN xs.length j with
  |none=>rw[e] at d;exact d.elim
  |some n=>rw[e] at d;exact⟨xs,j,n,rfl,rfl,e,d⟩
 ·exact d.elim
theorem Zfp {i:Nat} (hm:Γ2[i]?=some .O) (he:DE K EX Γ Γ2 .P te f) (hi:DE K EX Γ2 Γ2 .A ti fi) :
  DS K EX Γ ⟨Γ2,Γ1,Γ3,k⟩ (Zn4 te (Zq9 (ZfE i) ti Zm4)) (fun ρ=>(f ρ).thenS fun y=>(fi ρ).thenS fun j=>(pSet (gv i ρ) j y).thenS fun z=>.next (ρ.set i z)):=fun B H0 H σ ρ F D A d=>by
 refine he B H0 H σ ρ F [] _ A (d.thenS.imp (fun y _ d w H1 s1 r1=>?_) fun e q=>q)
 obtain⟨F1,f1,y1,y2,A1⟩:=r1
 obtain⟨v,h1,h2⟩:=A1.getO hm
 refine⟨v,h1,hi B H0 H1 σ ρ F1 [] _ A1 (d.thenS.imp (fun j _ d jv H2 s2 r2=>?_) fun e q=>q)⟩
 obtain⟨F2,f2,p2,A2⟩:=r2
 obtain⟨xs,jj,n,e1,rfl,e2,d⟩:=Dn.pSet d.thenS
 obtain⟨v',h1',h2'⟩:=A2.getO hm
 rw[h1] at h1';cases h1'
 rw[show ρ.getD i .non=.lst xs from e1] at h2'
 obtain⟨a,vs,G,rfl,hH,ht,hn,hF⟩:=h2'
 cases p2
 refine⟨a,vs,jj,n,rfl,rfl,hH,by rw[ht.length];exact e2, ?_⟩
 obtain⟨G',g1,g2⟩:=Trees.setP (j:=n) ht ((y2.same s2).tree y1)
 have haF:a∈F2 i:=by rw[hF];simp
 have hsub:∀b∈a::G',b∈F2 i:=fun b hb=>by
  rw[hF]
  rcases Z0G.mp hb with rfl|hb
  ·simp
  ·simp[g1 b hb]
 refine d σ _ (ZbL F2 i (a::G')) (Zev (s1.trans s2) (fun j b hb=>f1 j b (f2 j b hb)) haF fun b hb=>.inr ⟨i,f1 i b (f2 i b (hsub b hb))⟩) (Ag.chg (G:=[]) A2 hm haF (fun b hb=>.inl (hsub b hb)) (by simp) ?_)
 exact⟨_,h1,a,_,G',rfl,ZD,g2.put hH (fun z=>hn (g1 a z)),fun z=>hn (g1 a z),rfl⟩
noncomputable def pApp (x y:PV):Rr PV:=match x with
 |.lst xs=>if xs.length<1000000 then .ok (.lst (xs++[y])) else .bad
 |_=>.bad
theorem Dn.pApp {x y:PV}{ok:PV->Prop}{ex:PX->Prop} (d:Dn (pApp x y) ok ex):∃xs,x=.lst xs/\xs.length<1000000/\ok (.lst (xs++[y])):=by
 unfold L2.pApp at d
 split at d
 ·rename_i xs
  by_cases h:xs.length<1000000
  ·rw[if_pos h] at d;exact⟨xs,rfl,h,d⟩
  ·rw[if_neg h] at d;exact d.elim
 ·exact d.elim
theorem Dn.asL {x:PV}{ok:List PV->Prop}{ex:PX->Prop} (d:Dn (asL x) ok ex):∃xs,x=.lst xs/\ok xs:=by
 cases x with
 |lst xs=>exact⟨xs,rfl,d⟩
 |_=>exact d.elim
theorem Zng {i:Nat} (hm:Γ[i]?=some .T) (hm2:Γ2[i]?=some .T) (he:DE K EX Γ Γ2 .Z te f) :
  DS K EX Γ ⟨Γ2,Γ1,Γ3,k⟩ (Zk6 (tBM K "list" ZiN (ZfE i) (ZcK te Zko))) (fun ρ=>(asL (gv i ρ)).thenS fun xs=>(f ρ).thenS fun y=>(pApp (.lst xs) y).thenS fun z=>.next (ρ.set i z)):=fun B H0 H σ ρ F D A d=>by
 obtain⟨a,vs,xs,h1,e1,hH,hr,hF⟩:=A.getT hm
 refine⟨_,h1, ?_⟩
 obtain⟨xs',e1',d⟩:=Dn.asL d.thenS
 have:xs'=xs:=by have:=e1'.symm.trans (show gv i ρ=.lst xs from e1);cases this;rfl
 subst this
 refine⟨.inl ⟨rfl,_,SqL.of hH⟩,he B H0 H σ ρ F [] _ A (d.thenS.imp (fun y _ d w H2 s2 r2=>?_) fun e q=>q)⟩
 obtain⟨F2,f2,y1,A2⟩:=r2
 obtain⟨xs'',e2,hlen,d⟩:=Dn.pApp d.thenS
 cases e2
 obtain⟨a',vs',xs'',h1',e1'',hH',hr',hF'⟩:=A2.getT hm2
 rw[h1] at h1';cases h1'
 have:xs''=xs':=by have:=e1'.symm.trans (show gv i ρ=.lst xs'' from e1'');cases this;rfl
 subst this
 refine⟨a,vs',w,rfl,rfl,hH',by rw[hr'.length];exact Z0E hlen (by decide), ?_⟩
 have haF:a∈F2 i:=by rw[hF'];simp
 refine d σ _ (ZbL F2 i [a]) (Zev s2 f2 haF fun b hb=>.inr ⟨i,f2 i b (by rw[hF'];exact hb)⟩) (Ag.chg (G:=[]) A2 hm2 haF (fun b hb=>.inl (by rw[hF'];exact hb)) (by simp) ?_)
 have same:ZbL F2 i [a]=F2:=by
  funext j
  by_cases q:j=i
  ·subst q;rw[Z4,hF']
  ·rw[ZJ q]
 rw[same]
 exact⟨a,_,_,h1,rfl,ZD,(hr'.append (Reps.one y1)).put hH' (fun z=>z.2.2 i haF),rfl⟩
def DG (K:W.Frag) (EX:PX->Hp->Prop) (Γ Γ':List Md) (g:TG) (h:PV->List PV->Rr (List PV)):Prop:=
 ∀(B:Addr->Prop) (H0 H:Hp) (σ:St) (ρ:List PV) (F:Nat->List Addr) (v:V) (x:PV) (N:St->Hp->Prop),Ag K B H0 H σ Γ ρ F []->Rep K H (NO B F []) x v ->
  Dn (h x ρ) (fun ρ'=>∀σ' F',(∀i,∀a∈F' i,a∈F i)->Ag K B H0 H σ' Γ' ρ' F' []->N σ' H) (fun e=>∀H',ZL H0 H'->EX e H')->g v σ H N
def DGs (K:W.Frag) (EX:PX->Hp->Prop) (Γ Γ':List Md) (g:TGs) (h:List PV->List PV->Rr (List PV)):Prop:=
 ∀(B:Addr->Prop) (H0 H:Hp) (σ:St) (ρ:List PV) (F:Nat->List Addr) (vs:List V) (xs:List PV) (N:St->Hp->Prop),Ag K B H0 H σ Γ ρ F []->Reps K H (NO B F []) xs vs ->
  Dn (h xs ρ) (fun ρ'=>∀σ' F',(∀i,∀a∈F' i,a∈F i)->Ag K B H0 H σ' Γ' ρ' F' []->N σ' H) (fun e=>∀H',ZL H0 H'->EX e H')->g vs σ H N
theorem Znh {i:Nat} (hi:i<Γ.length):DG K EX Γ (Γ.set i .P) (Zd9 i) (fun x ρ=>(grd x).bind fun x=>.ok (ρ.set i x)):=fun B H0 H σ ρ F v x N A r d=>by
 unfold grd at d;dsimp only at d
 by_cases h:x.flat=true
 ·rw[if_pos h] at d
  exact d _ (ZbL F i []) Zep (Ag.put (G:=[]) (R:=[]) A hi (by simp) ⟨rfl,v,rfl,h,r.any⟩)
 ·rw[if_neg h] at d;exact d.elim
noncomputable def Zq7 (xs ρ:List PV):Rr (List PV):=match xs with
 |[]=>.ok ρ
 |_=>.bad
theorem ZjO:DGs K EX Γ Γ ZpX Zq7:=fun B H0 H σ ρ F vs xs N A r d=>by
 cases xs with
 |nil=>exact⟨r,d σ F (fun _ _ h=>h) A⟩
 |cons x xs=>exact d.elim
noncomputable def hdR (h:PV->List PV->Rr (List PV)) (hs:List PV->List PV->Rr (List PV)) (xs:List PV) (ρ:List PV):Rr (List PV):=match xs with
 |x::r=>(h x ρ).bind fun ρ'=>hs r ρ'
 |[]=>.bad
theorem ZcC {g:TG}{gs:TGs}{h:PV->List PV->Rr (List PV)}{hs:List PV->List PV->Rr (List PV)} (h1:DG K EX Γ Γ1 g h) (h2:DGs K EX Γ1 Γ2 gs hs):DGs K EX Γ Γ2 (Zlv g gs) (hdR h hs):=fun B H0 H σ ρ F vs xs N A r d=>by
 cases xs with
 |nil=>exact d.elim
 |cons x xs =>
  obtain⟨v,r',rfl,r1,r2⟩:=r
  refine⟨v,r',rfl,h1 B H0 H σ ρ F v x _ A r1 ((show Dn ((h x ρ).bind fun ρ'=>hs xs ρ') _ _ from d).bind.imp (fun ρ' _ d σ' F' f' A'=>?_) fun e q=>q)⟩
  refine h2 B H0 H σ' ρ' F' r' xs _ A' (Reps.mono (fun a us s r=>⟨r,s.1,s.2.1,fun j z=>s.2.2 j (f' j a z)⟩) (fun a us r=>r) r2) (d.imp (fun ρ2 _ d σ2 F2 f2 A2=>d σ2 F2 (fun j a ha=>f' j a (f2 j a ha)) A2) fun e q=>q)
noncomputable def asT (n:Nat) (x:PV):Rr (List PV):=match x with
 |.tup xs=>if xs.length=n then .ok xs else .bad
 |_=>.bad
theorem Dn.asT {n:Nat}{x:PV}{ok:List PV->Prop}{ex:PX->Prop} (d:Dn (asT n x) ok ex):∃xs,x=.tup xs/\xs.length=n/\ok xs:=by
 cases x with
 |tup xs =>
  unfold L2.asT at d
  by_cases h:xs.length=n
  ·simp only[if_pos h] at d;exact⟨xs,rfl,h,d⟩
  ·simp only[if_neg h] at d;exact d.elim
 |_=>exact d.elim
theorem Zmm {n:Nat}{gs:TGs}{hs:List PV->List PV->Rr (List PV)} (h2:DGs K EX Γ Γ2 gs hs):DG K EX Γ Γ2 (ZpW K n gs) (fun x ρ=>(asT n x).bind fun xs=>hs xs ρ):=fun B H0 H σ ρ F v x N A r d=>by
 obtain⟨xs,rfl,hl,d⟩:=Dn.asT d.bind
 obtain⟨a,vs,rfl,hn,hr⟩:=r
 exact⟨a,vs,rfl,hn.sqT,by rw[hr.length];exact hl,h2 B H0 H σ ρ F vs xs N A hr d⟩
end
noncomputable def RS.turn:RS->(List PV->RS)->RS
 |.next ρ,f=>f ρ
 |.cont ρ,f=>f ρ
 |.brk ρ,_=>.next ρ
 |r,_=>r
noncomputable def Zea (b:PV->List PV->RS):List PV->List PV->RS
 |[],ρ=>.next ρ
 |x::xs,ρ=>(b x ρ).turn (Zea b xs)
noncomputable def Uh (c:List PV->Rr Bool) (b:List PV->RS):Nat->List PV->Option RS
 |0,_=>none
 |n+1,ρ=>match c ρ with
  |.ok true=>match b ρ with
   |.next ρ'=>Uh c b n ρ'
   |.cont ρ'=>Uh c b n ρ'
   |.brk ρ'=>some (.next ρ')
   |r=>some r
  |.ok false=>some (.next ρ)
  |.exc e=>some (.exc e)
  |.bad=>some .bad
open Classical in
noncomputable def Zbt (c:List PV->Rr Bool) (b:List PV->RS) (ρ:List PV):RS:=if h:∃n r,Uh c b n ρ=some r then h.choose_spec.choose else .bad
theorem ZbA {c:List PV->Rr Bool}{b:List PV->RS}:∀{n m:Nat}{ρ:List PV}{r:RS},n<=m->Uh c b n ρ=some r->Uh c b m ρ=some r
 |0,_,_,_,_,h=>by cases h
 |n+1,0,_,_,hl,_=>by omega
 |n+1,m+1,ρ,r,hl,h=>by
  unfold Uh at h ⊢
  cases hc:c ρ with
  |ok b' =>
   cases b' with
   |true =>
    rw[hc] at h
    cases hb:b ρ with
    |next ρ'=>rw[hb] at h;exact ZbA (by omega) h
    |cont ρ'=>rw[hb] at h;exact ZbA (by omega) h
    |brk ρ'=>rw[hb] at h;exact h
    |ret x=>rw[hb] at h;exact h
    |exc e=>rw[hb] at h;exact h
    |bad=>rw[hb] at h;exact h
   |false=>rw[hc] at h;exact h
  |exc e=>rw[hc] at h;exact h
  |bad=>rw[hc] at h;exact h
theorem Zj9 {c:List PV->Rr Bool}{b:List PV->RS}{n m:Nat}{ρ:List PV}{r r':RS} (h:Uh c b n ρ=some r) (h':Uh c b m ρ=some r'):r=r':=by
 rcases Nat.le_total n m with q|q
 ·have:=ZbA q h;rw[h'] at this;exact(Option.some.inj this).symm
 ·have:=ZbA q h';rw[h] at this;exact Option.some.inj this
theorem ZbQ {c:List PV->Rr Bool}{b:List PV->RS}{n:Nat}{ρ:List PV}{r:RS} (h:Uh c b n ρ=some r):Zbt c b ρ=r:=by
 unfold Zbt
 have hx:∃n r,Uh c b n ρ=some r:=⟨n,r,h⟩
 rw[dif_pos hx]
 exact Zj9 hx.choose_spec.choose_spec h
theorem Ziv {c:List PV->Rr Bool}{b:List PV->RS} (I:List PV->Prop) (μ:List PV->Nat) {r:RS} (step:∀ρ,I ρ->(c ρ=.ok false/\r=.next ρ)\/(c ρ=.ok true/\((∃ρ',(b ρ=.next ρ'\/b ρ=.cont ρ')/\I ρ'/\μ ρ'<μ ρ)\/(∃ρ',b ρ=.brk ρ'/\r=.next ρ')\/(∃x,b ρ=.ret x/\r=.ret x))))
  :∀ρ,I ρ->Zbt c b ρ=r:=by
 have key:∀n ρ,I ρ->μ ρ<n->Uh c b n ρ=some r:=by
  intro n
  induction n with
  |zero=>intro ρ _ h;omega
  |succ n ih =>
   intro ρ hI hμ
   unfold Uh
   rcases step ρ hI with ⟨h1,h2⟩|⟨h1,⟨ρ',h2,h3,h4⟩|⟨ρ',h2,h3⟩|⟨x,h2,h3⟩⟩
   ·rw[h1,h2]
   ·rw[h1]
    rcases h2 with h2|h2<;>(rw[h2];exact ih ρ' h3 (by omega))
   ·rw[h1,h2,h3]
   ·rw[h1,h2,h3]
 exact fun ρ hI=>ZbQ (key (μ ρ+1) ρ hI (Z1u _))
section
variable {K:W.Frag}{B:Addr->Prop}{EX:PX->Hp->Prop}{H0 H H':Hp}{σ:St}{Γ Γ1 Γ2 Γ3 Γl Γt:List Md}{ρ:List PV}{F F':Nat->List Addr}{k:Kd}{x:PV}{v:V}{te ti:TE}{f fc fe:List PV->Rr PV}
 {t u:TS}{g g':List PV->RS}{Y:Tys}{D:Zir}
theorem Zfq {wi:TI}{gt:TG}{fi:List PV->Rr (List PV)}{h:PV->List PV->Rr (List PV)} (hi:DI K EX Γ Γ1 wi fi) (hw:Zes Γ1 Γl=true) (hg:DG K EX Γl Γt gt h) (hb:DS K EX Γt ⟨Γl,Γl,Γl,k⟩ t g) :
  DS K EX Γ ⟨Γl,Γ2,Γ3,k⟩ (Zqu wi gt t) (fun ρ=>(fi ρ).thenS fun xs=>Zea (fun x ρ=>(h x ρ).thenS g) xs ρ):=fun B H0 H σ ρ F D A d=>by
 refine hi B H0 H σ ρ F [] _ A (d.thenS.imp (fun xs _ d J H1 F1 s1 f1 A1 it=>?_) fun e q=>q)
 obtain⟨Fl,fl,Al⟩:=A1.weak hw
 have fr0:Frm H F H1 Fl:=Frm.of s1 fun j a ha=>f1 j a (fl j a ha)
 have fr1:Frm H1 F1 H1 Fl:=Frm.of (ZL.refl _) fl
 refine⟨fun i m σ' H'=>∃ρ' F',m=xs.length-i/\i<=xs.length/\Frm H1 F1 H' F'/\Ag K B H0 H' σ' Γl ρ' F' []/\DnS K B EX ⟨Γl,Γ2,Γ3,k⟩ H0 H' F' D (Zea (fun x ρ=>(h x ρ).thenS g) (xs.drop i) ρ'),
  ⟨xs.length,ρ,Fl,by simp,Z16 _,fr1,Al,by simpa using DnS.shift fr0 d⟩, ?_⟩
 rintro i m σ' H' ⟨ρ',F',rfl,hi',fr,A',dn⟩
 have itp:=it H' F' fr i
 cases hx:xs[i]? with
 |none =>
  refine .inl ⟨itp.2 hx, ?_⟩
  have hd:xs.drop i=[]:=Z15 (Z1b.mp hx)
  rw[hd] at dn
  exact dn σ' H' F' Frm.refl A'
 |some x =>
  have hlt:i<xs.length:=(Z0X.mp hx).1
  obtain⟨go,yl⟩:=itp.1 x hx
  have hdx:xs.drop i=x::xs.drop (i+1):=by
   rw[Z0Y hlt]
   rw[Z0B hlt] at hx;cases hx;rfl
  rw[hdx] at dn
  simp only[Zea] at dn
  refine .inr ⟨go,fun σ2 H2=>∃ρ2 F2,Frm H1 F1 H2 F2/\Ag K B H0 H2 σ2 Γl ρ2 F2 []/\DnS K B EX ⟨Γl,Γ2,Γ3,k⟩ H0 H2 F2 D (Zea (fun x ρ=>(h x ρ).thenS g) (xs.drop (i+1)) ρ2),
   fun σ2 H2 ⟨ρ2,F2,a1,a2,a3⟩=>⟨xs.length-(i+1),by omega,ρ2,F2,rfl,hlt,a1,a2,a3⟩,fun v H3 y=>?_⟩
  obtain⟨s3,rx⟩:=yl v H3 y
  have fr3:Frm H' F' H3 F':=Frm.of s3 fun _ _ h=>h
  refine hg B H0 H3 σ' ρ' F' v x _ (A'.grow s3) (Rep.mono (fun a us s r=>⟨r,s.1⟩) (fun a us r=>r) rx) ?_
  cases e:h x ρ' with
  |ok ρt =>
   rw[e] at dn
   refine fun σt Ft ft At=>hb B H0 H3 σt ρt Ft _ At ?_
   have frt:Frm H' F' H3 Ft:=Frm.of s3 ft
   simp only[Rr.thenS_ok] at dn
   cases e2:g ρt with
   |next ρ2=>rw[e2] at dn;exact fun σ2 H2 F2 fr2 A2=>⟨ρ2,F2,fr.trans (frt.trans fr2),A2,DnS.shift (frt.trans fr2) dn⟩
   |cont ρ2=>rw[e2] at dn;exact fun σ2 H2 F2 fr2 A2=>⟨ρ2,F2,fr.trans (frt.trans fr2),A2,DnS.shift (frt.trans fr2) dn⟩
   |brk ρ2=>rw[e2] at dn;exact fun σ2 H2 F2 fr2 A2=>dn σ2 H2 F2 (frt.trans fr2) A2
   |ret y=>rw[e2] at dn;exact dn
   |exc q=>rw[e2] at dn;exact dn
   |bad=>rw[e2] at dn;exact dn
  |exc q=>rw[e] at dn;exact dn
  |bad=>rw[e] at dn;exact dn
theorem Zew {c:TT}{fc:List PV->Rr Bool} (hc:DT K EX Γ Γ c fc) (hb:DS K EX Γ ⟨Γ,Γ,Γ,k⟩ t g):DS K EX Γ ⟨Γ,Γ2,Γ3,k⟩ (ZlJ c t) (fun ρ=>Zbt fc g ρ):=fun B H0 H σ ρ F D A d=>by
 dsimp only at d
 have ex:∃n,Uh fc g n ρ=some (Zbt fc g ρ):=by
  by_cases hx:∃n r,Uh fc g n ρ=some r
  ·obtain⟨n,r,e⟩:=hx
   exact⟨n,by rw[ZbQ e];exact e⟩
  ·unfold Zbt at d
   rw[dif_neg hx] at d
   exact d.elim
 obtain⟨n0,e0⟩:=ex
 generalize hr:Zbt fc g ρ=r at e0 d
 refine⟨fun m σ' H'=>∃ρ' F',Frm H F H' F'/\Ag K B H0 H' σ' Γ ρ' F' []/\Uh fc g m ρ'=some r,⟨n0,ρ,F,Frm.refl,A,e0⟩, ?_⟩
 rintro m σ' H' ⟨ρ',F',fr,A',e⟩
 cases m with
 |zero=>cases e
 |succ m =>
  unfold Uh at e
  refine hc B H0 H' σ' ρ' F' [] _ A' ?_
  cases e1:fc ρ' with
  |ok b =>
   rw[e1] at e
   refine fun H2 F2 s2 f2 A2=>?_
   have fr2:Frm H' F' H2 F2:=Frm.of s2 f2
   cases b with
   |true =>
    refine⟨fun σ3 H3=>∃ρ3 F3,Frm H F H3 F3/\Ag K B H0 H3 σ3 Γ ρ3 F3 []/\Uh fc g m ρ3=some r,fun σ3 H3 h=>⟨m,Z1u _,h⟩, ?_⟩
    refine hb B H0 H2 σ' ρ' F2 _ A2 ?_
    cases e2:g ρ' with
    |next ρ2=>rw[e2] at e;exact fun σ3 H3 F3 fr3 A3=>⟨ρ2,F3,fr.trans (fr2.trans fr3),A3,e⟩
    |cont ρ2=>rw[e2] at e;exact fun σ3 H3 F3 fr3 A3=>⟨ρ2,F3,fr.trans (fr2.trans fr3),A3,e⟩
    |brk ρ2 =>
     rw[e2] at e
     have e':RS.next ρ2=r:=Option.some.inj e
     rw[<- e'] at d
     exact fun σ3 H3 F3 fr3 A3=>d σ3 H3 F3 (fr.trans (fr2.trans fr3)) A3
    |ret y =>
     rw[e2] at e
     have e':RS.ret y=r:=Option.some.inj e
     rw[<- e'] at d
     exact d
    |exc q =>
     rw[e2] at e
     have e':RS.exc q=r:=Option.some.inj e
     rw[<- e'] at d
     exact d
    |bad =>
     rw[e2] at e
     have e':RS.bad=r:=Option.some.inj e
     rw[<- e'] at d
     exact d
   |false =>
    have e':RS.next ρ'=r:=Option.some.inj e
    rw[<- e'] at d
    exact d σ' H2 F2 (fr.trans fr2) A2
  |exc q =>
   rw[e1] at e
   have e':RS.exc q=r:=Option.some.inj e
   rw[<- e'] at d
   exact d
  |bad =>
   rw[e1] at e
   have e':RS.bad=r:=Option.some.inj e
   rw[<- e'] at d
   exact d
theorem Trees.get:∀{xs:List PV}{vs:List V}{G:List Addr}{j:Nat}{x:PV},Trees K H xs vs G->xs[j]?=some x->∃v G',vs[j]?=some v/\JY K H x v G'/\∀a∈G',a∈G
 |[],_,_,_,_,_,e=>by simp at e
 |y::xs,_,_,0,x,h,e=>by
  obtain⟨v,r,G1,G2,rfl,h1,h2,h3,rfl⟩:=h
  simp at e;subst e
  exact⟨v,G1,rfl,h1,fun a ha=>by simp[ha]⟩
 |y::xs,_,_,j+1,x,h,e=>by
  obtain⟨v,r,G1,G2,rfl,h1,h2,h3,rfl⟩:=h
  obtain⟨w,G',e1,e2,e3⟩:=Trees.get (j:=j) h2 (by simpa using e)
  exact⟨w,G',by simpa using e1,e2,fun a ha=>by simp[e3 a ha]⟩
theorem Zk4 {xs:List PV}{vs:List V}{G:List Addr}{i:Int}{z:PV} (h:Trees K H xs vs G) (e:atI xs i=some z):∃u G',atI vs i=some u/\JY K H z u G'/\∀a∈G',a∈G:=by
 unfold atI at e ⊢
 rw[h.length]
 cases q:ixN xs.length i with
 |none=>rw[q] at e;cases e
 |some j=>rw[q] at e;exact h.get e
theorem Zht {i:Nat}{h:Int->Int->Int} (hm:Γ2[i]?=some .O) (hmΓ:Γ[i]?=some .O) (hi:DE K EX Γ Γ2 .A ti f) (he:DE K EX Γ2 Γ2 .A te fe) :
  DS K EX Γ ⟨Γ2,Γ1,Γ3,k⟩ (ZnU (ZfE i) ti te (Zod K) (ipI h) Zm4) (fun ρ=>(f ρ).thenS fun j=>(pIx (gv i ρ) j).thenS fun z=>(asL (gv i ρ)).thenS fun _=>(fe ρ).thenS fun y=>(oI (fun _ _=>true) (fun a b=>.int (h a b)) z y).thenS fun w=>(pSet (gv i ρ) j w).thenS fun z=>.next (ρ.set i z)):=fun B H0 H σ ρ F D A d=>by
 obtain⟨v,h1,h2⟩:=A.getO hmΓ
 refine⟨v,h1,hi B H0 H σ ρ F [] _ A (d.thenS.imp (fun j _ d jv H1 s1 r1=>?_) fun e q=>q)⟩
 obtain⟨F1,f1,p1,A1⟩:=r1
 obtain⟨z,ez,d⟩:=Dn.pIx d.thenS
 obtain⟨xs,ex,d⟩:=Dn.asL d.thenS
 rw[ex] at ez
 obtain⟨v',h1',h2'⟩:=A1.getO hm
 rw[h1] at h1';cases h1'
 rw[show ρ.getD i .non=.lst xs from ex] at h2'
 obtain⟨a,vs,G,rfl,hH,ht,hn,hF⟩:=h2'
 obtain⟨j,rfl⟩:∃j',j=PV.int j':=by cases j<;>first|exact⟨_,rfl⟩|(simp only[pIx] at ez;cases ez;done)
 cases p1
 simp only[pIx] at ez
 cases e1:atI xs j with
 |none=>rw[e1] at ez;cases ez
 |some z' =>
  rw[e1] at ez;cases ez
  obtain⟨u,G2,e2,e3,e4⟩:=Zk4 ht e1
  refine⟨a,vs,j,u,rfl,rfl,SqL.of hH,e2,he B H0 H1 σ ρ F1 [] _ A1 (d.thenS.imp (fun y _ d w H2 s2 r2=>?_) fun e q=>q)⟩
  obtain⟨F2,f2,p2,A2⟩:=r2
  obtain⟨zi,yi,rfl,rfl⟩:∃zi yi,z=PV.int zi/\y=PV.int yi:=by cases z<;>cases y<;>first|exact⟨_,_,rfl,rfl⟩|(exact d.elim;done)
  obtain⟨e5,_⟩:=e3
  subst e5
  cases p2
  refine⟨zi,yi,rfl,rfl, ?_⟩
  obtain⟨xs',jj,n,ex',e6,e7,d⟩:=Dn.pSet (show DnS _ _ _ _ _ _ _ _ ((pSet (gv i ρ) (.int j) (.int (h zi yi))).thenS _) from d).thenS
  cases e6
  rw[ex] at ex';cases ex'
  obtain⟨v',h1',h2'⟩:=A2.getO hm
  rw[h1] at h1';cases h1'
  rw[show ρ.getD i .non=.lst xs from ex] at h2'
  obtain⟨a',vs',G',e,hH',ht',hn',hF'⟩:=h2'
  cases e
  refine⟨a,vs',j,n,rfl,rfl,hH',by rw[ht'.length];exact e7, ?_⟩
  obtain⟨G'',g1,g2⟩:=Trees.setP (j:=n) (y:=.int (h zi yi)) (w:=.int (h zi yi)) ht' ⟨rfl,rfl⟩
  have haF:a∈F2 i:=by rw[hF'];simp
  have hsub:∀b∈a::G'',b∈F2 i:=fun b hb=>by
   rw[hF']
   rcases Z0G.mp hb with rfl|hb
   ·simp
   ·simp[g1 b hb]
  refine d σ _ (ZbL F2 i (a::G'')) (Zev (s1.trans s2) (fun j b hb=>f1 j b (f2 j b hb)) haF fun b hb=>.inr ⟨i,f1 i b (f2 i b (hsub b hb))⟩) (Ag.chg (G:=[]) A2 hm haF (fun b hb=>.inl (hsub b hb)) (by simp) ?_)
  exact⟨_,h1,a,_,G'',rfl,ZD,g2.put hH' (fun z=>hn' (g1 a z)),fun z=>hn' (g1 a z),rfl⟩
end
noncomputable def RS.out:RS->Rr PV
 |.next _=>.ok .non
 |.ret x=>.ok x
 |.exc e=>.exc e
 |.brk _=>.bad
 |.cont _=>.bad
 |.bad=>.bad
@[simp] theorem RS.out_next {ρ:List PV}:(RS.next ρ).out=.ok .non:=rfl
@[simp] theorem RS.out_ret {x:PV}:(RS.ret x).out=.ok x:=rfl
@[simp] theorem RS.out_exc {e:PX}:(RS.exc e).out=.exc e:=rfl
def Ref (r r':Rr PV):Prop:=r=.bad\/r=r'
structure Pm where
 α:Type
 enc:α->List PV
 pre:α->Prop
 out:α->Rr PV
open Classical in
noncomputable def Pm.fn (m:Pm) (xs:List PV):Rr PV:=if h:∃a,m.enc a=xs/\m.pre a then m.out h.choose else .bad
theorem Pm.fn_eq (m:Pm) (a:m.α) (h:m.pre a) (inj:∀b,m.enc b=m.enc a->m.out b=m.out a):m.fn (m.enc a)=m.out a:=by
 unfold Pm.fn
 have hx:∃b,m.enc b=m.enc a/\m.pre b:=⟨a,rfl,h⟩
 rw[dif_pos hx]
 exact inj _ hx.choose_spec.1
theorem Pm.ref (m:Pm) {g:List PV->Rr PV} (h:∀a,m.pre a->g (m.enc a)=m.out a) (xs:List PV):Ref (m.fn xs) (g xs):=by
 unfold Pm.fn
 by_cases hx:∃a,m.enc a=xs/\m.pre a
 ·rw[dif_pos hx]
  have h2:=hx.choose_spec
  right
  have:=h _ h2.2
  rw[h2.1] at this
  exact this.symm
 ·rw[dif_neg hx];exact .inl rfl
section
variable {K:W.Frag}{B:Addr->Prop}{H:Hp}
theorem Ag.init {xs:List PV}{vs:List V}{n:Nat} (h:Reps K H B xs vs):Ag K (fun a=>B a\/H a=none) H H (vs.map some++List.replicate n none) (List.replicate xs.length .S++List.replicate n .U) (xs++List.replicate n .non) (fun _=>[]) []:=by
 refine⟨ZL.refl _,fun a h=>.inr h,by simp,by simp,by simp,by simp,by simp,by simp,by simp[h.length],by simp,fun i=>?_⟩
 by_cases hi:i<xs.length
 ·have e1:(List.replicate xs.length Md.S++List.replicate n Md.U).getD i .U=.S:=by
   rw[Z09,Z0J (by simpa using hi),Z19 hi];rfl
  have e2:(xs++List.replicate n PV.non).getD i .non=xs[i]:=by
   rw[Z09,Z0J hi,Z0B hi];rfl
  rw[e1,e2]
  obtain⟨v,h1,h2⟩:=h.get (Z0B hi)
  refine⟨rfl,v, ?_,Rep.mono (fun a us s r=>⟨r,.inl s,by simp,by simp⟩) (fun a us r=>r) h2⟩
  rw[Z0J (by rw[Z0K,h.length];exact hi),Z0N,h1];rfl
 ·have e1:(List.replicate xs.length Md.S++List.replicate n Md.U).getD i .U=.U:=by
   rw[Z09,Z0L (by simpa using hi)]
   by_cases q:i-(List.replicate xs.length Md.S).length<n
   ·rw[Z19 q];rfl
   ·rw[Z0I (by simpa using q)];rfl
  rw[e1]
  exact rfl
end
section
variable {P:Program}{w:World}{K:W.Frag}{mg:Str->Option Value}{base:Heap}
theorem Fun.okP {x qual:Str}{st:Stmt}{f:Addr}{fd:FuncData}{N ps:List Str}{k n l:Nat}{kd:Kd}{m:List PV->Rr PV} (F:Fun K x qual st f fd) (S:Zs N ps (Ze st)) (hn:ps.length=n) (hl:N.length-n=l)
  (hbody:∀(cdv:Value) (A:Around) (outer:List Env) (s:Shared) (H:Hp) (E:XK),ZbB k (A.deeper (envOfC qual (Ze st) s.heap.objs.size f cdv)) ->
   ∃t g Y,Y.r=kd/\PSs (Zc9 CX0 P w K mg base N qual (Ze st) f cdv A outer s H E).nox (Zo st) t/\DS K X0 (List.replicate n .S++List.replicate l .U) Y t g/\∀xs,Ref (m xs) (g (xs++List.replicate l .non)).out) (hkN:kd≠.N:=by nofun) :
  J5 P w K mg base CX0 (k+1) f fd ps (spF K n kd W0 m):=by
 refine F.ok S (fun vs H Q E h=>?_) (fun cdv A outer s H vs Q E hr h=>?_)
 ·obtain⟨B,xs,h1,h2,_⟩:=h
  rw[h1.length,h2,hn]
 ·obtain⟨B,xs,h1,h2,dn⟩:=h
  obtain⟨t,g,Y,hY,ht,hd,href⟩:=hbody cdv A outer s H E hr
  refine⟨t,ht, ?_⟩
  have A0:=Ag.init (n:=l) h1
  have est:ZbS N vs=vs.map some++List.replicate l none:=by
   unfold ZbS
   rw[h1.length,h2,hl]
  rw[est]
  rw[h2] at A0
  refine hd _ H H _ _ _ _ A0 ?_
  have hdn:Dn (g (xs++List.replicate l .non)).out (fun x=>∀v H',ZL H H'->ZlC K B H kd x v H'->Q v H') (fun e=>∀H',ZL H H'->W0 e E H'):=by
   rcases href xs with e|e
   ·rw[e] at dn;exact dn.elim
   ·rw[<- e];exact dn
  have retK:∀{x v H'},ZlC K (fun a=>B a\/H a=none) H kd x v H'->ZlC K B H kd x v H':=fun {x v H'} h=>by
   cases kd with
   |P=>exact h
   |F=>exact h
   |T=>exact Rep.mono (fun a us s r=>⟨r,s.elim id .inr⟩) (fun a us r=>r) h
   |Z=>exact Rep.mono (fun a us s r=>⟨r,s.elim id .inr⟩) (fun a us r=>r) h
   |A=>exact Rep.mono (fun a us s r=>⟨r,s.elim id .inr⟩) (fun a us r=>r) h
   |N=>exact h
  cases e:g (xs++List.replicate l .non) with
  |next ρ =>
   rw[e] at hdn
   refine fun σ' H' F' fr A'=>hdn .non H' A'.same ?_
   cases kd with
   |P=>exact⟨rfl,rfl⟩
   |F=>exact⟨[],⟨rfl,rfl⟩,by simp⟩
   |T=>exact rfl
   |Z=>exact rfl
   |A=>exact rfl
   |N=>exact absurd rfl hkN
  |ret x=>rw[e] at hdn;exact fun v H' s r=>hdn v H' s (retK (hY▸r))
  |exc q=>rw[e] at hdn;exact fun H' s=>hdn H' s
  |brk ρ=>rw[e] at hdn;exact hdn.elim
  |cont ρ=>rw[e] at hdn;exact hdn.elim
  |bad=>rw[e] at hdn;exact hdn.elim
end
section
variable {K:W.Frag}{n:Nat}{m:List PV->Rr PV}{e:Expr}{ta:TA}{Γ Γ':List Md}{fa:List PV->Rr (List PV)}
theorem Zqc (hn:Len fa n) (ha:DAA K X0 Γ Γ' ta fa):DE K X0 Γ Γ' .F (ZdB (spF K n .F W0 m) ta) (fun ρ=>(fa ρ).bind m):=Zhw (E:=E0) (W:=W0) (fun σ H Q h=>h) (fun e H' h=>h) hn ha
theorem ZjU (hn:Len fa n) (ha:DAA K X0 Γ Γ' ta fa):DE K X0 Γ Γ' .P (ZdB (spF K n .P W0 m) ta) (fun ρ=>(fa ρ).bind m):=Ze2 (E:=E0) (W:=W0) (fun σ H Q h=>h) (fun e H' h=>h) hn ha
end
theorem ZhY {K:W.Frag}{H:Hp}{a:Addr}{ns:List Int}{m:List PV->Rr PV} (hm:m [.lst (ns.map PV.int)]=.ok (.bl true)) (hS:SqL K H a (ns.map V.int)):spF K 1 .P W0 m [.ref a] H (fun v _=>v=.bl true) fun _ _ _=>False:=by
 refine⟨fun _=>True,[.lst (ns.map PV.int)],Reps.one ⟨a,_,rfl,hS.elim (fun h=>.inl ⟨h,trivial⟩) .inr,Zfe ns⟩,rfl, ?_⟩
 rw[hm]
 exact fun v H' _ r=>r.2
section
variable {X:Cx}{K:W.Frag}
theorem Zih (hc:X.calm=true) (e:X.K=K:=by rfl):ZbD X (.builtin "min") (Zoc K):=by subst e;exact ZjZ hc
theorem Zpf:bootBuiltins "str"=some (.type "str"):=by decide +kernel
end
def RS.good (r:RS) (I:List PV->Prop):Prop:=match r with
 |.next ρ=>I ρ
 |.cont ρ=>I ρ
 |_=>False
theorem RS.good_ex {r:RS}{I:List PV->Prop} (h:r.good I):∃ρ',(r=.next ρ'\/r=.cont ρ')/\I ρ':=by
 cases r with
 |next ρ=>exact⟨ρ,.inl rfl,h⟩
 |cont ρ=>exact⟨ρ,.inr rfl,h⟩
 |ret x=>exact h.elim
 |brk ρ=>exact h.elim
 |exc e=>exact h.elim
 |bad=>exact h.elim
theorem Zho {b:PV->List PV->RS}{xs:List PV}{ρ:List PV} (I:Nat->List PV->Prop) (h0:I 0 ρ) (h:∀i x ρ,xs[i]?=some x->I i ρ->(b x ρ).good (I (i+1))) :
  ∃ρ',Zea b xs ρ=.next ρ'/\I xs.length ρ':=by
 have key:∀n i ρ,xs.length=i+n->I i ρ->∃ρ',Zea b (xs.drop i) ρ=.next ρ'/\I xs.length ρ':=by
  intro n
  induction n with
  |zero =>
   intro i ρ hl hI
   rw[Z15 (by omega)]
   exact⟨ρ,rfl,by rw[hl];exact hI⟩
  |succ n ih =>
   intro i ρ hl hI
   have hi:i<xs.length:=by omega
   rw[Z0Y hi]
   obtain⟨ρ',h1,h2⟩:=RS.good_ex (h i _ ρ (Z0B hi) hI)
   obtain⟨ρ2,h3,h4⟩:=ih (i+1) ρ' (by omega) h2
   refine⟨ρ2, ?_,h4⟩
   simp only[Zea]
   rcases h1 with h1|h1<;>(rw[h1];exact h3)
 exact key xs.length 0 ρ (by omega) h0
theorem ZbV {lo:Int}{n i:Nat}{x:PV} (h:(ZhC lo n)[i]?=some x):i<n/\x=.int (lo+i):=by
 unfold ZhC at h
 rw[Z0N] at h
 by_cases hi:i<n
 ·rw[Z1z hi] at h;cases h;exact⟨hi,rfl⟩
 ·rw[Z0I (by simpa using hi)] at h;cases h
@[simp] theorem ZaQ {lo:Int}{n:Nat}:(ZhC lo n).length=n:=by simp[ZhC]
theorem ZcZ {α β:Type}{f:α->Rr β}{g:α->β}:∀{xs:List α},(∀x∈xs,f x=.ok (g x))->Zf7 f xs=.ok (xs.map g)
 |[],_=>rfl
 |x::xs,h=>by
  simp only[Zf7,h x (by simp),Rr.bind_ok,ZcZ (xs:=xs) fun y hy=>h y (by simp[hy]),Z0R]
@[simp] theorem Zgi {x:PV}{ρ:List PV}:gv 0 (x::ρ)=x:=rfl
@[simp] theorem Zgj {x:PV}{ρ:List PV}{i:Nat}:gv (i+1) (x::ρ)=gv i ρ:=rfl
theorem Uo {ns:List Int}{k:Int} (h0:0<=k) (h1:k<ns.length):pIx (.lst (ns.map PV.int)) (.int k)=.ok (.int (ns.getD k.toNat 0)):=by
 have:atI (ns.map PV.int) k=some (.int (ns.getD k.toNat 0)):=by
  unfold atI
  rw[Z0K,Zfd h0 h1]
  show (ns.map PV.int)[k.toNat]?=_
  rw[Z0N,Z0B (by omega),Z09,Z0B (by omega)]
  rfl
 simp only[pIx,this]
theorem Zbw {ns:List Int}{k y:Int} (h0:0<=k) (h1:k<ns.length):pSet (.lst (ns.map PV.int)) (.int k) (.int y)=.ok (.lst ((ns.set k.toNat y).map PV.int)):=by
 simp only[pSet,Z0K,Zfd h0 h1,List.map_set]
theorem Zcb {ns:List Int} (h:ns.length<=1000000):newF (ns.map PV.int)=.ok (.lst (ns.map PV.int)):=by
 unfold newF
 rw[PV.flats_ints,Z0K,decide_eq_true h];rfl
theorem Zft (ns:List Int):PV.dats (ns.map PV.int)=ns.map PyData.int:=by
 induction ns with
 |nil=>rfl
 |cons n ns ih=>simp[PV.dats,PV.dat,ih]
theorem Zgr (ns:List Int):PyData.canLayAll0 (ns.map PyData.int)=true:=by
 induction ns with
 |nil=>rfl
 |cons n ns ih=>simp[PyData.canLayAll0,PyData.canLay0,ih]
theorem Zjn (i:Int):okD (.int i)=true:=by simp[okD,PV.noX,PV.dat,PyData.canLay0,PyData.depth]
theorem Zdq:∀(ns ms:List Int),PyData.eqvAll (ns.map PyData.int) (ms.map PyData.int)=decide (ns=ms)
 |[],[]=>by simp[PyData.eqvAll]
 |[],m::ms=>by simp[PyData.eqvAll]
 |n::ns,[]=>by simp[PyData.eqvAll]
 |n::ns,m::ms=>by
  simp only[Z0R,PyData.eqvAll,PyData.eqv,Zdq ns ms,List.cons.injEq,Bool.decide_and]
  rw[Bool.beq_eq_decide_eq]
theorem Zje {g:Bool->Bool} (i j:Int):ZbP g (.int i) (.int j)=.ok (.bl (g (decide (i=j)))):=by
 unfold ZbP
 rw[Zjn,Zjn]
 simp only[Bool.and_self,if_true,PV.dat,PyData.eqv]
 rw[Bool.beq_eq_decide_eq]
theorem ZgQ (ns:List Int) (i:Int):okD (.tup [.lst (ns.map PV.int),.int i])=true:=by
 have hd:PyData.depthAll (ns.map PyData.int)=0:=by
  induction ns with
  |nil=>rfl
  |cons n ns ih=>simp[PyData.depthAll,PyData.depth,ih]
 simp[okD,PV.noX,PV.noXs,PV.noXs_ints,PV.dat,PV.dats,Zft,PyData.canLay0,PyData.canLayAll0,Zgr,PyData.depth,PyData.depthAll,hd]
theorem ZgN {g:Bool->Bool} (ns ms:List Int) (i j:Int):ZbP g (.tup [.lst (ns.map PV.int),.int i]) (.tup [.lst (ms.map PV.int),.int j])=.ok (.bl (g (decide (ns=ms)&&decide (i=j)))):=by
 unfold ZbP
 rw[ZgQ,ZgQ]
 simp only[Bool.and_self,if_true,PV.dat,PV.dats,Zft,PyData.eqv,PyData.eqvAll,Zdq,Bool.and_true]
 rw[Bool.beq_eq_decide_eq]
theorem ZeP (ns:List Int):ZlU [.lst (ns.map PV.int)]=.ok (.int ns.length):=by simp[ZlU]
theorem ZcR (ns:List Int):Zpr [.lst (ns.map PV.int)]=.ok (.int ns.sum):=by simp[Zpr,ZeQ]
theorem Zjb {ns:List Int} (h:ns≠[]):ZpJ [.lst (ns.map PV.int)]=.ok (.int (Zc5 ns)):=by simp[ZpJ,ZeQ,h]
theorem ZhG {ns:List Int} (h:ns.length<=1000000):ZkP [.lst (ns.map PV.int)]=.ok (.lst (ns.map PV.int)):=by
 simp only[ZkP];exact Zcb h
theorem ZgX {ns ms:List Int} (h:ns.length+ms.length<=1000000):newF (ns.map PV.int++ms.map PV.int)=.ok (.lst ((ns++ms).map PV.int)):=by
 rw[<- Z1S];exact Zcb (by simpa using h)
theorem ZiX {ns:List Int}{k:Int} (h0:ns.length*k.toNat<=1000000) (h1:-(2^63)<=k) (h2:k<2^63):ZmF (ns.map PV.int) (.int k)=.ok (.lst ((List.replicate k.toNat ns).flatten.map PV.int)):=by
 simp only[ZmF,Z0K]
 rw[if_pos ⟨h0,h1,h2⟩]
 have e:(List.replicate k.toNat (ns.map PV.int)).flatten=(List.replicate k.toNat ns).flatten.map PV.int:=by
  rw[List.map_flatten,List.map_replicate]
 rw[e]
 refine Zcb ?_
 rw[Zj2,Nat.mul_comm];exact h0
theorem ZjW {i j:Int} (a b:Nat) (h1:i.natAbs<=10^a) (h2:j.natAbs<=10^b) (ha:a<=4000:=by decide) (hb:b<=4000:=by decide):Zg0 i j:=by
 have t:∀c:Nat,c<=4000->(10:Nat)^c<2^60000:=fun c hc=>Z1s (Nat.pow_le_pow_right (by decide) hc) (by decide +kernel)
 exact⟨Z1s h1 (t a ha),Z1s h2 (t b hb)⟩
theorem ZjY {i j:Int} (b:Nat) (h1:0<j) (h2:j.natAbs<=10^b) (hb:b<=2000:=by decide):Zg1 i j:=by
 have t:∀c:Nat,c<=2000->(10:Nat)^c<2^9000:=fun c hc=>Z1s (Nat.pow_le_pow_right (by decide) hc) (by decide +kernel)
 exact⟨h1,Z1s h2 (t b hb)⟩
theorem Zjg {i j:Int} (h:Zg1 i j):ZpL (.int i) (.int j)=.ok (.int (i/j)):=ZgS (decide_eq_true h)
theorem Zja {i j:Int} (h:Zg0 i j):ZpI (.int i) (.int j)=.ok (.int (i*j)):=ZgS (decide_eq_true h)
theorem ZcS {i j:Int} (h:0<j):Zq3 (.int i) (.int j)=.ok (.int (i%j)):=ZgS (decide_eq_true h)
theorem ZiY {i j:Int} (h:ZnD i j):Zps (.int i) (.int j)=.ok (.int (i^j.toNat)):=ZgS (decide_eq_true h)
@[simp] theorem Zjh {i j:Int}:ZpM (.int i) (.int j)=.ok (.int (i+j)):=rfl
@[simp] theorem ZiW {i j:Int}:ZpH (.int i) (.int j)=.ok (.int (i-j)):=rfl
@[simp] theorem ZlT {i j:Int}:pLt (.int i) (.int j)=.ok (.bl (decide (i<j))):=rfl
@[simp] theorem ZlV {i j:Int}:pLe (.int i) (.int j)=.ok (.bl (decide (i<=j))):=rfl
@[simp] theorem Zmb {i j:Int}:pGt (.int i) (.int j)=.ok (.bl (decide (j<i))):=rfl
@[simp] theorem Zmc {i j:Int}:pGe (.int i) (.int j)=.ok (.bl (decide (j<=i))):=rfl
@[simp] theorem ZjF {i:Int}:grd (.int i)=.ok (.int i):=rfl
@[simp] theorem Zmr {b:Bool}:asB (.bl b)=.ok b:=rfl
@[simp] theorem Zke {xs:List PV}:asL (.lst xs)=.ok xs:=rfl
@[simp] theorem Zma {n:String}{x:Int}:Zoo n (.int x)=.ok (.bl (Zdj (ZaV (.int x)) n)):=rfl
@[simp] theorem ZlZ {n:String}{x:List PV}:Zoo n (.lst x)=.ok (.bl (Zdj (ZaV (.lst x)) n)):=rfl
@[simp] theorem ZlY {n:String}{x:List PV}:Zoo n (.tup x)=.ok (.bl (Zdj (ZaV (.tup x)) n)):=rfl
@[simp] theorem ZiZ {i:Int}:Zpt (.int i)=.ok (.int (-i)):=rfl
@[simp] theorem ZlX {x:PV}{xs:List PV}:pIx (.tup (x::xs)) (.int 0)=.ok x:=by simp[pIx,atI,ixN]
@[simp] theorem ZlW {x y:PV}{xs:List PV}:pIx (.tup (x::y::xs)) (.int 1)=.ok y:=by
 have:atI (x::y::xs) 1=some y:=by unfold atI;rw[Zfd (by omega) (by simp only[Z0T];omega)];rfl
 simp only[pIx,this]
theorem ZgL {j:Int} (h:-(2^62)<=j/\j<2^62):ZkN [.int j]=.ok (ZhC 0 j.toNat):=by simp only[ZkN,okR,decide_eq_true h,if_true]
theorem Zeu {xs:List PV} (h:xs.length<=1000000):lenM xs=.ok ():=by simp only[lenM,if_pos h]
@[simp] theorem Zhj:Zdj (ZaV (.int i)) "int"=true:=rfl
@[simp] theorem Zhk:Zdj (ZaV (.int i)) "bool"=false:=rfl
@[simp] theorem Zhi:Zdj (ZaV (.lst xs)) "list"=true:=rfl
@[simp] theorem Zhh:Zdj (ZaV (.tup xs)) "tuple"=true:=rfl
theorem ZeR {I:List PV->Prop}{ρ:List PV} (h:I ρ):(RS.next ρ).good I:=h
theorem Zhm {h:PV->List PV->Rr (List PV)}{hs:List PV->List PV->Rr (List PV)}{x:PV}{xs ρ:List PV}:hdR h hs (x::xs) ρ=(h x ρ).bind fun ρ'=>hs xs ρ':=rfl
theorem ZgV {ρ:List PV}:Zq7 [] ρ=.ok ρ:=rfl
theorem JE {ns ms:List Int} (e:ns.map PV.int=ms.map PV.int):ns=ms:=by
 have:=congrArg Zc6 e
 simpa using this
theorem ZdE {i j:Int} (h0:0<j) (h1:j<1000000000000):ZpL (.int i) (.int j)=.ok (.int (i/j)):=Zjg (ZjY 12 h0 (by omega))
theorem Zoq:Zps (.int 10) (.int 60)=.ok (.int (10^60)):=by rw[ZiY (by decide)];rfl
theorem Zmf {xs:List PV} (h:xs.length<=1000):mkT xs=.ok (.tup xs):=if_pos h
theorem Zmg {xs:List PV} (h:xs.length<=1000):mkL xs=.ok (.lst xs):=if_pos h
noncomputable def KD {α:Type}:Sem α->Prop
 |.pure _=>True
 |.raise _=>True
 |.unsupported _=>True
 |.finish _=>True
 |.rule _ k=>KD (k ())
 |.at _ k=>KD (k ())
 |.load _ _ k=>∀o,KD (k o)
 |.update _ _ f k=>(∀o:Obj,(f o).dict=o.dict/\(o.isFreed=false->(f o).isFreed=false))/\KD (k ())
 |.alloc _ k=>∀a,KD (k a)
 |.loadIfAlive _ k=>∀o,KD (k o)
 |.point _ k=>KD (k ())
 |.register _ _=>True
 |.fresh k=>∀t,KD (k t)
 |.ask k=>∀x,KD (k x)
 |.choose _ _ k=>∀n,KD (k n)
 |.os _ _ k=>∀r,KD (k r)
 |.call _ _ _ _ _=>False
 |.handled _ k=>∀x,KD (k x)
 |.newGen _ k=>∀g,KD (k g)
 |.genState _ k=>∀x,KD (k x)
 |.resume _ _ _ _=>False
 |.yield _ _ _ _=>True
 |.stack k=>∀x,KD (k x)
 |.fork _ _=>True
 |.thread k=>∀x,KD (k x)
 |.await _ _ _ _ _=>True
def DK (h h':Heap):Prop:=∀b o,h.get? b=some o->∃o',h'.get? b=some o'/\o'.dict=o.dict
theorem DK.refl (h:Heap):DK h h:=fun b o e=>⟨o,e,rfl⟩
theorem DK.trans {h1 h2 h3:Heap} (a:DK h1 h2) (b:DK h2 h3):DK h1 h3:=fun x o e=>by
 obtain⟨o1,e1,d1⟩:=a x o e
 obtain⟨o2,e2,d2⟩:=b x o1 e1
 exact⟨o2,e2,d2.trans d1⟩
theorem ZpV {M:Model}{Γ:PySem.Ctx}{α:Type}{Q:α->Pos->Shared->Prop}{E:Value->Pos->Shared->Prop}{h0:Heap}:∀(t:Sem α) (p:Pos) (s:Shared),KD t->DK h0 s.heap->Sem.wp M Γ t Q E p s ->
  Sem.wp M Γ t (fun a p' s'=>Q a p' s'/\DK h0 s'.heap) (fun e p' s'=>E e p' s'/\DK h0 s'.heap) p s:=by
 intro t
 induction t with
 |pure a=>intro p s _ d h;exact⟨h,d⟩
 |raise e=>intro p s _ d h;exact⟨h,d⟩
 |unsupported w=>intro p s _ _ h;exact h
 |finish e=>intro p s _ _ h;exact h
 |rule t k ih=>intro p s k d h;exact ih () p s k d h
 |«at» q k ih=>intro p s k d h;exact ih () q s k d h
 |load a q k ih=>intro p s k d h;obtain⟨o,e,h⟩:=h;exact⟨o,e,ih o p s (k o) d h⟩
 |update a q f k ih =>
  intro p s k d h
  refine⟨h.1,ih () p _ k.2 (d.trans fun b o e=>?_) h.2⟩
  by_cases hb:a=b
  ·subst hb
   exact⟨_,Heap.get?_update_self f e ((k.1 o).2 (Heap.get?_some_iff.mp e).2),(k.1 o).1⟩
  ·exact⟨o,(Heap.get?_update_other _ f hb).trans e,rfl⟩
 |alloc o k ih=>intro p s k d h;exact ih _ p _ (k _) (d.trans fun b o' e=>⟨o',Heap.get?_push_of_some _ e,rfl⟩) h
 |loadIfAlive a k ih=>intro p s k d h;exact ih _ p s (k _) d h
 |point l k ih=>intro p s k d h;exact ih () p s k d h
 |register a k ih=>intro p s _ _ h;exact h
 |fresh k ih=>intro p s k d h;exact ih _ p _ (k _) d h
 |ask k ih=>intro p s k d h;exact ih _ p _ (k _) d h
 |choose a n k ih=>intro p s k d h;exact⟨h.1,ih _ p _ (k _) d h.2⟩
 |os q l k ih=>intro p s k d h;exact ih _ p _ (k _) d h
 |call c h g l k ih=>intro p s k d h;exact k.elim
 |handled o k ih=>intro p s k d h;exact ih _ p _ (k _) d h
 |newGen c k ih=>intro p s k d h;exact ih _ p _ (k _) d h
 |genState g k ih=>intro p s k d h;obtain⟨st,e,h⟩:=h;exact⟨st,e,ih _ p s (k _) d h⟩
 |resume g r l k ih=>intro p s k d h;exact k.elim
 |yield v g l k ih=>intro p s _ _ h;exact h
 |stack k ih=>intro p s k d h;exact ih _ p _ (k _) d h
 |fork c k ih=>intro p s _ _ h;exact h
 |thread k ih=>intro p s k d h;exact ih _ p _ (k _) d h
 |await a t d l k ih=>intro p s _ _ h;exact h
theorem ZdX {M:Model}{A:Around}{α:Type}{t:Sem α}{Q:α->Shared->Prop}{E:Value->Shared->Prop}{s:Shared} (k:KD t) (h:wpAny M A t Q E s):wpAny M A t (fun a s'=>Q a s'/\DK s.heap s'.heap) (fun e s'=>E e s'/\DK s.heap s'.heap) s:=
 fun Γ p hΓ=>ZpV t p s k (DK.refl _) (h Γ p hΓ)
theorem ZZ {α β:Type}:∀(m:Sem α) {f:α->Sem β},KD m->(∀a,KD (f a))->KD (m >>= f):=by
 intro m f
 show KD m->_->KD (m.bind f)
 induction m with
 |pure a=>intro _ h;exact h a
 |raise e=>intro _ _;trivial
 |unsupported w=>intro _ _;trivial
 |finish e=>intro _ _;trivial
 |rule t k ih=>intro k h;exact ih () k h
 |«at» q k ih=>intro k h;exact ih () k h
 |load a q k ih=>intro k h o;exact ih o (k o) h
 |update a q g k ih=>intro k h;exact⟨k.1,ih () k.2 h⟩
 |alloc o k ih=>intro k h a;exact ih a (k a) h
 |loadIfAlive a k ih=>intro k h o;exact ih o (k o) h
 |point l k ih=>intro k h;exact ih () k h
 |register a k ih=>intro _ _;trivial
 |fresh k ih=>intro k h a;exact ih a (k a) h
 |ask k ih=>intro k h a;exact ih a (k a) h
 |choose a n k ih=>intro k h a;exact ih a (k a) h
 |os q l k ih=>intro k h a;exact ih a (k a) h
 |call c h g l k ih=>intro k h;exact k.elim
 |handled o k ih=>intro k h a;exact ih a (k a) h
 |newGen c k ih=>intro k h a;exact ih a (k a) h
 |genState g k ih=>intro k h a;exact ih a (k a) h
 |resume g r l k ih=>intro k h;exact k.elim
 |yield v g l k ih=>intro _ _;trivial
 |stack k ih=>intro k h a;exact ih a (k a) h
 |fork c k ih=>intro _ _;trivial
 |thread k ih=>intro k h a;exact ih a (k a) h
 |await a t d l k ih=>intro _ _;trivial
theorem Jx {α:Type}{a:α}:KD (pure a:Sem α):=trivial
theorem Zd7 {α:Type}{w:String}:KD (unsupported w:Sem α):=trivial
theorem Zgc {a:Addr}:KD (load a):=fun _=>trivial
theorem ZoC (g:Array Value->Array Value) (o:Obj):(Obj.mapFields g o).dict=o.dict/\(o.isFreed=false->(Obj.mapFields g o).isFreed=false):=by
 obtain⟨c,d,dt,sl⟩:=o
 cases dt<;>exact⟨rfl,fun h=>h⟩
theorem Zge (v:Value):KD (fieldsOf v):=by
 unfold fieldsOf
 cases v<;>try exact Zd7
 refine ZZ _ Zgc fun o=>?_
 cases o.data<;>first|exact Jx|exact Zd7
theorem ZcB (v:Value) (i:Nat):KD (field v i):=by
 unfold field
 refine ZZ _ (Zge v) fun vs=>?_
 cases vs[i]?<;>first|exact Jx|exact Zd7
theorem ZbM (v:Value) (i:Nat) (x:Value):KD (setField v i x):=by
 unfold setField
 cases v<;>try exact Zd7
 unfold updateField
 refine ZZ _ Zgc fun o=>?_
 cases o.data<;>try exact Zd7
 dsimp only
 split
 ·exact⟨fun o=>ZoC _ o,trivial⟩
 ·exact Zd7
theorem Zby (e:Value) (f:Option Addr):KD (setFlight e f):=by
 unfold setFlight
 refine ZZ _ (ZcB e 1) fun tb=>?_
 split
 ·exact ZbM _ _ _
 ·exact Jx
theorem Zfb (ty:String) (vs:List Value):KD (newFields ty vs):=by
 unfold newFields newObj newObjAsIs
 dsimp only
 have al:∀(o:Obj),KD (alloc o):=fun _ _=>trivial
 split
 ·exact ZZ _ Zd7 fun _=>ZZ _ (al _) fun _=>Jx
 ·exact ZZ _ (al _) fun _=>Jx
theorem Zj5 (env:Env) (outer:List Env):KD (behindIsImport env outer):=by
 unfold behindIsImport
 split
 ·exact Jx
 ·split
  ·exact Jx
  ·exact ZZ _ (ZcB _ _) fun _=>Jx
theorem Zgd (env:Env) (i:Bool) (outer:List Env):KD (keptBack env i outer):=by
 cases outer with
 |nil =>
  have u:KD underTheClaimsCaller:=by
   unfold underTheClaimsCaller
   exact ZZ _ (show KD stack from fun _=>trivial) fun _=>Jx
  rw[keptBack]
  split
  ·exact Jx
  ·exact ZZ _ u fun _=>Jx
 |cons c r=>unfold keptBack;exact Jx
theorem Zll {o:Obj}{sl:Array (Option Value)}:({ o with slots:=sl }:Obj).dict=o.dict/\(o.isFreed=false->({ o with slots:=sl }:Obj).isFreed=false):=by
 obtain⟨c,d,dt,s⟩:=o
 cases dt<;>exact⟨rfl,fun h=>h⟩
theorem Zhe:∀(l:List Env),KD (readyFrames l)
 |[]=>trivial
 |env::outer=>by
  unfold readyFrames
  cases env.frame with
  |none=>exact Zd7
  |some f =>
   dsimp only
   refine ZZ _ Zgc fun o=>?_
   split
   ·exact Jx
   ·refine ZZ _ (Zj5 _ _) fun _=>ZZ _ (Zgd _ _ _) fun _=>ZZ _ ⟨fun o=>Zll,trivial⟩ fun _=>Zhe outer
theorem ZhZ (env:Env):KD (PySem.frameOf env):=by
 unfold PySem.frameOf
 refine ZZ _ ?_ fun l=>ZZ _ ?_ fun r=>?_
 ·unfold frameEnvs
  exact ZZ _ (fun _=>trivial) fun _=>Jx
 ·cases (List.dropWhile (fun x=>x.frame != env.frame) l) with
  |nil=>exact Jx
  |cons a r=>exact ZZ _ (Zhe _) fun _=>Jx
 ·cases r<;>first|exact Jx|exact Zd7
theorem Zlm (f:Addr) (b:Bool):KD (entryPlaceOf f b):=by
 unfold entryPlaceOf
 refine ZZ _ (show KD stack from fun _=>trivial) fun acts=>?_
 split<;>exact Jx
theorem Zj4 (e:Value) (env:Env):KD (noteFrame e env):=by
 unfold noteFrame
 cases env.frame with
 |none=>exact Zd7
 |some f =>
  dsimp only
  refine ZZ _ (ZcB _ _) fun head=>?_
  have tail:∀(hd:Bool),KD (do setField e 1 (<- EntryCells.newEntry head (<- PySem.frameOf env) .none (rawInt f) .none (<- entryPlaceOf f hd))):=fun hd =>
   ZZ _ (ZhZ env) fun _=>ZZ _ (Zlm _ _) fun _=>ZZ _ (Zfb _ _) fun _=>ZbM _ _ _
  split
  ·refine ZZ _ (ZcB _ _) fun x=>?_
   split
   ·exact Jx
   ·exact ZZ _ (ZbM _ _ _) fun _=>tail _
  ·exact tail _
theorem Zcx (env:Env) (e:Value):KD (leaving env e):=ZZ _ (Zj4 e env) fun _=>Zby e none
theorem Uj.there {P:Program}{w:World}{H:Hp}{h:Heap}{a:Addr}{o:HO} (x:Uj P w H h a o):∃u,h.get? a=some u:=by
 cases o with
 |lst xs=>obtain⟨_,_,_,_,e⟩:=x;exact⟨_,e⟩
 |tup xs=>obtain⟨_,_,_,_,e,_⟩:=x;exact⟨_,e⟩
 |dK kvs=>obtain⟨_,_,_,_,o,_,_,e,_⟩:=x;exact⟨_,e⟩
 |dT kvs=>obtain⟨_,_,_,_,o,_,_,e,_⟩:=x;exact⟨_,e⟩
 |set S n=>obtain⟨o,_,_,_,e,_⟩:=x;exact⟨_,e⟩
 |ins C dx fs=>obtain⟨_,_,_,e,_⟩:=x;exact⟨_,e⟩
 |own y=>obtain⟨_,e⟩:=x;exact⟨_,e⟩
 |xd fs=>obtain⟨_,⟨_,_,_,e,_⟩,_⟩:=x;exact⟨_,e⟩
 |rng lo hi=>obtain⟨_,_,_,e⟩:=x;exact⟨_,e⟩
 |frz ob u=>exact⟨_,x.1⟩
 |tbl ps=>exact⟨_,x⟩
 |met f y=>exact⟨_,x⟩
 |ext φ=>exact x.2.1
def Znz (H:Hp) (ea k:Addr) (o:Obj):Prop:=(o.dict=none/\k=ea)\/(o.dict=some k/\∃fs,H k=some (.xd fs))
structure Fly (P:Program) (w:World) (outer:List Env) (H:Hp) (s:Shared) (ea k:Addr) (cls:Value) (H':Hp) (s':Shared):Prop where
 os:s'.os=s.os
 bare:AllBare s'.gens
 un:Un (frs outer) [] H H' s.heap s'.heap
 hok:HOk P w H' s'.heap
 new:H' ea=none
 dict:∃o,s'.heap.get? ea=some o/\Znz H' ea k o
 fly:∃(Bh:Heap) (t:Addr),Heap.FlyingW Bh outer ea cls (.ref t) s'.heap/\(∀b u,H' b=some u->∀o,s'.heap.get? b=some o->Bh.get? b=some o)/\∀b o,s.heap.get? b=some o->b ∉ frs outer->∃o',Bh.get? b=some o'
noncomputable def CX1 (P:Program) (w:World):CXT:=fun outer H s E e s'=>∃ea k cls H',e=.ref ea/\Fly P w outer H s ea k cls H' s'/\E cls (some k) H'
section
variable {P:Program}{w:World}{K:W.Frag}{mg:Str->Option Value}{base:Heap}{N:List Str}{qual:Str}{scope:Scope}{f:Addr}{cd:Value}{A:Around}{outer:List Env}{s:Shared}{H:Hp}{E:XK}
 {pins:List (Addr×Obj)}{σ:St}{H1 H':Hp}{s1 s':Shared}{g h'' Bh:Heap}{ea k t:Addr}{cls:Value}
theorem Zgk (I:Inv (Zc9 (CX1 P w) P w K mg base N qual scope f cd A outer s H E) pins σ H1 s1) (os:s'.os=s1.os) (bare:AllBare s'.gens) (un:Un (s.heap.objs.size::frs outer) [] H1 H' s1.heap g) (hok:HOk P w H' g) (up:g.UpToSlots h'')
  (fl:Heap.FlyingW Bh outer ea cls (.ref t) h'') (st:Bh.StaysIn g) (c1:∀b u,H' b=some u->∀o,g.get? b=some o->Bh.get? b=some o) (c2:∀b o,s.heap.get? b=some o->b ∉ s.heap.objs.size::frs outer->∃o',Bh.get? b=some o')
  (new:H' ea=none) (dn:∃o,g.get? ea=some o/\Znz H' ea k o) (dk:DK g h''):Fly P w outer H s ea k cls H' { s' with heap:=h'' }:=by
 have neL:∀b o,s.heap.get? b=some o->b≠s.heap.objs.size:=fun b o e=>Z0O (Heap.lt_size e)
 have nin:∀b o,s.heap.get? b=some o->b ∉ frs outer->b ∉ s.heap.objs.size::frs outer:=fun b o e n z=>(Z0G.mp z).elim (neL b o e) n
 have b0:Un (frs outer) [] H H1 s.heap s1.heap:=I.base
 have fr0:∀b∈frs outer,H b=none:=I.ok.frf
 have slot:∀b o,s.heap.get? b=some o->H b=none->b∈frs outer->∃sl,h''.get? b=some { o with slots:=sl }:=fun b o q n hb=>by
  obtain⟨s2,e1⟩:=b0.slot b o q n hb (by simp)
  obtain⟨s3,e2⟩:=un.slot b _ e1 (b0.free b o q n (by simp)) (Z0P _ hb) (by simp)
  obtain⟨_,o',ho',hnf⟩:=Heap.FunFrames.mem (show s.heap.FunFrames base outer from I.ok.funs) hb
  rw[q] at ho';cases ho'
  obtain⟨s4,e3⟩:=up b _ e2 hnf
  exact⟨s4,e3⟩
 have keepB:∀b o,s.heap.get? b=some o->H b=none->b ∉ frs outer->Bh.get? b=some o:=fun b o q n hb=>by
  have e1:=b0.keep b o q n hb (by simp)
  have e2:=un.keep b o e1 (b0.free b o q n (by simp)) (nin b o q hb) (by simp)
  obtain⟨o',e3⟩:=c2 b o q (nin b o q hb)
  have e4:=st b o' e3
  rw[e2] at e4;cases e4
  exact e3
 have thereB:∀b o,s.heap.get? b=some o->b ∉ frs outer->∃o',Bh.get? b=some o':=fun b o q hb=>by
  exact c2 b o q (nin b o q hb)
 refine⟨os.trans I.os,bare,⟨fun b o q n hb _=>fl.1 b o (keepB b o q n hb),fun b o q n hb _=>slot b o q n hb,fun b o q n _=>?_,fun b o q _=>?_,fun b xs q=>un.tups b xs (b0.tups b xs q),fun b o xs q=>un.frzs b o xs (b0.frzs b o xs q),fun b ps q=>?_⟩,fun b u e=>?_,new,(let ⟨o,e,d⟩:=dn;let ⟨o',e',d'⟩:=dk ea o e;⟨o',e',by unfold Znz at d ⊢;rw[d'];exact d⟩),Bh,t,fl,fun b u e o q=>?_,thereB⟩
 ·obtain⟨o1,e1⟩:=b0.there b o q (by simp)
  exact un.free b o1 e1 (b0.free b o q n (by simp)) (by simp)
 ·by_cases hb:b∈frs outer
  ·obtain⟨sl,e⟩:=slot b o q (fr0 b hb) hb
   exact⟨_,e⟩
  ·obtain⟨o',e⟩:=thereB b o q hb
   exact⟨o',fl.1 b o' e⟩
 ·obtain⟨m1,e1⟩:=b0.tbls b ps q
  obtain⟨m2,e2⟩:=un.tbls b _ e1
  exact⟨m1++m2,by rw[e2,Array.append_assoc]⟩
 ·refine(hok b u e).stay (fun c v hc q=>?_) (fun _ q=>q) fun _ _ q=>q
  rcases hc with rfl|hc
  ·exact fl.1 c v (c1 c u e v q)
  ·exact fl.1 c v (c1 c _ hc v q)
 ·obtain⟨o1,e1⟩:=(hok b u e).there
  have e2:=c1 b u e o1 e1
  have e3:=fl.1 b o1 e2
  rw[e3] at q;cases q
  exact e2
def Zkk (X:Cx) (E:St->XK):Prop:=∀(pins:List (Addr×Obj)) (σ:St) (H:Hp) (s:Shared) (e:Value) (s':Shared),Inv X pins σ H s->CX1 X.prog X.w X.stack H s (E σ) e s'->X.xe e s'
def Zpl (X:Cx) (E:St->XK):Prop:=∀(pins:List (Addr×Obj)) (σ:St) (H:Hp) (s:Shared) (h':Heap) (ea:Addr) (cls:Value) (args:List Value),Inv X pins σ H s->Heap.MadeExcOf s.heap h' ea cls args->E σ cls (some ea) H->X.xe (.ref ea) { s with heap:=h' }
theorem ZB:Zkk (Zc9 (CX1 P w) P w K mg base N qual scope f cd A outer s H E) (fun _=>E):=fun pins σ H1 s1 e s' I hq=>by
 obtain⟨ea,k,cls,H',rfl,F,hE⟩:=hq
 obtain⟨Bh,t,fl,c1,c2⟩:=F.fly
 refine wpAny_mono (ZdX (Zcx _ _) (wpAny_leaves_onW (Q:=fun _ s''=>∃h'',s''={ s' with heap:=h'' }/\Heap.FlyingW Bh outer ea cls (.ref t) h''/\s'.heap.UpToSlots h'') I.ok.frames rfl fl fun h'' fl'' up=>⟨h'',rfl,fl'',up⟩)) (fun _ s'' q=>?_) fun _ _ q=>q.1
 obtain⟨⟨h'',rfl,fl'',up⟩,dk⟩:=q
 exact⟨ea,k,cls,H',rfl,Zgk I F.os F.bare F.un F.hok up fl'' fl.1 c1 (fun b o e n=>let ⟨o1,e1⟩:=(show Un (frs outer) [] H H1 s.heap s1.heap from I.base).there b o e (by simp);c2 b o1 e1 n) F.new F.dict dk,hE⟩
theorem J3:Zpl (Zc9 (CX1 P w) P w K mg base N qual scope f cd A outer s H E) (fun _=>E):=fun pins σ H1 s1 h' ea cls args I hx hE=>by
 have hin:∀env∈(Zc9 (CX1 P w) P w K mg base N qual scope f cd A outer s H E).stack,∀b,env.frame=some b->b∈frs (Zc9 (CX1 P w) P w K mg base N qual scope f cd A outer s H E).stack:=fun env he b hb=>Z12.mpr ⟨env,he,hb⟩
 have trk:∀b u,H1 b=some u->b ∉ frs (Zc9 (CX1 P w) P w K mg base N qual scope f cd A outer s H E).stack:=fun b u e z=>by rw[I.stkFree b z] at e;cases e
 have new:H1 ea=none:=by
  cases q:H1 ea with
  |none=>rfl
  |some u=>obtain⟨o,e⟩:=(I.hok ea u q).there;rw[hx.new] at e;cases e
 refine wpAny_mono (ZdX (Zcx _ _) (wpAny_leaves_madeW (Q:=fun _ s''=>∃h'' t,s''={ s1 with heap:=h'' }/\Heap.FlyingW (PySem.W.hideAll s1.heap (frs (Zc9 (CX1 P w) P w K mg base N qual scope f cd A outer s H E).stack)) outer ea cls (.ref t) h''/\h'.UpToSlots h'')
  (base:=PySem.W.hideAll s1.heap (frs (Zc9 (CX1 P w) P w K mg base N qual scope f cd A outer s H E).stack)) (h:=s1.heap) I.ok.frames rfl (fun b o q=>PySem.W.of_hideAll _ q) (PySem.W.funFrames_hide I.stack hin) hx fun h'' t fl _ _ up=>⟨h'',t,rfl,fl,up⟩)) (fun _ s'' q=>?_) fun _ _ q=>q.1
 obtain⟨⟨h'',t,rfl,fl,up⟩,dk⟩:=q
 have dn:∃o,h'.get? ea=some o/\Znz H1 ea ea o:=by obtain⟨t,e,_⟩:=hx.there;exact⟨_,e,.inl ⟨rfl,rfl⟩⟩
 refine⟨ea,ea,cls,H1,rfl,Zgk (g:=h') (t:=t) (s':={ s1 with heap:=h' }) I rfl I.bare (Un.kept hx.keeps) (I.hok.kept hx.keeps) up fl (fun b o q=>hx.keeps b o (PySem.W.of_hideAll _ q)) (fun b u e o q=>?_) (fun b o q n=>let ⟨o1,e1⟩:=(show Un (frs outer) [] H H1 s.heap s1.heap from I.base).there b o q (by simp);⟨o1,PySem.W.hideAll_get _ e1 n⟩) new dn dk,hE⟩
 obtain⟨o1,e1⟩:=(I.hok b u e).there
 have e2:=hx.keeps b o1 e1
 rw[q] at e2;cases e2
 exact PySem.W.hideAll_get _ e1 (trk b u e)
end
noncomputable def Zmq:List Value:=[.type "ValueError",.type "Exception",.type "BaseException",.type "object"]
noncomputable def ZlK (C:Addr) (E:St->XK) (ta:TA):TS:=fun D σ H=>ta σ H fun vs H1=>vs.length<=1000/\∀ea,H1 ea=none->E σ (.ref C) (some ea) H1
theorem Zne {K:W.Frag}{h₀:Heap}{C:Addr}{bmB:List Value}{newId:String} (X:K.In h₀) (q:PySem.W.excIn K C bmB newId=true) :
  ∃tl N nm qn bs hdct sn sub ab col dd k0 k1 k2 k3 k5 mN,h₀.get? C=some (excClassObj nm qn C N bs tl hdct sn sub ab col dd k0 k1 k2 k3 k5 newId)/\h₀.Ns N mN/\mN "__init__"=none/\OwnTail h₀ bmB tl:=by
 unfold PySem.W.excIn at q
 split at q
 ·rename_i dd cd sl ho
  split at q
  ·rename_i C' bm k0 k1 k2 k3 n k5 hm hs
   simp only[Bool.and_eq_true,beq_iff_eq,Bool.not_eq_true'] at q
   obtain⟨⟨⟨⟨⟨rfl,rfl⟩,hdel⟩,ht⟩,hok⟩,hni⟩:=q
   obtain⟨nm,bs,mro,ns,qn,hd,sn,sub,ab,col,del⟩:=cd
   dsimp only at hm hdel hok hni
   subst hm hdel
   have hsl:sl=#[k0,k1,k2,k3,some (.builtin n),k5]:=by
    obtain⟨l⟩:=sl
    simp only at hs
    rw[hs]
   subst hsl
   exact⟨bm,ns,nm,qn,bs,hd,sn,sub,ab,col,dd,k0,k1,k2,k3,k5,_,X _ _ ho,.of_isNs (PySem.W.isNs_of_in X hok),PySem.W.nsMap_none_of_in X hok hni,PySem.W.tail_of_in X ht⟩
  ·cases q
 ·cases q
section
variable {X:Cx}{E:St->XK}{x:Str}{C:Addr}{np cpos pos:Pos}{e:Expr}{es:List Expr}{ta:TA}
theorem Jj (hM:Zpl X E) (hq:PySem.W.excIn X.K C Zmq "ValueError.__new__"=true) (hg:Gl X x) (hm:X.mg x=some (.ref C)) (hc:X.calm=true) (ha:PA X (e::es) ta) (hdb:(x==("__debug__":Str))=false:=by decide)
  (he:starEach (e::es) X.env=(false,eval e X.env)::starEach es X.env:=by rfl) (hpl:(backTo cpos (starEach es X.env)).any (·.1)=false:=by rfl) :
  PS X (.Raise (some (.Call (.Name x np) (e::es) [] cpos)) none pos) (ZlK C E ta):=by
 intro pins s σ H D I h
 obtain⟨tl,N,nm,q,bs,hdct,sn,sub,ab,col,dd,k0,k1,k2,k3,k5,mN,hC,hN,hni,T⟩:=Zne I.ok.mod.kin hq
 refine wpAny_Raise_call_subT (C:=C) (nm:=nm) (q:=q) (N:=N) (bs:=bs) (bm:=tl) (hdct:=hdct) (sn:=sn) (sub:=sub) (ab:=ab) (col:=col) (dd:=dd) (k0:=k0) (k1:=k1) (k2:=k2) (k3:=k3) (k5:=k5)
  PySem.F.excBase_ValueError (mN:=mN) (T.hasType PySem.F.excBase_ValueError.hasBase) (I.ok.hd hc) (by rw[he];show (false || (backTo cpos (starEach es X.env)).any (·.1))=false;rw[hpl];rfl) hni (ZaS I hg hm ⟨rfl, ?_⟩ hdb)
 have h2:=ha cpos pins s σ H _ I h
 rw[he] at h2 ⊢
 refine Calls.evalArgs_plain (wpAny_mono h2 (fun us s₂ z=>?_) fun _ _ y=>y)
 obtain⟨vs,H1,I1,r,hl,hE⟩:=z
 have hnew:∀{h':Heap}{ea:Addr}{args:List Value},Heap.MadeExcOf s₂.heap h' ea (.ref C) args->H1 ea=none:=fun {h' ea args} hx=>by
  cases q:H1 ea with
  |none=>rfl
  |some u=>obtain⟨o,e⟩:=(I1.hok ea u q).there;rw[hx.new] at e;cases e
 exact⟨rfl,Z0U (by rw[<- r.length];exact hl) (by decide),I1.bk _ _ hC,hN.keeps I1.bk,T.keeps I1.bk,fun h' ea hx=>hM pins σ H1 s₂ h' ea _ _ I1 hx (hE ea (hnew hx))⟩
end
theorem ZoO {P:Program}{w:World}{outer:List Env}{H H':Hp}{s s':Shared}{ea k t:Addr}{cls:Value}{Bh h'':Heap} (F:Fly P w outer H s ea k cls H' s') (fl:Heap.FlyingW Bh outer ea cls (.ref t) s'.heap)
  (c1:∀b u,H' b=some u->∀o,s'.heap.get? b=some o->Bh.get? b=some o) (c2:∀b o,s.heap.get? b=some o->b ∉ frs outer->∃o',Bh.get? b=some o') (st:Bh.StaysIn h'') (up:s'.heap.UpToSlots h'') :
  Un (frs outer) [] H H' s.heap h''/\HOk P w H' h'':=by
 refine⟨⟨fun b o q n hb _=>?_,fun b o q n hb _=>?_,fun b o q n hx=>F.un.free b o q n hx,fun b o q _=>?_,F.un.tups,F.un.frzs,F.un.tbls⟩,fun b u e=>?_⟩
 ·have e2:=F.un.keep b o q n hb (by simp)
  obtain⟨o',e3⟩:=c2 b o q hb
  have e4:=fl.1 b o' e3
  rw[e2] at e4;cases e4
  exact st b o e3
 ·obtain⟨s2,e2⟩:=F.un.slot b o q n hb (by simp)
  obtain⟨_,o',ho',hnf⟩:=Heap.FunFrames.mem fl.2.2.1 hb
  rw[e2] at ho';cases ho'
  obtain⟨s3,e3⟩:=up b _ e2 hnf
  exact⟨s3,e3⟩
 ·by_cases hb:b∈frs outer
  ·obtain⟨_,o',ho',hnf⟩:=Heap.FunFrames.mem fl.2.2.1 hb
   obtain⟨sl,e⟩:=up b _ ho' hnf
   exact⟨_,e⟩
  ·obtain⟨o',e⟩:=c2 b o q hb
   exact⟨o',st b o' e⟩
 ·refine(F.hok b u e).stay (fun c v hc q=>?_) (fun _ q=>q) fun _ _ q=>q
  rcases hc with rfl|hc
  ·exact st c v (c1 c u e v q)
  ·exact st c v (c1 c _ hc v q)
section
variable {X:Cx}{pins:List (Addr×Obj)}{σ:St}{H:Hp}{s:Shared}
theorem Inv.track {ea:Addr}{oe:Obj} (I:Inv X pins σ H s) (e:s.heap.get? ea=some oe) (hn:H ea=none) (hL:ea≠X.env.locals) (hC:∀x c,X.env.cells.lookup x=some c->c≠ea) (hp:∀p∈X.pn++pins,p.1≠ea) (h0:X.s₀.heap.get? ea=none) :
  Inv X pins σ (upd H ea (.frz oe (.own ea))) s:=by
 refine⟨I.ok,I.os,I.bare,⟨I.base.keep,I.base.slot,fun b o q n hx=>?_,I.base.there,fun b xs q=>?_,fun b o u q=>?_,fun b ps q=>?_⟩,I.loc,I.cell, ?_,fun x c q=>?_,fun p hq=>?_,fun b u q=>?_,I.len⟩
 ·rw[Zu (fun z=>by rw[z,h0] at q;cases q)];exact I.base.free b o q n hx
 ·have:=I.base.tups b xs q
  rw[Zu (Z0 this hn)];exact this
 ·have:=I.base.frzs b o u q
  rw[Zu (Z0 this hn)];exact this
 ·obtain⟨m,this⟩:=I.base.tbls b ps q
  exact⟨m,by rw[Zu (Z0 this hn)];exact this⟩
 ·rw[Zu (Ne.symm hL)];exact I.free
 ·rw[Zu (hC x c q)];exact I.freeC x c q
 ·obtain⟨a,b,c,d,e⟩:=I.pin p hq
  exact⟨a,by rw[Zu (hp p hq)];exact b,c,d,e⟩
 ·by_cases hb:b=ea
  ·subst hb
   rw[ZD] at q;cases q
   exact⟨e,oe,e⟩
  ·rw[Zu hb] at q
   exact(I.hok b u q).stay (fun c v _ z=>z) (fun c z=>by rw[Zu (Z0 z hn)];exact z) fun c xs z=>by rw[Zu (Z0 z hn)];exact z
theorem Inv.gone {i:Nat}{n:Str}{m:Str->Option Value}{v:Option Value}{h':Heap}{t':Nat} (I:Inv X pins σ H s) (hN:X.N.Nodup) (hi:X.N[i]?=some n) (hm:∀(j:Nat) (x:Str) (v:V),X.N[j]?=some x->σ[j]?=some (some v)->Vis X.env.scope x->∃u,Vj v u/\ZqG X.env s.heap m x u)
  (hn:h'.Ns X.env.locals (fun x=>if x=n then v else m x)) (hs:Heap.SameBut X.env.locals s.heap h') (hoL:∃o,s.heap.get? X.env.locals=some o):Inv X pins (σ.set i none) H { s with heap:=h',toks:=t' }:=by
 have tracked:HOk X.prog X.w H h':=fun b ob e=>by
  refine(I.hok b ob e).stay (fun c w' hc q=>(hs.2 c ?_).trans q) (fun _ q=>q) fun _ _ q=>q
  intro z
  rw[z] at hc
  rcases hc with hc|hc
  ·rw[<- hc,I.free] at e;cases e
  ·rw[I.free] at hc;cases hc
 have neL:∀b o,X.s₀.heap.get? b=some o->b≠X.env.locals:=fun b o e=>Z0O (Z0E (Heap.lt_size e) I.ok.above)
 refine⟨I.ok,I.os,I.bare,⟨fun b o e n hb hx=>?_,fun b o e n hb hx=>?_,I.base.free,fun b o e hx=>?_,I.base.tups,I.base.frzs,I.base.tbls⟩,⟨_,hn,fun j y v' e1 e2 e3=>?_⟩,fun y c e=>?_,I.free,I.freeC,fun p hp=>?_,tracked,by simpa using I.len⟩
 ·exact(hs.2 b (neL b o e)).trans (I.base.keep b o e n hb hx)
 ·obtain⟨sl,e1⟩:=I.base.slot b o e n hb hx
  exact⟨sl,(hs.2 b (neL b o e)).trans e1⟩
 ·obtain⟨o',e1⟩:=I.base.there b o e hx
  exact⟨o',(hs.2 b (neL b o e)).trans e1⟩
 ·by_cases hj:j=i
  ·subst hj
   rw[List.getElem?_set] at e2
   simp only[if_true] at e2
   split at e2<;>cases e2
  ·rw[Z0S (Ne.symm hj)] at e2
   obtain⟨u',r',q⟩:=hm j y v' e1 e2 e3
   refine⟨u',r', ?_⟩
   rcases q with ⟨k,e⟩|⟨k,c,e,z⟩
   ·refine .inl ⟨k, ?_⟩
    have:y≠n:=fun e=>hj (Zer hN e1 (e▸hi))
    simp[this,e]
   ·exact .inr ⟨k,c,e,z.sameBut hs (I.cne y c e)⟩
 ·obtain⟨w',z⟩:=I.cell y c e
  exact⟨w',z.sameBut hs (I.cne y c e)⟩
 ·obtain⟨e,n,ne,nf,d⟩:=I.pin p hp
  exact⟨(hs.2 p.1 ne).trans e,n,ne,nf,d⟩
end
noncomputable def unE (D:Zir) (i:Nat):Zir:=⟨fun σ H=>D.nx (σ.set i none) H,D.rt,fun σ H=>D.bk (σ.set i none) H,fun σ H=>D.ct (σ.set i none) H⟩
noncomputable def Zpx (K:W.Frag) (C:Addr) (i:Nat) (th:TS) (D:Zir):St->XK:=fun σ1 cls ea H1=>PySem.W.exmOne K cls (.ref C)=some true/\∃k,ea=some k/\∀(a:Addr) (oe:Obj),H1 a=none->oe.cls=cls->Znz H1 a k oe->PySem.W.notCls oe=true->th (unE D i) (σ1.set i (some (.ref a))) (upd H1 a (.frz oe (.own a)))
noncomputable def Zqq (K:W.Frag) (C:Addr) (i:Nat) (tb:(St->XK)->TS) (th:TS):TS:=fun D σ H=>tb (Zpx K C i th D) D σ H
noncomputable abbrev Cx.inTry (X:Cx) (xe:Value->Shared->Prop) (pn:List (Addr×Obj)):Cx:={ X with xe:=xe,pn:=pn }
noncomputable abbrev Cx.inExc (X:Cx) (A:Around):Cx:={ X with A:=A,calm:=false,xe:=fun _ _=>False }
section
variable {X:Cx}{pins:List (Addr×Obj)}{σ:St}{H:Hp}{s:Shared}
theorem Inv.tryIn {xe:Value->Shared->Prop} (I:Inv X pins σ H s):Inv (X.inTry xe (X.pn++pins)) [] σ H s:=
 ⟨⟨I.ok.mod,I.ok.kind,I.ok.glob,I.ok.blt,I.ok.above,I.ok.inj,I.ok.has,I.ok.cab,I.ok.hd,I.ok.frames,I.ok.stk,I.ok.exf,I.ok.bs,I.ok.bsz,I.ok.noex,I.ok.exfs,I.ok.funs,I.ok.frf⟩,I.os,I.bare,I.base,I.loc,I.cell,I.free,I.freeC,fun p hp=>I.pin p (by simpa using hp),I.hok,I.len⟩
theorem Inv.tryOut {xe:Value->Shared->Prop}{pins':List (Addr×Obj)} (I:Inv (X.inTry xe (X.pn++pins)) pins' σ H s):Inv X pins σ H s:=
 ⟨⟨I.ok.mod,I.ok.kind,I.ok.glob,I.ok.blt,I.ok.above,I.ok.inj,I.ok.has,I.ok.cab,I.ok.hd,I.ok.frames,I.ok.stk,I.ok.exf,I.ok.bs,I.ok.bsz,I.ok.noex,I.ok.exfs,I.ok.funs,I.ok.frf⟩,I.os,I.bare,I.base,I.loc,I.cell,I.free,I.freeC,fun p hp=>I.pin p (Z0C _ hp),I.hok,I.len⟩
theorem Inv.excIn {e:Value} (I:Inv X pins σ H s):Inv (X.inExc (X.A.mark (some e))) pins σ H s:=
 ⟨⟨I.ok.mod,I.ok.kind,I.ok.glob,I.ok.blt,I.ok.above,I.ok.inj,I.ok.has,I.ok.cab,fun z=>(by cases z),I.ok.frames,I.ok.stk,I.ok.exf,I.ok.bs,I.ok.bsz,I.ok.noex,I.ok.exfs,I.ok.funs,I.ok.frf⟩,I.os,I.bare,I.base,I.loc,I.cell,I.free,I.freeC,I.pin,I.hok,I.len⟩
theorem Inv.excOut {e:Value} (h:X.Ok) (I:Inv (X.inExc (X.A.mark (some e))) pins σ H s):Inv X pins σ H s:=⟨h,I.os,I.bare,I.base,I.loc,I.cell,I.free,I.freeC,I.pin,I.hok,I.len⟩
end
section
variable {X:Cx}{C:Addr}{i:Nat}{tb:(St->XK)->TS}{th:TS}{c n:Str}{np hpos pos:Pos}{body suite:List Stmt}{b₀:Stmt}
theorem Zof (hb:∀(xe:Value->Shared->Prop) (pn:List (Addr×Obj)) (E:St->XK),Zkk (X.inTry xe pn) E->PSs (X.inTry xe pn) body (tb E)) (hh:∀A,PSs (X.inExc A) (b₀::suite) th)
  (hN:X.N.Nodup) (hi:X.N[i]?=some n) (hl:X.env.scope.names.lookup n=some .local) (hg:Gl X c) (hm:X.mg c=some (.ref C)) (hst:X.stack=X.env::X.outer) (hf:X.env.frame=some X.env.locals) (hex:X.ex=[]) (hdb:(c==("__debug__":Str))=false:=by decide) :
  PS X (.Try body [.ExceptHandler (some (.Name c np)) (some n) (b₀::suite) hpos] [] [] pos) (Zqq X.K C i tb th):=by
 intro pins s σ H D I h
 refine wpAny_Try_except ?_
 refine wpAny_mono (hb (fun e s'=>∃σ1 H1 s1,Inv X pins σ1 H1 s1/\CX1 X.prog X.w X.stack H1 s1 (Zpx X.K C i th D σ1) e s') (X.pn++pins) (Zpx X.K C i th D) (fun pins' σ1 H1 s1 e s' I' hq=>⟨σ1,H1,s1,I'.tryOut,hq⟩) [] s σ H D I.tryIn h) (fun f s1 q=>?_) (fun e s1 q=>?_)
 ·cases f with
  |next=>obtain⟨σ',H',I',q⟩:=q;exact wpAny_execs_nil ⟨σ',H',I'.tryOut,q⟩
  |brk=>obtain⟨σ',H',I',q⟩:=q;exact⟨σ',H',I'.tryOut,q⟩
  |cont=>obtain⟨σ',H',I',q⟩:=q;exact⟨σ',H',I'.tryOut,q⟩
  |ret u=>obtain⟨v,σ',H',I',r,q⟩:=q;exact⟨v,σ',H',I'.tryOut,r,q⟩
 ·obtain⟨σ1,H1,s0,I1,ea,kk,cls,H',rfl,F,hx,a,ha,hth⟩:=q
  cases ha
  obtain⟨Bh,t,fl,c1,c2⟩:=F.fly
  have hfr:X.A.frames=some (X.env::X.outer):=by rw[<- hst];exact I.ok.frames
  have fl0:=fl
  rw[hst] at fl
  have new0:s0.heap.get? ea=none:=by
   cases q:s0.heap.get? ea with
   |none=>rfl
   |some o =>
    exfalso
    by_cases hb:ea∈frs X.stack
    ·obtain⟨_,o',ho',hnf⟩:=Heap.FunFrames.mem fl0.2.2.1 hb
     obtain⟨oe,vs,hoe,_,hd,_⟩:=fl0.first
     rw[hoe] at ho';cases ho'
     exact hnf vs hd
    ·obtain⟨o',e⟩:=c2 ea o q hb
     rw[fl0.2.1] at e;cases e
  have neL:ea≠X.env.locals:=fun z=>by
   obtain⟨m,⟨o,_,_,ho,_⟩,_⟩:=I1.loc
   rw[<- z,new0] at ho;cases ho
  have neC:∀x c,X.env.cells.lookup x=some c->c≠ea:=fun x c e z=>by
   obtain⟨v,o,ho,_⟩:=I1.cell x c e
   rw[z,new0] at ho;cases ho
  have neP:∀p∈X.pn++pins,p.1≠ea:=fun p hp z=>by
   have:=(I1.pin p hp).1
   rw[z,new0] at this;cases this
  have new1:X.s₀.heap.get? ea=none:=by
   cases q:X.s₀.heap.get? ea with
   |none=>rfl
   |some o=>obtain⟨o',e⟩:=I1.base.there ea o q (by rw[hex];simp);rw[new0] at e;cases e
  have land:∀{h'':Heap},Bh.StaysIn h''->s1.heap.UpToSlots h''->Inv X pins σ1 H' { s1 with heap:=h'' }:=fun {h''} st up=>by
   obtain⟨u,hok⟩:=ZoO F fl0 c1 c2 st up
   exact I1.call' (s':={ s1 with heap:=h'' }) (ch:=[]) F.os u hok F.bare (fun b z=>absurd z (by simp))
  refine wpAny_mono (ZdX (Zj4 _ _) (wpAny_looks_onW (Q:=fun _ s''=>∃h4,s''={ s1 with heap:=h4 }/\Heap.HeldW Bh (X.env::X.outer) ea cls (.ref t) X.env.locals h4/\s1.heap.UpToSlots h4) hfr hf fl fun h4 held4 up4=>⟨h4,rfl,held4,up4⟩)) (fun _ s'' q=>?_) fun _ _ q=>q.1
  obtain⟨⟨h4,rfl,held4,up4⟩,dk4⟩:=q
  refine wpAny_mono (ZdX (Zby _ _) (wpAny_landsW (Q:=fun _ s''=>∃h5,s''={ s1 with heap:=h5 }/\Heap.FlyingW Bh (X.env::X.outer) ea cls (.ref t) h5/\h4.UpToSlots h5) held4 fun h5 fl5 up5=>⟨h5,rfl,fl5,up5⟩)) (fun _ s'' q=>?_) fun _ _ q=>q.1
  obtain⟨⟨h5,rfl,fl5,up5⟩,dk5⟩:=q
  have up5':s1.heap.UpToSlots h5:=up4.trans up5
  have I5:=land fl5.1 up5'
  refine wpAny_handleBy_cons (codeAny_handlers_test ?_) (by intro q;cases q)
  refine ZaS (X:=X.inExc (X.A.mark (some (.ref ea)))) I5.excIn hg hm ?_ hdb
  obtain⟨oe5,hoe5,hc5⟩:=fl5.there
  have LT:PySem.W.Looks (model X.prog X.w) h5 (typeOf (.ref ea)) cls:=by
   subst hc5
   exact(PySem.W.Looks.ld hoe5).andThen .now
  refine PySem.W.Looks.here (s:={ s1 with heap:=h5 }) (PySem.W.exm_one I5.kIn LT hx) ?_
  refine codeAny_handlers_suite_as ?_
  refine wpAny_mono (ZdX (Zby _ _) (lands_againW (Q:=fun _ s''=>∃h6,s''={ s1 with heap:=h6 }/\Heap.FlyingW Bh (X.env::X.outer) ea cls (.ref t) h6/\h5.UpToSlots h6) fl5 fun h6 fl6 up6=>⟨h6,rfl,fl6,up6⟩)) (fun _ s'' q=>?_) fun _ _ q=>q.1
  obtain⟨⟨h6,rfl,fl6,up6⟩,dk6⟩:=q
  have I6:=land fl6.1 (up5'.trans up6)
  obtain⟨oe,ws,hoe,hc,hfd,_⟩:=fl6.first
  have hdn:Znz H' ea kk oe:=by
   obtain⟨o1,e1,d1⟩:=F.dict
   obtain⟨o2,e2,d2⟩:=dk4 ea o1 e1
   obtain⟨o3,e3,d3⟩:=dk5 ea o2 e2
   obtain⟨o4,e4,d4⟩:=dk6 ea o3 e3
   have e4':h6.get? ea=some o4:=e4
   rw[hoe] at e4';cases e4'
   unfold Znz at d1 ⊢
   rw[d4,d3,d2];exact d1
  have hnc:PySem.W.notCls oe=true:=by unfold PySem.W.notCls;rw[hfd]
  have I7:=I6.track (ea:=ea) (oe:=oe) hoe F.new neL neC neP new1
  refine ZbR (X:=X) I7 hN hi (.inl hl) (v:=.ref ea) rfl (fun s8 I8=>?_) (.inr hl)
  refine wpAny_mono (hh (X.A.mark (some (.ref ea))) pins s8 _ _ (unE D i) I8.excIn (hth ea oe F.new hc hdn hnc)) (fun f s9 q=>?_) (fun _ _ z=>False.elim z)
  have hcls:(X.env.scope.kind==.class || (X.env.scope.kind==.module&&X.env.locals != X.env.globals))=false:=by rw[I.ok.kind];rfl
  have go:∀{σ9:St}{H9:Hp},Inv (X.inExc (X.A.mark (some (.ref ea)))) pins σ9 H9 s9->∀{Q:Unit->Shared->Prop},(∀s',Inv X pins (σ9.set i none) H9 s'->Q () s') ->
    wpAny (model X.prog X.w) X.A (do bindName X.env n .none;unbindBehindTheSuite X.env n hpos) Q X.xe s9:=fun {σ9 H9} J {Q} hQ=>by
   have J':=Inv.excOut I.ok J
   obtain⟨m,hn,hlook⟩:=id J'.loc
   obtain⟨o,_,_,ho,_⟩:=id hn
   exact wpAny_nameGoes_keeps hl hn hcls fun h' v hn' hs'=>hQ _ (J'.gone hN hi hlook hn' hs' ⟨o,ho⟩)
  cases f with
  |next=>obtain⟨σ',H',I',q⟩:=q;exact go I' fun s' J=>⟨_,_,J,q⟩
  |brk=>obtain⟨σ',H',I',q⟩:=q;exact go I' fun s' J=>⟨_,_,J,q⟩
  |cont=>obtain⟨σ',H',I',q⟩:=q;exact go I' fun s' J=>⟨_,_,J,q⟩
  |ret u=>obtain⟨v,σ',H',I',r,q⟩:=q;exact go I' fun s' J=>⟨v,_,_,J,r,q⟩
end
end L2
namespace PySem.W
open PySem PySem.Spec PySem.Calls PyProof.Rows
section
variable {prog:Program}{w:World}{A:Around}{E:Value->Shared->Prop}{s:Shared}{K:Frag}{x D:Addr}{ox:Obj}{od:Option Obj}
theorem Zig:Manifest.canonical "BaseException.__getattribute__" = "object.__getattribute__":=by decide +kernel
theorem method_exc {name:Str}{f:Addr}{pl:Sem Bool}{Q:Value×List Value->Shared->Prop} (X:K.In s.heap) (I:InstAt s.heap x ox D od) (hga:findIn K (.ref D) "__getattribute__"=some (some (.builtin "BaseException.__getattribute__"))) (hk:findIn K (.ref D) "__getattr__"=some none) (hown:∀o,od=some o->lookIn name o=some none)
  (hf:findIn K (.ref D) name=some (some (.ref f))) (ht:typeIn K (.ref f)=some (.type "function")) (h:Q (.ref f,[.ref x]) s):wpAny (model prog w) A (getMethod (.ref x) name pl) Q E s:=by
 have hcan:=Zig
 unfold getMethod specialOf
 refine wpAny_bind (wpAny_bind (I.type.here ((looks_findIn X hga).here ?_)))
 dsimp only
 rw[hcan,if_neg (by decide)]
 refine wpAny_bind (wpAny_bind (I.type.here ((looks_findIn X hk).here ?_)))
 refine wpAny_bind (wpAny_bind (I.type.here ((looks_findIn X hf).here (wpAny_bind ((looks_typeIn X ht).here ?_)))))
 rw[if_neg (by decide +kernel)]
 refine wpAny_bind (wpAny_loadPart I.at_ ?_)
 have hd:=I.dict
 cases e:ox.dict with
 |none=>exact wpAny_bind (wpAny_rule (wpAny_pure h))
 |some dx =>
  rw[e] at hd
  cases od with
  |none=>exact hd.elim
  |some o =>
   dsimp only
   refine wpAny_bind (wpAny_bind (wpAny_loadPart hd ?_))
   rw[nsLook_of (hown o rfl)]
   exact wpAny_pure (wpAny_bind (wpAny_rule (wpAny_pure h)))
theorem Zec {M:Model}{nameV:Value}{Q:Unit->Shared->Prop} (X:K.In s.heap) (I:InstAt s.heap x ox D od) (hb:mroIn K D (.type "BaseException")=some true) (hq:Q () s):wpAny M A (checkBuiltinCall "BaseException.__getattribute__" ⟨[.ref x,nameV],[]⟩) Q E s:=by
 have hk:builtinKind "BaseException.__getattribute__"=some .slot:=by decide +kernel
 have hsplit:splitId "BaseException.__getattribute__"=some ("BaseException", "__getattribute__"):=by decide +kernel
 have ha:=F.args_bexc_ga (.ref x) nameV
 have L:Looks M s.heap (isInstance (.ref x) (.type "BaseException")) true:=(I.type (M:=M)).andThen (looks_mroIn X hb)
 simp only[checkBuiltinCall,hk,hsplit]
 refine wpAny_bind ?_
 refine L.here ?_
 obtain⟨h,g,d,t,os⟩:=s
 repeat (first|wp_step)
 all_goals exact hq
theorem ZjI {Q:Option Value->Shared->Prop} (X:K.In s.heap) (I:InstAt s.heap x ox D od) (hga:findIn K (.ref D) "__getattribute__"=some (some (.builtin "BaseException.__getattribute__"))) (hk:findIn K (.ref D) "__getattr__"=some none)
  (hb:mroIn K D (.type "BaseException")=some true) (hf:findObj K D od "__class__"=some (.bind (.builtin "getset_descriptor.__get__") (.builtin "object.__class__"))) (hm:mroIn K D (.type "object")=some true)
  (h:Q (some (.ref D)) { s with toks:=s.toks+1 }):wpAny (model prog w) A (getAttr? (.ref x) "__class__") Q E s:=by
 obtain⟨hh,g,d,t,os⟩:=s
 have L0:=I.type (M:=model prog w)
 have L1:=looks_findIn (M:=model prog w) X hga
 have L2:=looks_findIn (M:=model prog w) X hk
 have L3:=looks_find (M:=model prog w) X I hf
 unfold getAttr? getAttrBy? getAttrBy
 refine wpAny_bind (wpAny_mkText (wpAny_bind (wpAny_attempt (wpAny_holding (wpAny_bind (L0.at (wpAny_bind (L1.at ?_))))))))
 dsimp only
 have hne:(onTheHeap (Value.ref D)&&Value.builtin "BaseException.__getattribute__" == Value.builtin "object.__getattribute__")=false:=by
  have hx2:(Value.builtin "BaseException.__getattribute__" == Value.builtin "object.__getattribute__")=false:=by decide +kernel
  rw[hx2];rfl
 rw[if_neg (by rw[hne];decide)]
 unfold getAttrByItsOwn hookBefore
 rw[show onTheHeap (Value.ref D)=true from rfl,if_pos rfl]
 refine wpAny_bind (L2.at ?_)
 refine wpAny_bind (wpAny_attempt (wpAny_holding ?_))
 unfold callGetattribute
 rw[if_neg (by decide)]
 unfold boundAndCalled
 refine wpAny_bind (wpAny_of_eq (PySem.F.attrBase_ValueError.ga.bind (.ref x)) ?_)
 refine wpAny_call (codeAny_call_builtin PySem.F.attrBase_ValueError.ga.plain F.entry_bexc_ga (Zec X I hb ?_))
 unfold Builtin.«object.__getattribute__»
 refine wpAny_bind (wpAny_pure ?_)
 refine wpAny_bind (wpAny_pure ?_)
 refine wpAny_bind (L0.at (wpAny_bind (L3.at ?_)))
 show wpAny _ _ (holding [Value.builtin "object.__class__"] (call (.builtin "getset_descriptor.__get__") [.builtin "object.__class__",.ref x,.ref D]) >>= fun v=>ret v) _ _ _
 refine wpAny_bind (wpAny_holding (wpAny_call (class_get (s:=⟨hh,g,d,t+1,os⟩) (ox:=ox) (od:=od) X I hm ?_)))
 exact wpAny_pure (handed_on rfl (wpAny_pure h))
theorem exc_value {name:Str}{v:Value}{Q:Value->Shared->Prop}{expr:Bool} (X:K.In s.heap) (I:InstAt s.heap x ox D od) (hga:findIn K (.ref D) "__getattribute__"=some (some (.builtin "BaseException.__getattribute__"))) (hk:findIn K (.ref D) "__getattr__"=some none)
  (hb:mroIn K D (.type "BaseException")=some true) (hf:findObj K D od name=some (.value v)) (hv:handedIn v=true)
  (h:Q v { s with toks:=s.toks+1 }):wpAny (model prog w) A (getAttr (.ref x) name expr) Q E s:=by
 obtain⟨hh,g,d,t,os⟩:=s
 have L0:=I.type (M:=model prog w)
 have L1:=looks_findIn (M:=model prog w) X hga
 have L2:=looks_findIn (M:=model prog w) X hk
 have L3:=looks_find (M:=model prog w) X I hf
 unfold getAttr getAttrBy
 refine wpAny_bind (wpAny_mkText (wpAny_holding (wpAny_bind (L0.at (wpAny_bind (L1.at ?_))))))
 dsimp only
 have hne:(onTheHeap (Value.ref D)&&Value.builtin "BaseException.__getattribute__" == Value.builtin "object.__getattribute__")=false:=by
  have hx2:(Value.builtin "BaseException.__getattribute__" == Value.builtin "object.__getattribute__")=false:=by decide +kernel
  rw[hx2];rfl
 rw[if_neg (by rw[hne];decide)]
 unfold getAttrByItsOwn hookBefore
 rw[show onTheHeap (Value.ref D)=true from rfl,if_pos rfl]
 refine wpAny_bind (L2.at ?_)
 refine wpAny_bind (wpAny_attempt (wpAny_holding ?_))
 unfold callGetattribute
 rw[if_neg (by simp[onTheHeap])]
 unfold boundAndCalled
 refine wpAny_bind (wpAny_of_eq (PySem.F.attrBase_ValueError.ga.bind (.ref x)) ?_)
 refine wpAny_call (codeAny_call_builtin PySem.F.attrBase_ValueError.ga.plain F.entry_bexc_ga (Zec X I hb ?_))
 unfold Builtin.«object.__getattribute__»
 refine wpAny_bind (wpAny_pure ?_)
 refine wpAny_bind (wpAny_pure ?_)
 refine wpAny_bind (L0.at (wpAny_bind (L3.at ?_)))
 refine wpAny_pure ?_
 show wpAny _ _ (handedOut v) _ _ _
 rw[handedOut_of hv];exact wpAny_pure h
noncomputable def exOk (K:Frag) (D:Addr):Bool:=(findIn K (.ref D) "__getattribute__" == some (some (.builtin "BaseException.__getattribute__")))&&(findIn K (.ref D) "__getattr__" == some none)&&(mroIn K D (.type "BaseException")==some true)&&(mroIn K D (.type "object")==some true) &&
 (findIn K (.ref D) "__class__" == some (some (.builtin "object.__class__")))&&(specialIn K (.builtin "object.__class__") "__get__" == some (some (.builtin "getset_descriptor.__get__")))&&(takesIn K (.builtin "object.__class__")==some true)&&(clsIn K D).isSome
theorem Zfn {C:Addr}{name:Str}{a g:Value} (hc:(clsIn K C).isSome=true) (ha:findIn K (.ref C) name=some (some a)) (hg:specialIn K a "__get__"=some (some g)) (ht:takesIn K a=some true):findObj K C od name=some (.bind g a):=by
 obtain⟨cd,hc⟩:=Z10.mp hc
 unfold findObj
 rw[hc,Z1v,ha,Z1v]
 simp only[hg,ht,Z1v]
theorem kitx_exc (h:exOk K D=true):KitX K (.ref x) (.ref D) (fun h=>∃ox od,InstAt h x ox D od):=by
 simp only[exOk,Bool.and_eq_true,beq_iff_eq] at h
 obtain⟨⟨⟨⟨⟨⟨⟨h1,h2⟩,h3⟩,h4⟩,h5⟩,h6⟩,h7⟩,h8⟩:=h
 have hob:∃c' d' cd' sl',K.lookup D=some ⟨c',d',.cls cd',sl'⟩:=by
  obtain⟨cd,e⟩:=Z10.mp h8
  unfold clsIn at e
  split at e
  ·rename_i c' d' cd' sl' ho;exact⟨_,_,_,_,ho⟩
  ·cases e
 obtain⟨c',d',cd',sl',ho⟩:=hob
 refine⟨fun M h _ ⟨ox,od,I⟩=>I.type,fun M h X _=>?_,fun h tp dd its n sl X htp=>?_,fun X ⟨ox,od,I⟩ k=>ZjI X I h1 h2 h3 (Zfn h8 h5 h6 h7) h4 k⟩
 ·intro A' Q' E' s' k q
  unfold isType loadHead
  exact wpAny_bind (wpAny_loadPart (k _ _ (X _ _ ho)) (wpAny_pure q))
 ·refine Bool.eq_false_iff.mpr fun q=>?_
  have e:D=tp:=Value.ref.inj (beq_iff_eq.mp q)
  subst e
  have z:=(X _ _ ho).symm.trans htp
  cases z
end
end PySem.W
namespace L2
open PySem PySem.Spec PyProof.Rows
def OkX (P:Program) (w:World) (K:W.Frag) (mg:Str->Option Value) (base:Heap) (k:Nat) (x:Str) (ps:List Str) (sp:Sp):Prop:=
 ∃f fd,J5 P w K mg base (CX1 P w) k f fd ps sp/\mg x=some (.ref f)/\PySem.W.keepIn K (.ref f)=true/\Zck K fd ps []
theorem Jz {P:Program}{w:World}{K:W.Frag}{mg:Str->Option Value}{base:Heap}{k:Nat}{x:Str}{st:Stmt}{ps:List Str}{sp:Sp} (d:Dfn K mg x st) (b:Zt x st ps)
  (h:∀{f fd},Fun K x x st f fd->J5 P w K mg base (CX1 P w) k f fd ps sp):OkX P w K mg base k x ps sp:=by
 obtain⟨f,fd,F,hm⟩:=d
 exact⟨f,fd,h F,hm,F.kp,F.binds b⟩
section
variable {X:Cx}{k:Nat}{x:Str}{ps:List Str}{sp:Sp}{p pos:Pos}{e:Expr}{es:List Expr}{t:TA}{E:St->XK}
noncomputable def ZeA (sp:Sp) (E:St->XK) (t:TA):TE:=fun σ H Q=>t σ H fun vs H1=>sp vs H1 Q (E σ)
theorem Zx (G:OkX X.prog X.w X.K X.mg X.base k x ps sp) (hr:ZbB k X.A) (hg:Gl X x) (hx:Zkk X E) (ha:PA X (e::es) t) (hdb:(x==("__debug__":Str))=false:=by decide)
  (he:starEach (e::es) X.env=(false,eval e X.env)::starEach es X.env:=by rfl) (hpl:(backTo pos (starEach es X.env)).any (·.1)=false:=by rfl):PE X (.Call (.Name x p) (e::es) [] pos) (ZeA sp E t):=by
 obtain⟨f,fd,F,hm,hk,hb⟩:=G
 intro pins s σ H Q I h
 refine wpAny_Call_Name_kw (ZaS I hg hm ?_ hdb)
 refine PySem.W.callWith_K (h₀:=X.base) I.ok.mod.kin hk (thn (ha pos pins s σ H _ I h) fun us s1 ⟨vs,H1,I1,r,q⟩=>⟨I1.kIn, ?_⟩) he hpl
 have hl:(us++[]).length=ps.length:=by rw[Z1d,<- r.length];exact F.len _ _ _ _ q
 have hb':=hb s1 us I1.kIn hl
 rw[Z1d] at hb'
 refine wpAny_call (codeAny_mono (F.run X.A X.stack s1 H1 ⟨us,[]⟩ us vs Q (E σ) hr I1.env0 hb' r q) fun r s' hq=>?_)
 cases r with
 |error e=>exact hx pins σ H1 s1 e s' I1 hq
 |ok fl =>
  cases fl with
  |ret u=>exact I1.after hq
  |next=>exact False.elim hq
  |brk=>exact False.elim hq
  |cont=>exact False.elim hq
end
noncomputable def Zra:PV->Hp->Addr->Prop
 |.non,H,k=>H k=none
 |.int i,H,k=>∃fs,H k=some (.xd fs)/\fs=[(("at":Str),V.int i)]
 |_,_,_=>False
def W1 (K:W.Frag):PX->XK->Hp->Prop:=fun e E H'=>∀C k,ZbC K e.1 C->Zra e.2 H' k->E (.ref C) (some k) H'
section
variable {P:Program}{w:World}{K:W.Frag}{mg:Str->Option Value}{base:Heap}
theorem Fun.okX {x qual:Str}{st:Stmt}{f:Addr}{fd:FuncData}{N ps:List Str}{k n l:Nat}{kd:Kd}{m:List PV->Rr PV} (F:Fun K x qual st f fd) (S:Zs N ps (Ze st)) (hn:ps.length=n) (hl:N.length-n=l)
  (hbody:∀(cdv:Value) (A:Around) (outer:List Env) (s:Shared) (H:Hp) (E:XK),ZbB k (A.deeper (envOfC qual (Ze st) s.heap.objs.size f cdv)) ->
   ∃t g Y,Y.r=kd/\PSs (Zc9 (CX1 P w) P w K mg base N qual (Ze st) f cdv A outer s H E) (Zo st) t/\DS K (fun e H'=>W1 K e E H') (List.replicate n .S++List.replicate l .U) Y t g/\∀xs,Ref (m xs) (g (xs++List.replicate l .non)).out) (hkN:kd≠.N:=by nofun) :
  J5 P w K mg base (CX1 P w) (k+1) f fd ps (spF K n kd (W1 K) m):=by
 obtain⟨oc,od,kV,doc,pm,an,cdv,ct,osl,rfl,lk,hcd⟩:=F.ex
 refine ZoN lk hcd S (fun vs H Q E h=>?_) fun A outer s H vs Q E hr h=>?_
 ·obtain⟨B,xs,h1,h2,_⟩:=h
  rw[h1.length,h2,hn]
 ·obtain⟨B,xs,h1,h2,dn⟩:=h
  obtain⟨t,g,Y,hY,ht,hd,href⟩:=hbody cdv A outer s H E hr
  refine⟨t,ht, ?_⟩
  have A0:=Ag.init (n:=l) h1
  have est:ZbS N vs=vs.map some++List.replicate l none:=by
   unfold ZbS
   rw[h1.length,h2,hl]
  rw[est]
  rw[h2] at A0
  refine hd _ H H _ _ _ _ A0 ?_
  have hdn:Dn (g (xs++List.replicate l .non)).out (fun x=>∀v H',ZL H H'->ZlC K B H kd x v H'->Q v H') (fun e=>∀H',ZL H H'->W1 K e E H'):=by
   rcases href xs with e|e
   ·rw[e] at dn;exact dn.elim
   ·rw[<- e];exact dn
  have retK:∀{x v H'},ZlC K (fun a=>B a\/H a=none) H kd x v H'->ZlC K B H kd x v H':=fun {x v H'} h=>by
   cases kd with
   |P=>exact h
   |F=>exact h
   |T=>exact Rep.mono (fun a us s r=>⟨r,s.elim id .inr⟩) (fun a us r=>r) h
   |Z=>exact Rep.mono (fun a us s r=>⟨r,s.elim id .inr⟩) (fun a us r=>r) h
   |A=>exact Rep.mono (fun a us s r=>⟨r,s.elim id .inr⟩) (fun a us r=>r) h
   |N=>exact h
  cases e:g (xs++List.replicate l .non) with
  |next ρ =>
   rw[e] at hdn
   refine fun σ' H' F' fr A'=>hdn .non H' A'.same ?_
   cases kd with
   |P=>exact⟨rfl,rfl⟩
   |F=>exact⟨[],⟨rfl,rfl⟩,by simp⟩
   |T=>exact rfl
   |Z=>exact rfl
   |A=>exact rfl
   |N=>exact absurd rfl hkN
  |ret x=>rw[e] at hdn;exact fun v H' s r=>hdn v H' s (retK (hY▸r))
  |exc q=>rw[e] at hdn;exact fun H' s=>hdn H' s
  |brk ρ=>rw[e] at hdn;exact hdn.elim
  |cont ρ=>rw[e] at hdn;exact hdn.elim
  |bad=>rw[e] at hdn;exact hdn.elim
end
section
variable {K:W.Frag}{n:Nat}{m:List PV->Rr PV}{ta:TA}{Γ Γ':List Md}{fa:List PV->Rr (List PV)}{E:XK}
noncomputable abbrev EX1 (K:W.Frag) (E:XK):PX->Hp->Prop:=fun e H'=>W1 K e E H'
theorem Zhr (hn:Len fa n) (ha:DAA K (EX1 K E) Γ Γ' ta fa):DE K (EX1 K E) Γ Γ' .F (ZeA (spF K n .F (W1 K) m) (fun _=>E) ta) (fun ρ=>(fa ρ).bind m):=Zhw (E:=E) (W:=W1 K) (fun σ H Q h=>h) (fun e H' h=>h) hn ha
theorem Zc8 (hn:Len fa n) (ha:DAA K (EX1 K E) Γ Γ' ta fa):DE K (EX1 K E) Γ Γ' .P (ZeA (spF K n .P (W1 K) m) (fun _=>E) ta) (fun ρ=>(fa ρ).bind m):=Ze2 (E:=E) (W:=W1 K) (fun σ H Q h=>h) (fun e H' h=>h) hn ha
theorem ZqA (hn:Len fa n) (ha:DAZ K (EX1 K E) Γ Γ' ta fa):DE K (EX1 K E) Γ Γ' .Z (ZeA (spF K n .Z (W1 K) m) (fun _=>E) ta) (fun ρ=>(fa ρ).bind m):=Zl4 (E:=E) (W:=W1 K) (fun σ H Q h=>h) (fun e H' h=>h) hn ha
theorem ZnA {EX:PX->Hp->Prop} (hn:Len fa n) (hm:∀xs q,m xs≠.exc q) (ha:DAA K EX Γ Γ' ta fa):DE K EX Γ Γ' .F (ZdB (spF K n .F W0 m) ta) (fun ρ=>(fa ρ).bind m):=fun B H0 H σ ρ F R Q A d=>by
 refine ha B H0 H σ ρ F R _ A (d.bind.imp (fun xs hx d vs H1 F1 s1 f1 p1 A1=>?_) fun e q=>q)
 refine⟨fun _=>True,xs,p1,hn ρ xs hx, ?_⟩
 cases e:m xs with
 |ok x =>
  rw[e] at d
  intro v H2 s2 r
  obtain⟨G,r1,r2⟩:=r
  exact d v H2 (s1.trans s2) ⟨F1,f1,G,r1,fun a ha=>⟨(A1.fresh (r2 a ha)).1,.inl (s1.free (r2 a ha))⟩,A1.more s2 r2 r1.alive⟩
 |exc q=>exact(hm xs q e).elim
 |bad=>rw[e] at d;exact d.elim
theorem ZjK {EX:PX->Hp->Prop} (hn:Len fa n) (hm:∀xs q,m xs≠.exc q) (ha:DAA K EX Γ Γ' ta fa):DE K EX Γ Γ' .P (ZdB (spF K n .P W0 m) ta) (fun ρ=>(fa ρ).bind m):=fun B H0 H σ ρ F R Q A d=>by
 refine ha B H0 H σ ρ F R _ A (d.bind.imp (fun xs hx d vs H1 F1 s1 f1 p1 A1=>?_) fun e q=>q)
 refine⟨fun _=>True,xs,p1,hn ρ xs hx, ?_⟩
 cases e:m xs with
 |ok x=>rw[e] at d;exact fun v H2 s2 r=>d v H2 (s1.trans s2) ⟨F1,f1,r.1,r.2,A1.grow s2⟩
 |exc q=>exact(hm xs q e).elim
 |bad=>rw[e] at d;exact d.elim
def Pm.calm (m:Pm):Prop:=∀a q,m.out a≠.exc q
theorem Pm.calm_fn {m:Pm} (h:m.calm) (xs:List PV) (q:PX):m.fn xs≠.exc q:=by
 unfold Pm.fn
 by_cases hx:∃a,m.enc a=xs/\m.pre a
 ·rw[dif_pos hx];exact h _ q
 ·rw[dif_neg hx];exact fun z=>by cases z
theorem Jk {C:Addr}{x:Str}{Y:Tys} (hC:ZbC K x C) (hn:Len fa n) (hl:n<=1000) (ha:DAA K (EX1 K E) Γ Γ' ta fa):DS K (EX1 K E) Γ Y (ZlK C (fun _=>E) ta) (fun ρ=>(fa ρ).thenS fun _=>.exc (x,.non)):=fun B H0 H σ ρ F D A d=>by
 refine ha B H0 H σ ρ F [] _ A (d.thenS.imp (fun xs hx d vs H1 F1 s1 f1 p1 A1=>?_) fun e q=>q)
 exact⟨by rw[p1.length,hn ρ xs hx];exact hl,fun ea hea=>d H1 A1.same C ea hC hea⟩
end
theorem PS.nox {X:Cx}{st:Stmt}{t:TS} (h:PS X.nox st t):PS X st t:=fun pins s σ H D I hw =>
 wpAny_mono (h pins s σ H D (I.wish _) hw) (fun _ _ q=>q.unwish) fun _ _ z=>False.elim z
noncomputable def Zqd:V->Value
 |.ref a=>.ref a
 |.ty n=>.type n
 |_=>.none
noncomputable def ZoG:V->Bool
 |.ref _=>true
 |.ty _=>true
 |_=>false
theorem Zpd {c:V}{u:Value} (h:ZoG c=true) (r:Vj c u):u=Zqd c:=by
 cases c<;>first|exact r|cases h
structure IsT (K:PySem.W.Frag) (c:V) (L:List (Str×Bool)):Prop where
 cls:ZoG c=true
 non:PySem.W.kitOne K (.type "NoneType") (Zqd c)=some false
 own:∀n b,L.lookup n=some b->∀D,ZbC K n D->PySem.W.exOk K D=true/\PySem.W.kitOne K (.ref D) (Zqd c)=some b
def ZlD (K:W.Frag) (H:Hp) (n:Str) (v:V):Prop:=Zn0 K H n v\/∃i,ZlE K H n i v
theorem ZlD.inst {X:Cx}{pins:List (Addr×Obj)}{σ:St}{H:Hp}{s:Shared}{n:Str}{v:V} (I:Inv X pins σ H s) (h:ZlD X.K H n v):∃a o C od,v=.ref a/\ZbC X.K n C/\PySem.W.InstAt s.heap a o C od/\∀u,od=some u->PySem.W.lookIn ("called":Str) u=some none:=by
 rcases h with ⟨a,o,C,rfl,h1,h2,h3,h4,h5⟩|⟨i,a,o,C,d,fs,rfl,h1,h1d,h2,h3,h4,h5,rfl⟩
 ·exact⟨a,o,C,none,rfl,h5,⟨(I.hok a _ h1.1).1,h2,h4,by rw[h3];trivial⟩,fun u z=>by cases z⟩
 ·obtain⟨m,n1,n2⟩:=I.hok d _ h1d.1
  obtain⟨ou,hu,hl⟩:=Zdd n1
  refine⟨a,o,C,some ou,rfl,h5,⟨(I.hok a _ h1.1).1,h2,h4,by rw[h3];exact hu⟩,fun u z=>?_⟩
  cases z
  rw[hl]
  have z:=n2 ("called":Str)
  cases q:m ("called":Str) with
  |none=>rfl
  |some y=>rw[q] at z;exact z.elim
def Zq2 (K:W.Frag) (c:V) (L:List (Str×Bool)):List V->Hp->VK->Prop:=fun xs H Q=>∃x,xs=[x,c]/\((x=.non/\Q (.bl false) H)\/∃n b,ZlD K H n x/\L.lookup n=some b/\Q (.bl b) H)
theorem Jr {X:Cx}{K:W.Frag}{c:V}{L:List (Str×Bool)} (T:IsT K c L) (e:X.K=K:=by rfl):ZbD X (.builtin "isinstance") (Zq2 K c L):=by
 subst e
 intro pins s σ H xs us Q I r h
 obtain⟨x,rfl,h⟩:=h
 obtain⟨u,w',rfl,rx,rn⟩:=ZnG r
 obtain rfl:=Zpd T.cls rn
 rcases h with ⟨rfl,q⟩|⟨n,b,hx,hb,q⟩
 ·cases rx
  exact PySem.W.kia_one PySem.W.kitx_none I.kIn True.intro T.non (fun z=>nomatch z) fun tk=>⟨.bl false,H,I.tok _,rfl,q⟩
 ·obtain⟨a,o,C,od,rfl,h5,hI,-⟩:=hx.inst I
  cases rx
  obtain⟨t1,t2⟩:=T.own n b hb C h5
  exact PySem.W.kia_one (PySem.W.kitx_exc t1) I.kIn ⟨o,od,hI⟩ t2 (fun z=>nomatch z) fun tk=>⟨.bl b,H,I.tok _,rfl,q⟩
noncomputable def Zv (L:List (Str×Bool)) (x:PV):Rr PV:=match x with
 |.non=>.ok (.bl false)
 |.exc n=>(match L.lookup n with|some b=>.ok (.bl b)|none=>.bad)
 |.exa n _=>(match L.lookup n with|some b=>.ok (.bl b)|none=>.bad)
 |_=>.bad
section
variable {K:W.Frag}{EX:PX->Hp->Prop}{Γ Γ':List Md}{te:TE}{f:List PV->Rr PV}
theorem Vu {c:V}{L:List (Str×Bool)} (he:DE K EX Γ Γ' .A te f):DE K EX Γ Γ' .P (tCB (Zq2 K c L) (ZcK te (ZcK (tC c) Zko))) (fun ρ=>(f ρ).bind (Zv L)):=fun B H0 H σ ρ F R Q A d=>by
 refine he B H0 H σ ρ F R _ A (d.bind.imp (fun x _ d v H1 s1 r1=>?_) fun e q=>q)
 obtain⟨F1,f1,p1,A1⟩:=r1
 cases x with
 |non=>exact⟨v,rfl,.inl ⟨p1,d _ H1 s1 ⟨F1,f1,rfl,rfl,A1⟩⟩⟩
 |exc n =>
  simp only[Zv] at d
  cases hb:L.lookup n with
  |some b=>rw[hb] at d;exact⟨v,rfl,.inr ⟨n,b,.inl p1,hb,d _ H1 s1 ⟨F1,f1,rfl,rfl,A1⟩⟩⟩
  |none=>rw[hb] at d;exact d.elim
 |exa n i =>
  simp only[Zv] at d
  cases hb:L.lookup n with
  |some b=>rw[hb] at d;exact⟨v,rfl,.inr ⟨n,b,.inr ⟨i,p1⟩,hb,d _ H1 s1 ⟨F1,f1,rfl,rfl,A1⟩⟩⟩
  |none=>rw[hb] at d;exact d.elim
 |_=>exact d.elim
end
def MOk (P:Program) (w:World) (K:W.Frag) (mg:Str->Option Value) (base:Heap) (k:Nat) (m n:Str):Prop:=
 ∃C f fd,ZbC K n C/\PySem.W.exOk K C=true/\PySem.W.findIn K (.ref C) m=some (some (.ref f))/\PySem.W.typeIn K (.ref f)=some (.type "function")/\PySem.W.keepIn K (.ref f)=true/\Zck K fd ["self"] [] /\
  J5 P w K mg base CX0 k f fd ["self"] (spF K 1 .P W0 fun _=>.ok (.str n))
noncomputable def Zi7 (K:W.Frag) (L:List Str) (ta:TE):TE:=fun σ H Q=>ta σ H fun v H1=>∃n,n∈L/\ZlD K H1 n v/\∀H2,ZL H1 H2->Q (.str n) H2
theorem ZiT {X:Cx}{k:Nat}{L:List Str}{o:Expr}{ta:TE}{apos pos:Pos}{pl:Sem Bool} (hM:∀n∈L,MOk X.prog X.w X.K X.mg X.base k "called" n) (hr:ZbB k X.A) (he:PE X o ta)
  (ht:eval (.Call (.Attribute o "called" apos) [] [] pos) X.env=(do
   let ov <- eval o X.env
   standAt apos.atName
   let (f,first) <- holding [ov] (getMethod ov "called" pl)
   callWith pos f first (backTo pos (starEach [] X.env)) (backToKw pos (keywordEach [] X.env))):=by rfl) :
  PE X (.Call (.Attribute o "called" apos) [] [] pos) (Zi7 X.K L ta):=by
 intro pins s σ H Q I h
 refine PySem.W.methodCall_KW (pl:=pl) (thn (he pins s σ H _ I h) fun u s1 ⟨x,H1,I1,rx,n,hn,hx,q⟩=>?_) ht
 obtain⟨a,oe,C,od,rfl,h5,hI,hl⟩:=hx.inst I1
 obtain rfl:u=Value.ref a:=rx
 obtain⟨C',f,fd,c1,c2,c3,c4,c5,c6,c7⟩:=hM n hn
 have hCC:C'=C:=by have z:=c1.symm.trans h5;simpa using z
 subst hCC
 simp only[PySem.W.exOk,Bool.and_eq_true,beq_iff_eq] at c2
 obtain⟨⟨⟨⟨⟨⟨⟨d1,d2⟩,d3⟩,d4⟩,d5⟩,d6⟩,d7⟩,d8⟩:=c2
 refine PySem.W.method_exc I1.kIn hI d1 d2 hl c3 c4 ?_
 refine PySem.W.callWith_K0 (first:=[.ref a]) I1.kIn c5 (ZiH (us:=[.ref a]) (vs:=[.ref a]) (dvs:=[]) (E:=E0) c7 hr c6 .nil ZkK I1 (.cons rfl .nil) ?_)
 have fin:∀v H',ZL H1 H'->ZlC X.K (fun _=>True) H1 .P (.str n) v H'->Q v H':=fun v H' sm r=>by
  obtain rfl:v=.str n:=r.2
  exact q H' sm
 rcases hx with hx|⟨i,hx⟩
 ·exact⟨fun _=>True,[.exc n],⟨_,_,rfl,hx,rfl⟩,rfl,fin⟩
 ·exact⟨fun _=>True,[.exa n i],⟨_,_,rfl,hx,rfl⟩,rfl,fin⟩
noncomputable def Jm (L:List Str) (x:PV):Rr PV:=match x with
 |.exc n=>if n∈L then .ok (.str n) else .bad
 |.exa n _=>if n∈L then .ok (.str n) else .bad
 |_=>.bad
section
variable {K:W.Frag}{EX:PX->Hp->Prop}{Γ Γ':List Md}{te:TE}{f:List PV->Rr PV}
theorem ZjT {L:List Str} (he:DE K EX Γ Γ' .A te f):DE K EX Γ Γ' .P (Zi7 K L te) (fun ρ=>(f ρ).bind (Jm L)):=fun B H0 H σ ρ F R Q A d=>by
 refine he B H0 H σ ρ F R _ A (d.bind.imp (fun x _ d v H1 s1 r1=>?_) fun e q=>q)
 obtain⟨F1,f1,p1,A1⟩:=r1
 cases x with
 |exc n =>
  simp only[Jm] at d
  by_cases hn:n∈L
  ·rw[if_pos hn] at d;exact⟨n,hn,.inl p1,fun H2 s2=>d _ H2 (s1.trans s2) ⟨F1,f1,rfl,rfl,A1.grow s2⟩⟩
  ·rw[if_neg hn] at d;exact d.elim
 |exa n i =>
  simp only[Jm] at d
  by_cases hn:n∈L
  ·rw[if_pos hn] at d;exact⟨n,hn,.inr ⟨i,p1⟩,fun H2 s2=>d _ H2 (s1.trans s2) ⟨F1,f1,rfl,rfl,A1.grow s2⟩⟩
  ·rw[if_neg hn] at d;exact d.elim
 |_=>exact d.elim
end
noncomputable def Zox (Γ:List Md):Bool:=Γ.all fun m=>m==.U || m==.P || m==.S
theorem ZmR {K:W.Frag}{B:Addr->Prop}{H0 H:Hp}{σ:St}{Γ:List Md}{ρ:List PV}{F:Nat->List Addr}{R:List Addr} (h:Zox Γ=true) (A:Ag K B H0 H σ Γ ρ F R):∀i,F i=[]:=fun i=>by
 have sl:=A.slot i
 by_cases hi:i<Γ.length
 ·have hm:=Z0Q.mp h Γ[i] (Z1P hi)
  have e:Γ.getD i .U=Γ[i]:=by rw[Z09,Z0B hi];rfl
  rw[e] at sl
  simp only[Bool.or_eq_true,beq_iff_eq] at hm
  rcases hm with (hm|hm)|hm
  ·rw[hm] at sl;exact sl
  ·rw[hm] at sl;exact sl.1
  ·rw[hm] at sl;exact sl.1
 ·have e:Γ.getD i .U=.U:=by rw[Z09,Z0I (by omega)];rfl
  rw[e] at sl
  exact sl
theorem Ag.near {K:W.Frag}{B:Addr->Prop}{H0 H:Hp}{σ:St}{Γ:List Md}{ρ:List PV}{F:Nat->List Addr} (A:Ag K B H0 H σ Γ ρ F []) (h:∀i,F i=[]):Ag K B H H σ Γ ρ F []:=
 ⟨ZL.refl _,fun a q=>A.own a (A.same.free q),fun i a ha=>by rw[h i] at ha;simp at ha,by simp,A.live,A.liveR,A.disj,A.disjR,A.lenS,A.lenR,A.slot⟩
theorem Ag.far {K:W.Frag}{B:Addr->Prop}{H0 H1 H:Hp}{σ:St}{Γ:List Md}{ρ:List PV}{F:Nat->List Addr} (A:Ag K B H1 H σ Γ ρ F []) (s:ZL H0 H1) (own:∀a,H0 a=none->B a):Ag K B H0 H σ Γ ρ F []:=
 ⟨s.trans A.same,own,fun i a ha=>s.free (A.young i a ha),by simp,A.live,A.liveR,A.disj,A.disjR,A.lenS,A.lenR,A.slot⟩
theorem ZL.newO {H:Hp}{p:Addr}{o:HO} (hp:H p=none):ZL H (L2.upd H p o):=fun b u h=>by rw[L2.Zu (Z0 h hp)];exact h
theorem Ag.unset {K:W.Frag}{B:Addr->Prop}{H0 H:Hp}{σ:St}{Γ Γ':List Md}{ρ:List PV}{F:Nat->List Addr} (i:Nat) (A:Ag K B H0 H σ Γ ρ F []) (h:Zes (Γ.set i .U) Γ'=true) :
  ∃F',(∀i,∀a∈F' i,a∈F i)/\Ag K B H0 H (σ.set i none) Γ' ρ F' []:=by
 have h0:Zes Γ (Γ.set i .U)=true:=by
  have:∀(Γ:List Md) (i:Nat),Zes Γ (Γ.set i .U)=true:=fun Γ=>by
   induction Γ with
   |nil=>intro i;rfl
   |cons m ms ih =>
    intro i
    have refl:∀l:List Md,Zes l l=true:=fun l=>by induction l with|nil=>rfl|cons a l ih=>simp[Zes,mle,ih]
    cases i with
    |zero=>simp[Zes,mle,refl]
    |succ i=>simp[Zes,mle,ih i]
  exact this Γ i
 obtain⟨F1,f1,A1⟩:=A.weak h0
 have hFi:F1 i=[]:=by
  have sl:=A1.slot i
  by_cases hi:i<Γ.length
  ·have e:(Γ.set i .U).getD i .U=.U:=by rw[Z09,Z0M hi];rfl
   rw[e] at sl;exact sl
  ·have e:(Γ.set i .U).getD i .U=.U:=by rw[Z09,Z0I (by simp;omega)];rfl
   rw[e] at sl;exact sl
 have A2:Ag K B H0 H (σ.set i none) (Γ.set i .U) ρ F1 []:=⟨A1.same,A1.own,A1.young,A1.youngR,A1.live,A1.liveR,A1.disj,A1.disjR,by simpa using A1.lenS,A1.lenR,fun j=>by
  by_cases hj:j=i
  ·subst hj
   have e:(Γ.set j .U).getD j .U=.U:=by
    by_cases hi:j<Γ.length
    ·rw[Z09,Z0M hi];rfl
    ·rw[Z09,Z0I (by simp;omega)];rfl
   rw[e];exact hFi
  ·have sl:=A1.slot j
   rw[Z0S (Ne.symm hj)];exact sl⟩
 obtain⟨F3,f3,A3⟩:=A2.weak h
 exact⟨F3,fun j a ha=>f1 j a (f3 j a ha),A3⟩
noncomputable def Zb0 (e:PX):PV:=match e.2 with
 |.int i=>.exa e.1 i
 |_=>.exc e.1
noncomputable def Zpo (L:List Str) (i:Nat) (gb gh:List PV->RS) (ρ:List PV):RS:=match gb ρ with
 |.exc e=>if e.1∈L then gh (ρ.set i (Zb0 e)) else .bad
 |r=>r
section
variable {K:W.Frag}{EX:PX->Hp->Prop}{Γ Γs:List Md}{Y Yh:Tys}{tb:(St->XK)->TS}{th:TS}{gb gh:List PV->RS}{C:Addr}{i:Nat}{L:List Str}
theorem ZoT (hL:∀n∈L,∀D,ZbC K n D->PySem.W.exmOne K (.ref D) (.ref C)=some true) (hb:∀E:XK,DS K (EX1 K E) Γs Y (tb fun _=>E) gb) (hloc:∀(E:St->XK) D σ H,tb (fun _=>E σ) D σ H->tb E D σ H)
  (hh:DS K EX (Γs.set i .P) Yh th gh) (hs:Zes Γ Γs=true) (ho:Zox Γs=true) (hi:i<Γs.length) (hn:Zes (Yh.n.set i .U) Y.n=true) (hbk:Zes (Yh.b.set i .U) Y.b=true) (hct:Zes (Yh.c.set i .U) Y.c=true) (hr:Yh.r=Y.r) :
  DS K EX Γ Y (Zqq K C i tb th) (Zpo L i gb gh):=fun B H0 H σ ρ F D A d=>by
 obtain⟨F1,f1,A1⟩:=A.weak hs
 have hF:=ZmR ho A1
 have AN:=A1.near hF
 refine hloc _ D σ H (hb (Zpx K C i th D σ) B H H σ ρ F1 D AN ?_)
 have frm0:∀{H' F'},Frm H F1 H' F'->Frm H F H' F':=fun {H' F'} fr=>(Frm.of (ZL.refl _) f1).trans fr
 unfold Zpo at d
 cases e:gb ρ with
 |next ρ1=>rw[e] at d;exact fun σ' H' F' fr A'=>d σ' H' F' (frm0 fr) (A'.far A.same A.own)
 |brk ρ1=>rw[e] at d;exact fun σ' H' F' fr A'=>d σ' H' F' (frm0 fr) (A'.far A.same A.own)
 |cont ρ1=>rw[e] at d;exact fun σ' H' F' fr A'=>d σ' H' F' (frm0 fr) (A'.far A.same A.own)
 |ret x =>
  rw[e] at d
  refine fun v H' s r=>d v H' (A.same.trans s) ?_
  cases hk:Y.r with
  |P=>rw[hk] at r;exact r
  |F=>rw[hk] at r;obtain⟨G,r1,r2⟩:=r;exact⟨G,r1,fun a ha=>A.same.free (r2 a ha)⟩
  |T=>rw[hk] at r;exact Rep.mono (fun a us s r=>⟨r,s.elim .inl fun z=>.inr (A.same.free z)⟩) (fun a us r=>r) r
  |Z=>rw[hk] at r;exact Rep.mono (fun a us s r=>⟨r,s.elim .inl fun z=>.inr (A.same.free z)⟩) (fun a us r=>r) r
  |A=>rw[hk] at r;exact Rep.mono (fun a us s r=>⟨r,s.elim .inl fun z=>.inr (A.same.free z)⟩) (fun a us r=>r) r
  |N=>rw[hk] at r;obtain⟨y,a,s,xs,G1,G2,r1,r2,r3,r4,r5,r6⟩:=r;exact⟨y,a,s,xs,G1,G2,r1,r2,r3,r4,fun b hb=>A.same.free (r5 b hb),fun b hb=>A.same.free (r6 b hb)⟩
 |bad=>rw[e] at d;exact d
 |exc q =>
  rw[e] at d
  dsimp only at d
  by_cases hq:q.1∈L
  ·rw[if_pos hq] at d
   intro H' sm C' k hC' hk
   refine⟨hL q.1 hq C' hC',k,rfl,fun ea oe hea hc hdn hnc=>?_⟩
   have s1:ZL H' (upd H' ea (.frz oe (.own ea))):=ZL.newO hea
   have s2:ZL H (upd H' ea (.frz oe (.own ea))):=sm.trans s1
   have A2:Ag K B H0 (upd H' ea (.frz oe (.own ea))) σ Γs ρ F1 []:=A1.grow s2
   have key:∀S:Addr->Prop,PV.flat (Zb0 q)=true/\Rep K (upd H' ea (.frz oe (.own ea))) S (Zb0 q) (.ref ea):=fun S=>by
    obtain⟨qn,qv⟩:=q
    cases qv with
    |non =>
     have hk:H' k=none:=hk
     rcases hdn with ⟨z,_⟩|⟨_,fs,z⟩
     ·exact⟨rfl,ea,oe,C',rfl,⟨ZD,trivial⟩,hc,z,hnc,hC'⟩
     ·rw[hk] at z;cases z
    |int i =>
     obtain⟨fs,z1,z2⟩:=(show ∃fs,H' k=some (.xd fs)/\fs=[(("at":Str),V.int i)] from hk)
     rcases hdn with ⟨_,z⟩|⟨z,_⟩
     ·rw[z,hea] at z1;cases z1
     ·exact⟨rfl,ea,oe,C',k,fs,rfl,⟨ZD,trivial⟩,⟨s1 _ _ z1,trivial⟩,hc,z,hnc,hC',z2⟩
    |_=>exact hk.elim
   have A3:=Ag.put (i:=i) (m:=.P) (x:=Zb0 q) (v:=.ref ea) (G:=[]) (R:=[]) A2 hi (by simp) ⟨rfl,_,rfl,(key fun _=>True).1,(key _).2⟩
   refine hh B H0 _ _ _ _ (unE D i) A3 ?_
   have fr3:Frm H F (upd H' ea (.frz oe (.own ea))) (ZbL F1 i []):=frm0 (Zdl (G:=[]) s2 (fun _ _ h=>h) (by simp))
   cases e2:gh (ρ.set i (Zb0 q)) with
   |next ρ1 =>
    rw[e2] at d
    intro σ' H2 F2 fr A'
    obtain⟨F4,f4,A4⟩:=A'.unset i hn
    exact d _ H2 F4 (fr3.trans (fr.trans (Frm.of (ZL.refl _) f4))) A4
   |brk ρ1 =>
    rw[e2] at d
    intro σ' H2 F2 fr A'
    obtain⟨F4,f4,A4⟩:=A'.unset i hbk
    exact d _ H2 F4 (fr3.trans (fr.trans (Frm.of (ZL.refl _) f4))) A4
   |cont ρ1 =>
    rw[e2] at d
    intro σ' H2 F2 fr A'
    obtain⟨F4,f4,A4⟩:=A'.unset i hct
    exact d _ H2 F4 (fr3.trans (fr.trans (Frm.of (ZL.refl _) f4))) A4
   |ret x=>rw[e2] at d;exact fun v H2 s r=>d v H2 s (hr▸r)
   |exc q2=>rw[e2] at d;exact d
   |bad=>rw[e2] at d;exact d
  ·rw[if_neg hq] at d;exact d.elim
end
noncomputable def Zqp (K:W.Frag) (n:Str):Bool:=match PySem.W.nsIn K mainGlobals n with
 |some (some (.ref C))=>PySem.W.exOk K C&&(PySem.W.kitOne K (.type "NoneType") (.ref C)==some false)&&(PySem.W.kitOne K (.ref C) (.type "ValueError")==some true)
 |_=>false
noncomputable def Zqo (K:W.Frag) (q:Str×Str×Bool):Bool:=match PySem.W.nsIn K mainGlobals q.1,PySem.W.nsIn K mainGlobals q.2.1 with
 |some (some (.ref D)),some (some (.ref C))=>(PySem.W.kitOne K (.ref D) (.ref C)==some q.2.2)&&(PySem.W.exmOne K (.ref D) (.ref C)==some q.2.2)
 |_,_=>false
noncomputable def Zkn (K:W.Frag) (ns:List Str) (ss:List (Str×Str×Bool)):Bool:=(PySem.W.kitOne K (.type "NoneType") (.type "ValueError")==some false)&&(ns.all (Zqp K)&&ss.all (Zqo K))
section
variable {K:W.Frag}{ns:List Str}{ss:List (Str×Str×Bool)}{n c:Str}
theorem Ji (h:Zkn K ns ss=true) (hn:n∈ns):∃C,ZbC K n C/\True/\PySem.W.exOk K C=true/\PySem.W.kitOne K (.type "NoneType") (.ref C)=some false/\PySem.W.kitOne K (.ref C) (.type "ValueError")=some true:=by
 simp only[Zkn,Bool.and_eq_true] at h
 have:=Z0Q.mp h.2.1 n hn
 unfold Zqp at this
 split at this
 ·rename_i C e
  simp only[Bool.and_eq_true,beq_iff_eq] at this
  exact⟨C,e,trivial,this.1.1,this.1.2,this.2⟩
 ·cases this
noncomputable def Zmu (K:W.Frag) (ns:List Str):Bool:=ns.all fun n=>match PySem.W.nsIn K mainGlobals n with
 |some (some (.ref C))=>PySem.W.excIn K C Zmq "ValueError.__new__"
 |_=>false
theorem J6 (h:Zmu K ns=true) (hn:n∈ns):∃C,ZbC K n C/\PySem.W.excIn K C Zmq "ValueError.__new__"=true:=by
 have:=Z0Q.mp h n hn
 split at this
 ·rename_i C e
  exact⟨C,e,this⟩
 ·cases this
theorem ZbC.inj {C D:Addr} (a:ZbC K n C) (b:ZbC K n D):C=D:=by have z:=a.symm.trans b;simpa using z
theorem Zg2 (h:Zkn K ns ss=true) {b:Bool} (hm:(n,c,b)∈ss) {D C:Addr} (hD:ZbC K n D) (hC:ZbC K c C):PySem.W.kitOne K (.ref D) (.ref C)=some b/\PySem.W.exmOne K (.ref D) (.ref C)=some b:=by
 simp only[Zkn,Bool.and_eq_true] at h
 have:=Z0Q.mp h.2.2 _ hm
 unfold Zqo at this
 have hD':PySem.W.nsIn K mainGlobals n=some (some (.ref D)):=hD
 have hC':PySem.W.nsIn K mainGlobals c=some (some (.ref C)):=hC
 simp only[hD',hC',Bool.and_eq_true,beq_iff_eq] at this
 exact this
theorem ZcY {L:List (Str×Bool)}{b:Bool} (h:L.lookup n=some b):(n,b)∈L:=PySem.mem_of_lookup h
theorem Ju {L:List (Str×Bool)} (h:Zkn K ns ss=true) (hc:c∈ns) (hL:(L.all fun p=>ns.contains p.1&&ss.contains (p.1,c,p.2))=true):∃C,ZbC K c C/\IsT K (.ref C) L:=by
 obtain⟨C,e,_,_,e2,_⟩:=Ji h hc
 refine⟨C,e,rfl,e2,fun n b hb D hD=>?_⟩
 have:=Z0Q.mp hL _ (ZcY hb)
 simp only[Bool.and_eq_true,Z1f] at this
 obtain⟨D',d1,_,d2,_⟩:=Ji h this.1
 obtain rfl:=d1.inj hD
 exact⟨d2,(Zg2 h this.2 hD e).1⟩
theorem Zkv {L:List (Str×Bool)} (h:Zkn K ns ss=true) (hL:(L.all fun p=>ns.contains p.1&&p.2)=true):IsT K (.ty "ValueError") L:=by
 have h0:=h
 simp only[Zkn,Bool.and_eq_true,beq_iff_eq] at h0
 refine⟨rfl,h0.1,fun n b hb D hD=>?_⟩
 have:=Z0Q.mp hL _ (ZcY hb)
 simp only[Bool.and_eq_true,Z1f] at this
 obtain⟨D',d1,_,d2,_,d3⟩:=Ji h this.1
 obtain rfl:=d1.inj hD
 have hb':b=true:=this.2
 rw[hb']
 exact⟨d2,d3⟩
theorem Zkw {L:List Str}{C:Addr} (h:Zkn K ns ss=true) (hC:ZbC K c C) (hL:(L.all fun n=>ss.contains (n,c,true))=true):∀n∈L,∀D,ZbC K n D->PySem.W.exmOne K (.ref D) (.ref C)=some true:=fun n hn D hD=>by
 have:=Z0Q.mp hL n hn
 exact(Zg2 h (Z1f.mp this) hD hC).2
end
def Ze5 (K:W.Frag) (n m qual:Str) (st:Stmt):Prop:=∃C f fd,ZbC K n C/\PySem.W.findIn K (.ref C) m=some (some (.ref f))/\PySem.W.typeIn K (.ref f)=some (.type "function")/\Fun K m qual st f fd
theorem Ze3:bootBuiltins "ValueError"=some (.type "ValueError"):=by decide +kernel
theorem ZmD {X:Cx}:Zkk X (fun _=>E0):=fun _ _ _ _ _ _ _ h=>by obtain⟨_,_,_,_,_,_,q⟩:=h;exact q.elim
section
variable {K:W.Frag}{n:Nat}{m:List PV->Rr PV}{ta:TA}{Γ Γ':List Md}{fa:List PV->Rr (List PV)}
theorem ZqR (hn:Len fa n) (ha:DAA K X0 Γ Γ' ta fa):DE K X0 Γ Γ' .P (ZeA (spF K n .P (W1 K) m) (fun _=>E0) ta) (fun ρ=>(fa ρ).bind m):=Ze2 (E:=E0) (W:=W1 K) (fun σ H Q h=>h) (fun e H' h=>h.elim) hn ha
end
noncomputable def Zn3 (L:List Str) (i:Nat) (gh:List PV->RS) (ρ:List PV) (r:RS):RS:=match r with
 |.exc e=>if e.1∈L then gh (ρ.set i (Zb0 e)) else .bad
 |r=>r
@[simp] theorem Zmy {L:List Str}{i:Nat}{gb gh:List PV->RS}{ρ:List PV}:Zpo L i gb gh ρ=Zn3 L i gh ρ (gb ρ):=by
 unfold Zpo Zn3
 cases gb ρ<;>rfl
@[simp] theorem Zk1 {L:List Str}{i:Nat}{gh:List PV->RS}{ρ:List PV}{n:Str}:Zn3 L i gh ρ (.exc (n,.non))=if n∈L then gh (ρ.set i (.exc n)) else .bad:=rfl
@[simp] theorem Zk2 {L:List Str}{i:Nat}{gh:List PV->RS}{ρ:List PV}{n:Str}{j:Int}:Zn3 L i gh ρ (.exc (n,.int j))=if n∈L then gh (ρ.set i (.exa n j)) else .bad:=rfl
theorem Zb {L:List (Str×Bool)}{n:Str}{b:Bool} (h:L.lookup n=some b):Zv L (.exc n)=.ok (.bl b):=by unfold Zv;simp only[h]
theorem Jv {L:List (Str×Bool)}{n:Str}{i:Int}{b:Bool} (h:L.lookup n=some b):Zv L (.exa n i)=.ok (.bl b):=by unfold Zv;simp only[h]
theorem ZfW {L:List Str}{n:Str}{i:Int} (h:n∈L):Jm L (.exa n i)=.ok (.str n):=by unfold Jm;simp only[if_pos h]
theorem ZX {L:List Str}{n:Str} (h:n∈L):Jm L (.exc n)=.ok (.str n):=by unfold Jm;simp only[if_pos h]
section
end
theorem Zjm {x:Str} (h:PyData.canLay0 (.str x)=true):okD (.str x)=true:=by simp[okD,PV.noX,PV.dat,PyData.depth,h]
theorem J1 {g:Bool->Bool}{a b:Str} (ha:PyData.canLay0 (.str a)=true) (hb:PyData.canLay0 (.str b)=true):ZbP g (.str a) (.str b)=.ok (.bl (g (a==b))):=by
 unfold ZbP
 rw[Zjm ha,Zjm hb]
 simp only[Bool.and_self,if_true,PV.dat,PyData.eqv]
section
end
theorem ZN {ns ms:List Int}:ns.map PV.int=ms.map PV.int ↔ ns=ms:=⟨JE,fun h=>by rw[h]⟩
noncomputable def orX (o:Option Str) (x:PV):Rr PV:=match o with
 |none=>.ok x
 |some n=>.exc (n,.non)
theorem Zdm {b:PV->List PV->RS}{xs:List PV}{ρ:List PV}{W:RS} (hw:Zea b xs ρ=W) (I:Nat->List PV->Prop) (h0:I 0 ρ) (h:∀i x ρ,xs[i]?=some x->I i ρ->(b x ρ).good (I (i+1))) :
  ∃ρ',W=.next ρ'/\I xs.length ρ':=by
 obtain⟨ρ',h1,h2⟩:=Zho I h0 h
 exact⟨ρ',hw.symm.trans h1,h2⟩
theorem Zfl {b:PV->List PV->RS}{xs:List PV}{ρ:List PV}{W:RS} (hw:Zea b xs ρ=W) (n:Nat) (I:Nat->List PV->Prop) (h0:I 0 ρ) (h:∀i x ρ,i<n->xs[i]?=some x->I i ρ->(b x ρ).good (I (i+1)))
  (hn:n<xs.length) {v:PV} (hr:∀x ρ,xs[n]?=some x->I n ρ->b x ρ=.ret v):W=.ret v:=by
 subst hw
 have key:∀m i ρ,n=i+m->I i ρ->Zea b (xs.drop i) ρ=.ret v:=by
  intro m
  induction m with
  |zero =>
   intro i ρ hl hI
   have hi:i<xs.length:=by omega
   rw[Z0Y hi]
   obtain rfl:n=i:=by omega
   simp only[Zea,hr _ ρ (Z0B hi) hI]
   rfl
  |succ m ih =>
   intro i ρ hl hI
   have hi:i<xs.length:=by omega
   rw[Z0Y hi]
   obtain⟨ρ',h1,h2⟩:=RS.good_ex (h i _ ρ (by omega) (Z0B hi) hI)
   simp only[Zea]
   rcases h1 with h1|h1<;>(rw[h1];exact ih (i+1) ρ' (by omega) h2)
 exact key n 0 ρ (by omega) h0
theorem ZfB {c:List PV->Rr Bool}{b:List PV->RS}{ρ:List PV}{W:RS} (hw:Zbt c b ρ=W) (N:Nat) (I:Nat->List PV->Prop) (h0:I 0 ρ) (hs:∀i ρ,i<N->I i ρ->c ρ=.ok true/\(b ρ).good (I (i+1))) (he:∀ρ,I N ρ->c ρ=.ok false) :
  ∃ρ',W=.next ρ'/\I N ρ':=by
 subst hw
 have key:∀m i ρ,N=i+m->I i ρ->∃ρ',Uh c b (m+1) ρ=some (.next ρ')/\I N ρ':=by
  intro m
  induction m with
  |zero =>
   intro i ρ hl hI
   obtain rfl:N=i:=by omega
   refine⟨ρ, ?_,hI⟩
   unfold Uh
   rw[he ρ hI]
  |succ m ih =>
   intro i ρ hl hI
   obtain⟨h1,h2⟩:=hs i ρ (by omega) hI
   obtain⟨ρ',h3,h4⟩:=RS.good_ex h2
   obtain⟨ρ2,h5,h6⟩:=ih (i+1) ρ' (by omega) h4
   refine⟨ρ2, ?_,h6⟩
   unfold Uh
   rw[h1]
   rcases h3 with h3|h3<;>(rw[h3];exact h5)
 obtain⟨ρ',h1,h2⟩:=key N 0 ρ (by omega) h0
 exact⟨ρ',ZbQ h1,h2⟩
theorem Zga {f:PV->Rr PV}{g:Int->Bool}{ns:List Int} (h:∀z∈ns,f (.int z)=.ok (.bl (g z))):Zf7 f (ns.map PV.int)=.ok ((ns.map g).map PV.bl):=by
 induction ns with
 |nil=>rfl
 |cons n ns ih =>
  simp only[Z0R,Zf7,h n (by simp),Rr.bind_ok,ih fun z hz=>h z (by simp[hz])]
theorem Zhb {f:PV->Rr PV}{g:Nat->Bool}{lo:Int}{n:Nat} (h:∀i,i<n->f (.int (lo+(i:Nat)))=.ok (.bl (g i))):Zf7 f (ZhC lo n)=.ok (((List.range n).map g).map PV.bl):=by
 unfold ZhC
 have:∀l:List Nat,(∀i∈l,i<n)->Zf7 f (l.map fun(k:Nat)=>PV.int (lo+(k:Int)))=.ok ((l.map g).map PV.bl):=by
  intro l
  induction l with
  |nil=>intro _;rfl
  |cons a l ih =>
   intro hl
   simp only[Z0R,Zf7,h a (hl a (by simp)),Rr.bind_ok,ih fun i hi=>hl i (by simp[hi])]
 exact this _ fun i hi=>Z1a.mp hi
theorem ZkU (bs:List Bool):Zop [.lst (bs.map PV.bl)]=.ok (.bl (bs.all id)):=by simp only[Zop,Zkb]
theorem Zgu {ns:List Int}{p:Int->Prop} [DecidablePred p]:(ns.map fun z=>decide (p z)).all id=decide (∀x∈ns,p x):=by
 rw[Bool.eq_iff_iff,Z0Q,decide_eq_true_iff]
 simp
theorem Zom {i j:Int} (h1:-(10^80)<=i) (h2:i<=10^80) (h3:-(10^80)<=j) (h4:j<=10^80):ZpI (.int i) (.int j)=.ok (.int (i*j)):=Zja (ZjW 80 80 (by omega) (by omega))
theorem ZkO {k:Int}{z:Int} (h1:-(2^63)<=k) (h2:k<=1000000):ZmF [.int z] (.int k)=.ok (.lst ((List.replicate k.toNat z).map PV.int)):=by
 have:=ZiX (ns:=[z]) (k:=k) (by simp;omega) h1 (by omega)
 simp only[Z0R,Z1I] at this
 rw[this,List.flatten_replicate_singleton]
theorem ZgM {ns:List Int} (h:ns≠[]):pIx (.lst (ns.map PV.int)) (.int (-1))=.ok (.int (ns.getD (ns.length-1) 0)):=by
 have hl:0<ns.length:=Z1y.mpr h
 have:atI (ns.map PV.int) (-1)=some (.int (ns.getD (ns.length-1) 0)):=by
  unfold atI ixN
  rw[if_neg (by omega),Z0K,if_pos (by omega)]
  show (ns.map PV.int)[(-1+(ns.length:Int)).toNat]?=_
  rw[show (-1+(ns.length:Int)).toNat=ns.length-1 by omega,Z0N,Z0B (by omega),Z09,Z0B (by omega)]
  rfl
 simp only[pIx,this]
theorem ZkX {x:PV}:orX none x=.ok x:=rfl
theorem ZkW {x:PV}{n:Str}:orX (some n) x=.exc (n,.non):=rfl
theorem Zjs {ns:List Int}{z:Int} (h:ns.length<1000000):newF (ns.map PV.int++[.int z])=.ok (.lst ((ns++[z]).map PV.int)):=ZgX (ms:=[z]) (by simp only[Z0T,Z14,Z0Z];omega)
theorem Zmx {L:List Str}{i:Nat}{gh:List PV->RS}{ρ:List PV}{n:Str} (h:n∈L):Zn3 L i gh ρ (.exc (n,.non))=gh (ρ.set i (.exc n)):=by rw[Zk1,if_pos h]
theorem ZiK {n:Nat}:List.replicate (n+1) PV.non=PV.non::List.replicate n PV.non:=rfl
theorem ZiJ:List.replicate 0 PV.non=[]:=rfl
theorem ZmG {a b:PV}:ZlU [.tup [a,b]]=.ok (.int 2):=rfl
section
end
theorem Zlr {a:Str}{b:Int}:grd (.tup [.str a,.int b])=.ok (.tup [.str a,.int b]):=rfl
theorem ZkQ {g:Bool->Bool}:Zq4 g .non=.ok (.bl (g true)):=rfl
section
variable {X:Cx}{pins:List (Addr×Obj)}{σ:St}{H:Hp}{s:Shared}{h':Heap}
theorem Inv.turned2 {t':Nat}{it e:Addr} (I:Inv X pins σ H s) (k:∀b o,b≠e->b≠it->s.heap.get? b=some o->h'.get? b=some o)
  (f:∀b,b=e\/b=it->H b=none/\b≠X.env.locals/\(b∈X.ex\/X.s₀.heap.objs.size<=b)/\(∀x c,X.env.cells.lookup x=some c->c≠b)/\∀p∈X.pn++pins,p.1≠b):Inv X pins σ H { s with heap:=h',toks:=t' }:=by
 have nit:∀b u,H b=some u->b≠e/\b≠it:=fun b u q=>by
  refine⟨fun z=>?_,fun z=>?_⟩
  ·rw[z,(f e (.inl rfl)).1] at q;cases q
  ·rw[z,(f it (.inr rfl)).1] at q;cases q
 refine I.step (g':=s.gens) (d':=s.drawn) (ch:=[e,it]) (fun b hb=>?_) (fun b o _ _ hc q _=>k b o (fun z=>hc (by simp[z])) (fun z=>hc (by simp[z])) q) (fun b o _ _ hc q _=>⟨o.slots,k b o (fun z=>hc (by simp[z])) (fun z=>hc (by simp[z])) q⟩) (fun _ _ _ _ n=>n)
  (fun b o hc q=>⟨o,k b o (fun z=>hc (by simp[z])) (fun z=>hc (by simp[z])) q⟩) (fun _ _ q=>q) (fun _ _ _ q=>q) (fun b ps q=>⟨#[],by rw[q];simp⟩) (fun m hm=>?_) (fun b u q=>?_) I.bare
 ·obtain⟨g0,g1,g2,g3,g4⟩:=f b (by simpa using hb)
  exact⟨g2,g1,g3,g4⟩
 ·obtain⟨o,es,ep,ho,r⟩:=hm
  exact⟨o,es,ep,k _ o (Ne.symm (f e (.inl rfl)).2.1) (Ne.symm (f it (.inr rfl)).2.1) ho,r⟩
 ·refine(I.hok b u q).stay (fun c v hc q2=>?_) (fun _ q2=>q2) fun _ _ q2=>q2
  have:c≠e/\c≠it:=by
   rcases hc with z|z
   ·rw[z];exact nit b u q
   ·exact nit c _ z
  exact k c v this.1 this.2 q2
theorem Inv.adoptT {D:Addr}{ys:List V}{its:List Value} (I:Inv X pins σ H s) (hn:H D=none) (h1:X.s₀.heap.objs.size<=D) (hL:D≠X.env.locals) (hc:∀x c,X.env.cells.lookup x=some c->c≠D)
  (hp:∀p∈X.pn++pins,p.1≠D) (ho:s.heap.get? D=some { cls:=.type "tuple",data:=.seq its.toArray }) (r:JD ys its) (hz:ys.length<=sizeLine):Inv X pins σ (upd H D (.tup ys)) s:=by
 refine I.step (h':=s.heap) (g':=s.gens) (d':=s.drawn) (t':=s.toks) (ch:=[D]) (fun b hb=>?_) (fun b o _ _ _ e _=>e) (fun b o _ _ _ e _=>⟨o.slots,e⟩) (fun b o hb _ e=>?_) (fun b o _ e=>⟨o,e⟩)
  (fun b xs e=>?_) (fun b o u e=>?_) (fun b ps e=>⟨#[], ?_⟩) (fun m hm=>hm) (fun b u e=>?_) I.bare
 ·have e:b=D:=by simpa using hb
  subst e
  exact⟨.inr h1,hL,hc,hp⟩
 ·rw[Zu (by simpa using hb)];exact e
 ·rw[Zu (Z0 e hn)];exact e
 ·rw[Zu (Z0 e hn)];exact e
 ·rw[Zu (Z0 e hn),e];simp
 ·by_cases hb:b=D
  ·subst hb
   rw[ZD] at e;cases e
   exact⟨hz,its,r,_,ho,rfl,_,rfl⟩
  ·rw[Zu hb] at e
   exact(I.hok b u e).stay (fun c v _ q=>q) (fun c q=>by rw[Zu (Z0 q hn)];exact q) fun c xs q=>by rw[Zu (Z0 q hn)];exact q
end
noncomputable def Ite (K:W.Frag) (a:Addr):It:=
 ⟨fun i H=>∃xs x,SqL K H a xs/\xs[i]?=some x,fun i H v H'=>∃t x,v=.ref t/\H t=none/\H'=upd H t (.tup [.int i,x])/\∀xs,SqL K H a xs->xs[i]?=some x,fun i H=>∃xs,SqL K H a xs/\xs.length<=i⟩
theorem Zi1 {P:Program}{w:World}{K:W.Frag}{elts:List Expr}{x1:Nat}{tpos:Pos} (a e it:Addr) (hne:e≠it):Znw P w K (.Tuple elts x1 tpos) (Ite K a) [e,it] e (fun i h=>∃old,IsEnum h e it i old/\h.IsListIter it a i) where
 mem:=by simp
 obj:=fun i h ⟨old,s1,s2⟩ b hb=>by
  rcases Z0G.mp hb with z|z
  ·subst z
   exact⟨_,s1,fun v z=>by
    have z':Data.fields _=Data.cell v:=z
    cases z'⟩
  ·have z:b=it:=by simpa using z
   subst z
   obtain⟨o,e,c,d⟩:=s2
   exact⟨o,e,fun v z=>by rw[d] at z;cases z⟩
 keep:=fun i h h' ⟨old,s1,s2⟩ k=>⟨old,k e (by simp) _ s1,s2.at fun o q=>k it (by simp) o q⟩
 item:=by
  intro X hP hw hK hc i pins s σ H E I hf ⟨old,s1,s2⟩ hg
  subst hP hw hK
  obtain⟨xs,x,hq,hx⟩:=hg
  obtain⟨its,rv,p,hz⟩:=I.list hq
  obtain⟨u,hu,ru⟩:=rv.get hx
  have fz:∀b,b=e\/b=it->H b=none/\b≠X.env.locals/\(b∈X.ex\/X.s₀.heap.objs.size<=b)/\(∀x c,X.env.cells.lookup x=some c->c≠b)/\∀p∈X.pn++pins,p.1≠b:=fun b hb=>by
   obtain⟨f0,f1,f2,f3,f4,f5⟩:=hf b (by simpa using hb)
   exact⟨f0,f1,f3,f4,f5⟩
  refine wpAny_pyNext_enum_item s1 s2 p.isList (x:=u) (by simpa using hu) hne fun h1 e1 i1 t1 z1 k1=>?_
  refine⟨_,rfl, ?_⟩
  refine wpAny_letOwnedTupleGo_enum e1 fun h2 e2 sb2=>?_
  have I2:Inv X pins σ H { s with heap:=h2,toks:=s.toks+1 }:=I.turned2 (fun b o n1 n2 q=>sb2.extBut b o n1 (k1 b o n1 n2 q)) fz
  have hfr:=I.hok.fresh (Z0D s.heap.objs.size)
  have het:s.heap.objs.size≠e:=Z1H (Heap.lt_size s1)
  have fsz:=I.fpOk (H':=H) (Z0D s.heap.objs.size) hfr
  obtain⟨g0,g1,g2,g3,g4,g5⟩:=fsz
  have I3:=I2.adoptT (D:=s.heap.objs.size) (ys:=[.int i,x]) (its:=[.int i s.toks,u]) hfr I.sz g1 g4 g5 (sb2.extBut _ _ het t1) (.cons ⟨_,rfl⟩ (.cons ru .nil)) (show 2<=sizeLine by decide)
  refine⟨.ref s.heap.objs.size,_,I3,rfl,⟨_,x,rfl,hfr,rfl,fun ys hy=>by rw[I.list_inj hy hq];exact hx⟩,⟨u,by
   have:((i+1:Nat):Int)=(i:Int)+1:=by omega
   rw[this];exact e2,i1.extBut sb2.extBut (Ne.symm hne)⟩,fun b hb=>?_⟩
  have hbn:b≠s.heap.objs.size:=by
   rcases Z0G.mp hb with z|z
   ·rw[z];exact het.symm
   ·have z:b=it:=by simpa using z
    obtain⟨o,q,_⟩:=s2
    rw[z];exact Z0O (Heap.lt_size q)
  rw[Zu hbn]
  exact(hf b hb).1
 done:=by
  intro X hP hw hK hc i pins s σ H E I hf ⟨old,s1,s2⟩ hg
  subst hP hw hK
  obtain⟨xs,hq,hx⟩:=hg
  obtain⟨its,rv,p,hz⟩:=I.list hq
  obtain⟨f0,f1,f2,f3,f4,f5⟩:=hf it (by simp)
  have hl:=rv.length
  exact wpAny_pyNext_enum_end (I.ok.hd hc) s1 s2 p.isList (by simp;omega) fun h' eb=>⟨rfl,I.turned (t':=s.toks) (fun b o hb q=>eb b o hb q) f0 f1 f3 f4 f5⟩
 self:=fun _ _ _ _ _ ⟨old,st,_⟩ h=>wpAny_pyIter_enum st h
section
variable {X:Cx}{elts:List Expr}{x1:Nat}{tpos:Pos}
noncomputable def Zlo (K:W.Frag) (tl:TA):TI:=fun σ H R=>tl σ H fun vs H1=>∃a,vs=[.ref a]/\(∃xs,SqL K H1 a xs)/\R (Ite K a) H1
theorem Zfz:bootBuiltins "enumerate"=some (.type "enumerate"):=by decide +kernel
theorem Zm7 {l:Expr}{tl:TA}{p pos:Pos} (hg:Gl X "enumerate") (hm:X.mg "enumerate"=none) (ha:PA X [l] tl) (hs:starEach [l] X.env=[(false,eval l X.env)]:=by rfl):PI X (.Tuple elts x1 tpos) (.Call (.Name "enumerate" p) [l] [] pos) (Zlo X.K tl):=by
 intro pins s σ H R I h
 refine Call_ (ZeW I hg hm Zfz (PyProof.Rows.callWith_type1 (thn (ha pos pins s σ H _ I h) fun us s1 ⟨vs,H1,I1,r1,q1⟩=>?_) hs rfl))
 obtain⟨a,e,⟨xs,hq⟩,q⟩:=q1
 subst e
 cases r1 with
 |cons r rr =>
  cases rr
  cases r
  obtain⟨its,rv,pl,hz⟩:=I1.list hq
  refine call_enumerate_list pl.isList fun h' e1 i1 z1 k1=>?_
  refine wpAny_pyIter_enum e1 ?_
  have I2:Inv X pins σ H1 { s1 with heap:=h' }:=I1.kept (t':=s1.toks) k1
  refine⟨s1.heap.objs.size+1,[s1.heap.objs.size+1,s1.heap.objs.size],_,_,H1,rfl,I2,Zi1 a _ _ (Nat.succ_ne_self _),⟨_,e1,i1⟩,fun b hb=>?_,q⟩
  have hb':s1.heap.objs.size<=b:=by
   rcases Z0G.mp hb with z|z
   ·rw[z];exact Z1K _
   ·have z:b=s1.heap.objs.size:=by simpa using z
    rw[z];exact Z0D _
  exact I1.fpOk hb' (I1.hok.fresh hb')
theorem Zem {K:W.Frag}{l:Expr}{tl:TA}{p pos:Pos} (hg:Gl X "enumerate") (hm:X.mg "enumerate"=none) (ha:PA X [l] tl) (hs:starEach [l] X.env=[(false,eval l X.env)]:=by rfl) (e:X.K=K:=by rfl):PI X (.Tuple elts x1 tpos) (.Call (.Name "enumerate" p) [l] [] pos) (Zlo K tl):=by subst e;exact Zm7 hg hm ha hs
end
noncomputable def ZaO (xs:List PV):List PV:=xs.mapIdx fun i x=>.tup [.int (i:Nat),x]
section
variable {K:W.Frag}{H:Hp}{EX:PX->Hp->Prop}{Γ Γ':List Md}
theorem Zhg {a:Addr}{xs:List PV}{S:Addr->Prop} (h:Rep K H S (.lst xs) (.ref a)):ItP K S (Ite K a) (ZaO xs) H:=by
 obtain⟨a',vs,e,hn,hr⟩:=h
 cases e
 intro i
 constructor
 ·intro x hx
  unfold ZaO at hx
  rw[Z1t] at hx
  cases hxi:xs[i]? with
  |none=>rw[hxi] at hx;cases hx
  |some y =>
   rw[hxi] at hx
   cases hx
   obtain⟨u,e1,e2⟩:=hr.get hxi
   refine⟨⟨vs,u,ZaP hn,e1⟩,fun v H' ⟨t,z,e3,e4,e5,e6⟩=>?_⟩
   have:=e6 vs (ZaP hn)
   rw[e1] at this;cases this
   subst e3 e5
   have sm:ZL H (upd H t (.tup [.int i,u])):=ZL.upd (ZL.refl H) e4
   exact⟨sm,t,_,rfl,⟨ZD,trivial⟩,⟨_,_,rfl,rfl,_,_,rfl,e2.same sm,rfl⟩⟩
 ·intro hx
  unfold ZaO at hx
  rw[Z1t] at hx
  have:xs[i]?=none:=by cases hxi:xs[i]? with
   |none=>rfl
   |some y=>rw[hxi] at hx;cases hx
  exact⟨vs,ZaP hn,by rw[hr.length];exact Z1b.mp this⟩
noncomputable def ZmK (xs:List PV):Rr (List PV):=match xs with
 |[.lst ys]=>.ok (ZaO ys)
 |_=>.bad
theorem ZjN {ta:TA}{fa:List PV->Rr (List PV)} (ha:DAZ K EX Γ Γ' ta fa):DI K EX Γ Γ' (Zlo K ta) (fun ρ=>(fa ρ).bind ZmK):=fun B H0 H σ ρ F R Q A d=>by
 refine ha B H0 H σ ρ F R _ A (d.bind.imp (fun xs _ d vs H1 F1 s1 f1 p1 A1=>?_) fun e q=>q)
 unfold ZmK at d
 split at d
 ·rename_i ys
  obtain⟨v,rfl,h1⟩:=ZcM p1
  obtain⟨a,us,rfl,hn,hr⟩:=id h1
  exact⟨a,rfl,⟨us,ZaP hn⟩,d _ H1 F1 s1 f1 A1 fun H2 F2 h=>Zhg (h1.frm h A1)⟩
 ·exact d.elim
noncomputable def ZgO (xs:List PV):Rr (List PV):=match xs with
 |[.lst ys]=>if PV.flats ys=true then .ok (ZaO ys) else .bad
 |_=>.bad
theorem Zib {ys:List PV} (h:PV.flats ys=true):PV.flats (ZaO ys)=true:=by
 have key:∀(ys:List PV) (g:Nat->Int),PV.flats ys=true->PV.flats (ys.mapIdx fun i x=>PV.tup [.int (g i),x])=true:=by
  intro ys
  induction ys with
  |nil=>intro g _;rfl
  |cons y ys ih =>
   intro g hf
   simp only[PV.flats,Bool.and_eq_true] at hf
   rw[List.mapIdx_cons]
   simp only[PV.flats,PV.flat,hf.1,Bool.and_self,Bool.true_and]
   exact ih _ hf.2
 exact key ys _ h
theorem Zly {ta:TA}{fa:List PV->Rr (List PV)} (ha:DAA K EX Γ Γ' ta fa):DIc K EX Γ Γ' (Zlo K ta) (fun ρ=>(fa ρ).bind ZgO):=fun B H0 H σ ρ F R Q A d=>by
 refine ha B H0 H σ ρ F R _ A (d.bind.imp (fun xs _ d vs H1 F1 s1 f1 p1 A1=>?_) fun e q=>q)
 have d':=d
 unfold ZgO at d'
 split at d'
 next ys _ =>
  by_cases hf:PV.flats ys=true
  ·simp only[hf,if_true] at d'
   obtain⟨v,rfl,h1⟩:=ZcM p1
   obtain⟨a,us,rfl,hn,hr⟩:=id h1
   exact⟨a,rfl,⟨us,ZaP (S:=fun _=>True) hn⟩,d' _ H1 F1 s1 f1 A1 fun H2 F2 s2 _=>ItP.flat (Zib hf) (Zhg (h1.same s2))⟩
  ·simp only[hf] at d';exact d'.elim
 next=>exact d'.elim
theorem ZhJ {ns:List Int}:ZgO [.lst (ns.map PV.int)]=.ok (ZaO (ns.map PV.int)):=by unfold ZgO;simp only[Zdo,if_true]
theorem ZkS {ys:List PV}:ZmK [.lst ys]=.ok (ZaO ys):=rfl
theorem Zgl (xs:List PV):(ZaO xs).length=xs.length:=by simp[ZaO]
variable {prog:Program}{w:World}{A:Around}{R:Result->Shared->Prop}{s:Shared}
theorem ZbN {elt target iter:Expr}{ifs:List Expr}{scope:Scope}{pos:Pos}{it acc:Value}{env:Env} (I:Nat->Shared->Prop)
  (turn:∀n s,I n s->wpAny (model prog w) A (pyNext it) (fun r s₁=>match r with
   |none=>R (.ok .next) s₁
   |some v=>wpAny (model prog w) A (letOwnedTupleGo target it v) (fun _ s₁'=>wpAny (model prog w) A (assign target env v) (fun _ s₂ =>
     wpAny (model prog w) A (forIn ifs true fun c r=>if r=true then do let ok <- isTrue c env (eval c env);pure (ForInStep.yield ok) else pure (ForInStep.yield r)) (fun ok s₃ =>
      if ok=true then wpAny (model prog w) A (eval elt env) (fun x s₄ =>
       wpAny (model prog w) A (call (.builtin "list.append") [acc,x]) (fun _ s₅=>∃m,m<n/\I m s₅) (notedBy (model prog w) A env fun e s'=>R (.error e) s') s₄) (notedBy (model prog w) A env fun e s'=>R (.error e) s') s₃
      else ∃m,m<n/\I m s₃) (notedBy (model prog w) A env fun e s'=>R (.error e) s') s₂) (notedBy (model prog w) A env fun e s'=>R (.error e) s') s₁') (notedBy (model prog w) A env fun e s'=>R (.error e) s') s₁) (notedBy (model prog w) A env fun e s'=>R (.error e) s') s)
  (n:Nat) (h:I n s) :
  codeAny (model prog w) A (.compLoop (.ListComp elt [⟨target,iter,ifs,0⟩] scope pos) 0 it acc env) R s:=by
 refine codeAny_loop rfl I (fun n s hI=>?_) n h
 show wpAny _ A ((compTurn (.ListComp elt [⟨target,iter,ifs,0⟩] scope pos) 0 it acc env).onRaise (fun x=>do noteFrame x env;theTreesLotGoes x)) _ _ s
 refine wpAny_noted ?_
 rw[compTurn_list]
 refine wpAny_bind (wpAny_standAt (wpAny_bind (wpAny_mono (turn n s hI) (fun r s₁ h₁=>?_) fun _ _ h'=>h')))
 cases r with
 |none=>exact wpAny_pure h₁
 |some v =>
  refine wpAny_bind (wpAny_mono h₁ (fun _ s₁' h₁'=>?_) fun _ _ h'=>h')
  refine wpAny_bind (wpAny_mono h₁' (fun _ s₂ h₂=>wpAny_bind (wpAny_mono h₂ (fun ok s₃ h₃=>?_) fun _ _ h'=>h')) fun _ _ h'=>h')
  cases ok with
  |false=>exact wpAny_pure ⟨rfl,h₃⟩
  |true =>
   exact wpAny_bind (wpAny_bind (wpAny_mono h₃ (fun x s₄ h₄=>wpAny_bind (wpAny_mono h₄ (fun _ s₅ h₅=>wpAny_pure (wpAny_pure ⟨rfl,h₅⟩)) fun _ _ h'=>h')) fun _ _ h'=>h'))
end
noncomputable def Zd8 (xs:List Str) (y:Str):Str:=if xs.contains y then "" else y
noncomputable def ZbF (X:Cx) (scope:Scope) (xs:List Str) (C:Addr) (ex:List Addr) (s₂:Shared) (H₂:Hp):Cx:=
 { X with N:=X.N.map (Zd8 xs)++xs,s₀:=s₂,H₀:=H₂,env:=compEnvC scope (ZjX scope X.env) C X.env,outer:=X.stack,ex:=ex,fn:=fun _=>false,pn:=[],xe:=fun _ _=>False }
noncomputable abbrev TB:=V->Hp->List V->Prop
noncomputable def tB1:TB:=fun x _ vs=>vs=[x]
noncomputable def tB2 (K:W.Frag):TB:=fun x H vs=>∃t a b,x=.ref t/\SqT K H t [a,b]/\vs=[a,b]
def PB (X:Cx) (scope:Scope) (xs:List Str) (tg:Expr) (Bd:TB):Prop:=∀C s₂ H₂ ex,∀(pins:List (Addr×Obj)) (s:Shared) (σ σx:St) (H:Hp) (x:V) (u:Value) (vs:List V) (E:Value->Shared->Prop),σ.length=X.N.length->σx.length=xs.length ->
 Inv (ZbF X scope xs C ex s₂ H₂) pins (σ++σx) H s->Vj x u->Bd x H vs->wpAny (model X.prog X.w) X.A (assign tg (ZbF X scope xs C ex s₂ H₂).env u) (fun _ s'=>Inv (ZbF X scope xs C ex s₂ H₂) pins (σ++vs.map some) H s') E s
def PCi (X:Cx) (ifs:List Expr) (t:TT):Prop:=∀(pins:List (Addr×Obj)) (s:Shared) (σ:St) (H:Hp) (Q:Bool->Hp->Prop) (E:Value->Shared->Prop),Inv X pins σ H s->t σ H Q ->
 wpAny (model X.prog X.w) X.A (forIn ifs true fun c r=>if r=true then do let ok <- isTrue c X.env (eval c X.env);pure (ForInStep.yield ok) else pure (ForInStep.yield r)) (TP X pins σ Q) E s
noncomputable def ZnM:TT:=fun _ H Q=>Q true H
theorem ZiU {X:Cx}:PCi X [] ZnM:=fun pins s σ H Q E I h=>wpAny_tests_nil ⟨_,I,h⟩
def Zi6 (σ:St) (Bd:TB) (tt:TT) (te:TE) (J:It) (H1:Hp) (Q:VK):Prop:=∃W:Nat->Nat->List V->Hp->Prop,(∃m,W 0 m [] H1)/\∀i m ys H2,W i m ys H2->ys.length<=sizeLine /\
 ((J.stop i H2/\∀p,H2 p=none->Q (.ref p) (upd H2 p (.lst ys))) \/
  (J.go i H2/\∃N:List V->Hp->Prop,(∀ys' H',N ys' H'->∃m',m'<m/\W (i+1) m' ys' H')/\∀x H3,J.yld i H2 x H3->∃vs,Bd x H3 vs/\tt (σ++vs.map some) H3 fun b H4=>if b=true then te (σ++vs.map some) H4 fun y H5=>N (ys++[y]) H5 else N ys H4))
noncomputable def ZdA (wi:TI) (Bd:TB) (tt:TT) (te:TE):TE:=fun σ H Q=>wi σ H fun J H1=>Zi6 σ Bd tt te J H1 Q
noncomputable def Vv (N:List Str) (sc scope:Scope) (xs:List Str):Bool:=xs.all (fun x=>Zgq [] sc scope x)&&decide (N.map (Zd8 xs)++xs).Nodup&&!xs.isEmpty&&(N.all fun y=>xs.contains y || !(scope.names.lookup y==some .local))&&(scope.names.lookup (Str.ofString "")==none)
structure CkN (N:List Str) (sc scope:Scope) (xs:List Str):Prop where
 scs:∀x∈xs,Zee [] sc scope x
 nd:(N.map (Zd8 xs)++xs).Nodup
 ex:∃x,x∈xs
 noN:∀y∈N,y ∉ xs->scope.names.lookup y≠some .local
 noE:scope.names.lookup (Str.ofString "")=none
theorem ZaU {N:List Str}{sc scope:Scope}{xs:List Str} (h:Vv N sc scope xs=true):CkN N sc scope xs:=by
 unfold Vv at h
 simp only[Bool.and_eq_true,Z0Q,decide_eq_true_eq,Bool.not_eq_true',Bool.or_eq_true,beq_iff_eq,beq_eq_false_iff_ne] at h
 obtain⟨⟨⟨⟨h1,h2⟩,h3⟩,h4⟩,h5⟩:=h
 refine⟨fun x hx=>Zee.of (h1 x hx),h2, ?_,fun y hy hn=>?_,h5⟩
 ·cases xs with
  |nil=>simp at h3
  |cons a l=>exact⟨a,by simp⟩
 ·rcases h4 y hy with z|z
  ·exact absurd (Z1f.mp z) hn
  ·exact z
section
variable {X:Cx}{pins:List (Addr×Obj)}{σ:St}{s₂:Shared}{H₂:Hp}{scope:Scope}{x:Str}{xs:List Str}{tg elt iter:Expr}{ifs:List Expr}{pos:Pos}{Bd:TB}{tt:TT}{te:TE}{J:It}{fp:List Addr}{it:Addr}{tn:Nat->Heap->Prop}
theorem JW {N0:List Str} (sc:Zee N0 X.env.scope scope x) (ok:X.Ok) {y:Str}{c:Addr} (h:(ZjX scope X.env).lookup y=some c):X.env.cells.lookup y=some c:=by
 have hm:=PySem.mem_of_lookup h
 unfold ZjX at hm
 obtain⟨p,hp,e⟩:=Z1e.mp hm
 have hp':=Z1D.mp (List.mem_reverse.mp hp)
 obtain⟨e1,e2⟩:=Prod.mk.inj e
 have hk:=sc.fr p hp'.1 (beq_iff_eq.mp hp'.2)
 obtain⟨c',hc'⟩:=ok.has p.1 hk
 rw[hc'] at e2
 rw[<- e1,hc']
 exact congrArg some e2
theorem Znr {N0:List Str} (I:Inv X pins σ H₂ s₂) (sc:Zee N0 X.env.scope scope x) {C:Addr} (hC:s₂.heap.objs.size<=C) (ff:∀b∈fp,Zkr X pins H₂ b) (fo:∀b∈fp,∃o,s₂.heap.get? b=some o):(ZbF X scope xs C fp s₂ H₂).Ok where
 mod:=I.ok.mod
 kind:=sc.kind
 glob:=I.ok.glob
 blt:=I.ok.blt
 above:=hC
 inj:=fun y z c h1 h2=>I.ok.inj y z c (JW sc I.ok h1) (JW sc I.ok h2)
 has:=fun y hy=>by
  have hy':(relabel scope X.env).names.lookup y=some .cell\/(relabel scope X.env).names.lookup y=some .free:=hy
  have hf:scope.names.lookup y=some .free:=by
   rcases hy' with z|z
   ·exact(Jn sc.nc z).2 (.inl rfl)
   ·exact(Jn sc.nc z).2 (.inr rfl)
  exact Zhy hf
 cab:=fun y c h=>by cases h
 hd:=I.ok.hd
 frames:=I.ok.frames
 stk:=.inl rfl
 exf:=fun b hb=>by
  obtain⟨f0,f1,f2,f3,f4,f5⟩:=ff b hb
  obtain⟨o,ho⟩:=fo b hb
  exact⟨Z0O (Z0E (Heap.lt_size ho) hC),fun y c h=>f4 y c (JW sc I.ok h)⟩
 bs:=I.bs
 bsz:=Z0U I.ok.bsz I.sz
 noex:=fun b o e hb=>by
  obtain⟨f0,f1,f2,f3,f4,f5⟩:=ff b hb
  rcases f3 with z|z
  ·exact I.ok.noex b o e z
  ·exact absurd (Z0E (Heap.lt_size e) (Z0U I.ok.bsz z)) (Z1i _)
 exfs:=fun b hb z=>by
  obtain⟨f0,f1,f2,f3,f4,f5⟩:=ff b hb
  rcases Z0G.mp (I.stkSub b z) with e|e
  ·exact f1 e
  ·exact f2 e
 funs:=I.stack
 frf:=I.stkFree
theorem Zfu {E:Value->Shared->Prop}{Q:VK}{RR:Value->Addr->Result->Shared->Prop} (I:Inv X pins σ H₂ s₂) (ck:CkN X.N X.env.scope scope xs) (hx:x∈xs) (hNd:X.N.Nodup) (hc:X.calm=true)
  (T:Znw X.prog X.w X.K tg J fp it tn) (st:tn 0 s₂.heap) (ff:∀b∈fp,Zkr X pins H₂ b) (hw:Zi6 σ Bd tt te J H₂ Q)
  (hb:PB X scope xs tg Bd) (ht:∀C s₂ H₂ ex,PCi (ZbF X scope xs C ex s₂ H₂) ifs tt) (he:∀C s₂ H₂ ex,PE (ZbF X scope xs C ex s₂ H₂) elt te)
  (hvs:∀x H vs,Bd x H vs->vs.length=xs.length)
  (hRR:∀D C s' H' m',s₂.heap.objs.size<=C->Inv X pins σ H' s'->s'.heap.Ns C m'->H' C=none->Q (.ref D) H'->RR (.ref D) C (.ok .next) s') :
  wpAny (model X.prog X.w) X.A (newList []) (fun acc s₃=>wpAny (model X.prog X.w) X.A (newFunctionEnv scope X.env.globals (ZjX scope X.env) [] X.env.qual none .none (some X.env)) (fun cenv s₄ =>
   codeAny (model X.prog X.w) X.A (.compStart (.ListComp elt [⟨tg,iter,ifs,0⟩] scope pos) 0 (.ref it) acc { cenv with scope:=relabel scope X.env }) (RR acc cenv.locals) s₄) E s₃) E s₂:=by
 have sc:=ck.scs x hx
 refine wpAny_newObj_type (wpAny_newFunctionEnv sc.nc (by intro y hy;simp at hy) (fun h₁ hns₁ hsb₁=>?_) sc.kind)
 dsimp only at hns₁ hsb₁ ⊢
 generalize hP2:s₂.heap.push { cls:=.type "list",dict:=none,data:=.seq ([]:List Value).toArray }=P2 at hns₁ hsb₁ ⊢
 have hCs:P2.objs.size=s₂.heap.objs.size+1:=by rw[<- hP2,Heap.size_push]
 have hCle:s₂.heap.objs.size<=P2.objs.size:=by rw[hCs];exact Z1K _
 have hDC:s₂.heap.objs.size≠P2.objs.size:=by rw[hCs];exact Z0O (Z1u _)
 generalize hCe:P2.objs.size=C at hns₁ hsb₁ hCs hCle hDC ⊢
 generalize hDe:s₂.heap.objs.size=D at hCs hCle hDC ⊢
 have fo:∀b∈fp,∃o,s₂.heap.get? b=some o:=fun b hb=>let ⟨o,e,_⟩:=T.obj _ _ st b hb;⟨o,e⟩
 have flt:∀b∈fp,b<D:=fun b hb=>by obtain⟨o,e⟩:=fo b hb;rw[<- hDe];exact Heap.lt_size e
 have old:∀b o,s₂.heap.get? b=some o->h₁.get? b=some o:=fun b o e=>by
  have hb:=Heap.lt_size e
  exact hsb₁.extBut b o (Z0O (by rw[hCs];exact Nat.lt_succ_of_lt (hDe▸hb))) (Heap.get?_push_of_some _ (hP2▸Heap.get?_push_of_some _ e))
 have hacc:h₁.get? D=some { cls:=.type "list",data:=.seq ([]:List Value).toArray 0 }:=hsb₁.extBut _ _ hDC (Heap.get?_push_of_some _ (hP2▸hDe▸Heap.get?_push_size _ rfl))
 have okB:=Znr (x:=x) (xs:=xs) (C:=C) I sc (by rw[hDe];exact hCle) ff fo
 have hfreshD:H₂ D=none:=I.hok.fresh (by rw[hDe];exact Z0D _)
 have hfreshC:H₂ C=none:=I.hok.fresh (by rw[hDe];exact hCle)
 have I0:Inv (ZbF X scope xs C fp s₂ H₂) [(D,{ cls:=.type "list",data:=.seq ([]:List Value).toArray 0 })] (σ++List.replicate xs.length none) H₂ { s₂ with heap:=h₁,toks:=s₂.toks+([]:List (Str×Value)).length }:=by
  refine⟨okB,rfl,I.bare,Un.kept old,⟨_,hns₁,fun i y v e1 e2 e3=>?_⟩,fun y c e=>?_,hfreshC,fun y c e=>I.freeC y c (JW sc I.ok e),fun p hp=>?_,I.hok.kept old,by simp[ZbF,I.len]⟩
  ·have hi:i<σ.length:=by
    by_cases hi:i<σ.length
    ·exact hi
    ·rw[Z0L (by omega)] at e2
     rw[Z1p] at e2
     split at e2<;>cases e2
   rw[Z0J hi] at e2
   have e1':(X.N.map (Zd8 xs)++xs)[i]?=some y:=e1
   rw[Z0J (by rw[Z0K,<- I.len];exact hi),Z0N] at e1'
   have lk:scope.names.lookup y=some .local\/scope.names.lookup y=some .free:=by
    have e3':(relabel scope X.env).names.lookup y=some .local\/(relabel scope X.env).names.lookup y=some .cell\/(relabel scope X.env).names.lookup y=some .free:=e3
    rcases e3' with z|z|z
    ·exact .inl ((Jn sc.nc z).1 rfl)
    ·exact .inr ((Jn sc.nc z).2 (.inl rfl))
    ·exact .inr ((Jn sc.nc z).2 (.inr rfl))
   obtain⟨y0,ey0,ey⟩:∃y0,X.N[i]?=some y0/\Zd8 xs y0=y:=by
    cases q:X.N[i]? with
    |none=>rw[q] at e1';cases e1'
    |some y0=>rw[q] at e1';exact⟨y0,rfl,Option.some.inj e1'⟩
   have hy0:y0 ∉ xs:=fun z=>by
    have:y=Str.ofString "":=by rw[<- ey];unfold Zd8;rw[if_pos (Z1f.mpr z)]
    rw[this,ck.noE] at lk
    rcases lk with z|z<;>cases z
   have ey2:y0=y:=by rw[<- ey];unfold Zd8;rw[if_neg (fun z=>hy0 (Z1f.mp z))]
   rw[ey2] at ey0 hy0
   have e1':X.N[i]?=some y:=ey0
   have yN:y∈X.N:=List.mem_of_getElem? e1'
   have e3':(relabel scope X.env).names.lookup y=some .local\/(relabel scope X.env).names.lookup y=some .cell\/(relabel scope X.env).names.lookup y=some .free:=e3
   have hcf:(relabel scope X.env).names.lookup y=some .cell\/(relabel scope X.env).names.lookup y=some .free:=by
    rcases e3' with z|z
    ·exact absurd ((Jn sc.nc z).1 rfl) (ck.noN y yN hy0)
    ·exact z
   have hfree:scope.names.lookup y=some .free:=by
    rcases hcf with z|z
    ·exact(Jn sc.nc z).2 (.inl rfl)
    ·exact(Jn sc.nc z).2 (.inr rfl)
   obtain⟨c,hcl⟩:=Zhy (X:=X) hfree
   have hcx:=JW sc I.ok hcl
   have hvis:=sc.fr _ (PySem.mem_of_lookup hfree) rfl
   obtain⟨m,hn,hl⟩:=I.loc
   obtain⟨u,ru,hlook⟩:=hl i y v e1' e2 (.inr hvis)
   refine⟨u,ru,.inr ⟨hcf,c,hcl, ?_⟩⟩
   rcases hlook with ⟨k,_⟩|⟨k,c',ec,hcell⟩
   ·have k':X.env.scope.names.lookup y=some .local:=k
    have hv':X.env.scope.names.lookup y=some .cell\/X.env.scope.names.lookup y=some .free:=hvis
    rw[k'] at hv'
    rcases hv' with z|z<;>cases z
   ·rw[hcx] at ec;cases ec
    obtain⟨o,ho,hd⟩:=hcell
    exact⟨o,old _ _ ho,hd⟩
  ·obtain⟨v,o,ho,hd⟩:=I.cell y c (JW sc I.ok e)
   exact⟨v,o,old _ _ ho,hd⟩
  ·have e:p=(D,{ cls:=.type "list",data:=.seq ([]:List Value).toArray 0 }):=by simpa[ZbF] using hp
   subst e
   exact⟨hacc,hfreshD,hDC,(fun z=>by
    rcases Z0G.mp (I.stkSub D z) with e|e
    ·exact absurd I.lt (by rw[<- e,hDe];exact Z1i _)
    ·exact I.nofs (by rw[hDe];exact Z0D _) e),fun v z=>nomatch z⟩
 obtain⟨W,⟨m0,w0⟩,turn⟩:=hw
 have fpB:∀{H':Hp}{o:Obj},(∀b∈fp,H' b=none)->∀b∈fp,Zkr (ZbF X scope xs C fp s₂ H₂) [(D,o)] H' b:=fun {H' o} hn b hb=>by
  obtain⟨f0,f1,f2,f3,f4,f5⟩:=ff b hb
  obtain⟨g1,g2⟩:=okB.exf b hb
  exact⟨hn b hb,g1,okB.exfs b hb,.inl hb,g2,fun p hp=>by
   have e:p=(D,o):=by simpa[ZbF] using hp
   subst e
   exact(Z0O (flt b hb)).symm⟩
 have hσ:σ.length=X.N.length:=I.len
 have loop:∀s₃:Shared,s₃={ s₂ with heap:=h₁,toks:=s₂.toks+([]:List (Str×Value)).length } ->
   codeAny (model X.prog X.w) X.A (.compLoop (.ListComp elt [⟨tg,iter,ifs,0⟩] scope pos) 0 (.ref it) (.ref D) (compEnvC scope (ZjX scope X.env) C X.env)) (RR (.ref D) C) s₃:=by
  rintro s₃ rfl
  refine ZbN
   (fun n s'=>∃i ys its k σx H',σx.length=xs.length/\Inv (ZbF X scope xs C fp s₂ H₂) [(D,{ cls:=.type "list",data:=.seq (List.toArray its) k })] (σ++σx) H' s'/\tn i s'.heap/\(∀b∈fp,H' b=none)/\JD ys its/\W i n ys H') ?_ m0
   ⟨0,[],[],0,List.replicate xs.length none,H₂,by simp,I0,T.keep _ _ _ st (fun b hb o e=>old b o e),fun b hb=>(ff b hb).1,.nil,w0⟩
  rintro n s' ⟨i,ys,its,k,σx,H',hσx,I',st',fr',rv,w'⟩
  obtain⟨hz,hcase⟩:=turn i n ys H' w'
  have hpinD:=I'.pin (D,{ cls:=.type "list",data:=.seq (List.toArray its) k }) (by simp[ZbF])
  rcases hcase with ⟨stop,q⟩|⟨go,N,hN,step⟩
  ·refine thn (T.done (ZbF X scope xs C fp s₂ H₂) rfl rfl rfl hc i _ s' _ H' _ I' (fpB fr') st' stop) fun r s4 ⟨hr,I4⟩=>?_
   subst hr
   have pD:=I4.pin (D,{ cls:=.type "list",data:=.seq (List.toArray its) k }) (by simp[ZbF])
   obtain⟨m4,hn4,_⟩:=I4.loc
   have IX:Inv X pins σ H' s4:=I.call' I4.os I4.base I4.hok I4.bare fun b hb=>by
    obtain⟨f0,f1,f2,f3,f4,f5⟩:=ff b hb
    exact⟨f3,f1,f4,f5⟩
   have IX2:=IX.adopt (D:=D) (ys:=ys) (its:=its) (n:=k) hpinD.2.1 (by rw[<- hDe];exact I.sz) (by rw[<- hDe];exact Z1H I.lt)
    (fun y c e z=>by
     obtain⟨v,o,ho,hd⟩:=I.cell y c e
     have:=Heap.lt_size ho
     rw[hDe,z] at this
     exact Z1i _ this)
    (fun p hp z=>by
     have:=Heap.lt_size (I.pin p hp).1
     rw[hDe,z] at this
     exact Z1i _ this) pD.1 rv hz
   refine hRR D C s4 _ m4 (by rw[hDe];exact hCle) IX2 hn4 ?_ (q D hpinD.2.1)
   rw[Zu (Ne.symm hDC)]
   exact I4.free
  ·refine thn (T.item (ZbF X scope xs C fp s₂ H₂) rfl rfl rfl hc i _ s' _ H' _ I' (fpB fr') st' go) fun r s4 ⟨u,hr,h4⟩=>?_
   subst hr
   refine thn h4 fun _ s5 ⟨y,H5,I5,r5,y5,st5,fr5⟩=>?_
   have I5':=I5.pinned (fpB fr5) (T.obj _ _ st5)
   obtain⟨vs,bd5,stp⟩:=step y H5 y5
   refine thn (hb C s₂ H₂ fp _ s5 σ σx H5 y u vs _ hσ hσx I5' r5 bd5) fun _ s6 I6=>?_
   refine thn (ht C s₂ H₂ fp _ s6 _ H5 _ _ I6 stp) fun ok s6' hok=>?_
   obtain⟨H6',I6',q6'⟩:=hok
   have hvl:=hvs _ _ _ bd5
   have stay:∀{s9:Shared}{H9:Hp}{ys':List V}{its':List Value}{k':Nat},True:=fun {_ _ _ _ _}=>trivial
   cases ok with
   |false =>
    rw[if_neg Bool.false_ne_true] at q6' ⊢
    have pD6:=I6'.pin (D,{ cls:=.type "list",data:=.seq (List.toArray its) k }) (by simp[ZbF])
    obtain⟨m',hm,w8⟩:=hN _ _ q6'
    refine⟨m',hm,i+1,ys,its,k,vs.map some,H6',by simp[hvl],I6'.pins_of fun p hp=>?_, ?_,fun b hb'=>?_,rv,w8⟩
    ·have e:p=(D,{ cls:=.type "list",data:=.seq (List.toArray its) k }):=by simpa using hp
     subst e
     exact⟨pD6.1,pD6.2.1,pD6.2.2.1,pD6.2.2.2.1,fun v z=>nomatch z⟩
    ·refine T.keep _ _ _ st5 fun b hb' o e=>?_
     exact(I6'.pin (b,o) (Z0A _ (Z0A _ (V6 hb' e)))).1
    ·obtain⟨o,e,d⟩:=T.obj _ _ st5 b hb'
     exact(I6'.pin (b,o) (Z0A _ (Z0A _ (V6 hb' e)))).2.1
   |true =>
   rw[if_pos rfl] at q6' ⊢
   refine wpAny_mono (he C s₂ H₂ fp _ s6' _ H6' _ I6' q6') (fun u7 s7 h7=>?_) fun _ _ f=>f.elim
   obtain⟨v7,H7,I7,r7,n7⟩:=h7
   have pD7:=I7.pin (D,{ cls:=.type "list",data:=.seq (List.toArray its) k }) (by simp[ZbF])
   have hlen:=rv.length
   refine append_at (hsz:=by show its.toArray.size<=sizeLine;rw[Z0H,<- hlen];exact hz) pD7.1 fun h8 hs8 hD8=>?_
   obtain⟨m',hm,w8⟩:=hN _ _ n7
   have hD8':h8.get? D=some { cls:=.type "list",data:=.seq (its++[u7]).toArray (k+1) }:=by rw[hD8,List.push_toArray]
   have I8:Inv (ZbF X scope xs C fp s₂ H₂) [] (σ++vs.map some) H7 { s7 with heap:=h8 }:=by
    refine(I7.pins_of (pins':=[]) fun p hp=>absurd hp (by simp)).turned (t':=s7.toks) (it:=D) (fun b o hb e=>(hs8.2 b hb).trans e) pD7.2.1 pD7.2.2.1 (.inr (by show s₂.heap.objs.size<=D;rw[hDe];exact Z0D _)) (fun y' c' e' z=>?_) fun p hp=>absurd (show p∈([]:List (Addr×Obj)) from by simpa[ZbF] using hp) (by simp)
    obtain⟨v,o,ho,hd⟩:=I.cell y' c' (JW sc I.ok e')
    have:=Heap.lt_size ho
    rw[hDe,z] at this
    exact Z1i _ this
   refine⟨m',hm,i+1,ys++[v7],its++[u7],k+1,vs.map some,H7,by simp[hvl],I8.pins_of fun p hp=>?_, ?_,fun b hb'=>?_,rv.append (.cons r7 .nil),w8⟩
   ·have e:p=(D,{ cls:=.type "list",data:=.seq (its++[u7]).toArray (k+1) }):=by simpa using hp
    subst e
    exact⟨hD8',pD7.2.1,pD7.2.2.1,pD7.2.2.2.1,fun v z=>nomatch z⟩
   ·refine T.keep _ _ _ st5 fun b hb' o e=>?_
    have hpb:=I7.pin (b,o) (Z0A _ (Z0A _ (V6 hb' e)))
    exact(hs8.2 b (Z0O (flt b hb'))).trans hpb.1
   ·obtain⟨o,e,d⟩:=T.obj _ _ st5 b hb'
    exact(I7.pin (b,o) (Z0A _ (Z0A _ (V6 hb' e)))).2.1
 exact codeAny_compStart_list (loop _ rfl) (T.self _ 0 _ _ _ (T.keep _ _ _ st fun b hb o e=>old b o e) (loop _ rfl))
theorem ZiV {px:Pos} (hNd:X.N.Nodup) (hchk:Vv X.N X.env.scope scope [x]=true:=by rfl):PB X scope [x] (.Name x px) tB1:=by
 intro C s₂ H₂ ex pins s σ σx H y u vs E hσ hσx I r hb
 have ck:=ZaU hchk
 have sc:=ck.scs x (by simp)
 have hb:vs=[y]:=hb
 subst hb
 have ndB:=ck.nd
 refine wpAny_assign_Name ?_
 refine ZbR (X:=ZbF X scope [x] C ex s₂ H₂) (i:=X.N.length) (x:=x) (v:=y) I ndB (by simp[ZbF]) (.inl (lookup_relabel_local sc.var)) r (fun s6 I6=>?_) (.inr (lookup_relabel_local sc.var))
 obtain⟨o,rfl⟩:∃o,σx=[o]:=by
  cases σx with
  |nil=>simp at hσx
  |cons a l =>
   cases l with
   |nil=>exact⟨a,rfl⟩
   |cons b l=>simp at hσx
 have eσ:(σ++[o]).set X.N.length (some y)=σ++[some y]:=by
  rw[<- hσ];simp
 rw[eσ] at I6
 exact I6
theorem ZmC {x y:Str}{px py tp:Pos}{k:Nat} (hNd:X.N.Nodup) (hc:X.calm=true) (hchk:Vv X.N X.env.scope scope [x,y]=true:=by rfl):PB X scope [x,y] (.Tuple [.Name x px,.Name y py] k tp) (tB2 X.K):=by
 intro C s₂ H₂ ex pins s σ σx H v u vs E hσ hσx I r hb
 have ck:=ZaU hchk
 have sx:=ck.scs x (by simp)
 have sy:=ck.scs y (by simp)
 obtain⟨t,a,b,rfl,hq,rfl⟩:=hb
 have ndB:=ck.nd
 obtain⟨o1,o2,rfl⟩:∃o1 o2,σx=[o1,o2]:=by
  match σx,hσx with
  |[a,b],_=>exact⟨a,b,rfl⟩
 have e1:(σ++[o1,o2]).set X.N.length (some a)=σ++[some a,o2]:=by
  rw[<- hσ];simp
 have e2:(σ++[some a,o2]).set (X.N.length+1) (some b)=σ++[some a,some b]:=by
  rw[<- hσ]
  show List.set (σ++([some a,o2]:St)) _ _=_
  rw[List.set_append_right _ _ (Z1K _)]
  simp
 have g1:PG (ZbF X scope [x,y] C ex s₂ H₂) (.Name x px) (Zd9 X.N.length):=ZaR ndB (by
  show (X.N.map (Zd8 [x,y])++[x,y])[X.N.length]?=some x
  rw[Z0L (by simp)];simp) (.inl (lookup_relabel_local sx.var)) (.inr (lookup_relabel_local sx.var))
 have g2:PG (ZbF X scope [x,y] C ex s₂ H₂) (.Name y py) (Zd9 (X.N.length+1)):=ZaR ndB (by
  show (X.N.map (Zd8 [x,y])++[x,y])[X.N.length+1]?=some y
  rw[Z0L (by simp)];simp) (.inl (lookup_relabel_local sy.var)) (.inr (lookup_relabel_local sy.var))
 have g:PG (ZbF X scope [x,y] C ex s₂ H₂) (.Tuple [.Name x px,.Name y py] k tp) (ZpW X.K 2 (Zlv (Zd9 X.N.length) (Zlv (Zd9 (X.N.length+1)) ZpX))):=ZiR (X:=ZbF X scope [x,y] C ex s₂ H₂) hc (Zb5 g1 (Zb5 g2 ZfS))
 refine wpAny_mono (g pins s _ H _ _ (fun σ' H'=>σ'=σ++[some a,some b]/\H'=H) I r ⟨t,[a,b],rfl,hq,rfl,a,[b],rfl,b,[],rfl,rfl, ?_⟩) (fun _ s' hq'=>?_) fun _ _ z=>z.elim
 ·exact⟨by rw[e1,e2],rfl⟩
 ·obtain⟨σ',H',I',e3,e4⟩:=hq'
  subst e3 e4
  exact I'
theorem ZkH {wi:TI} (hi:PI X tg iter wi) (hb:PB X scope xs tg Bd) (ht:∀C s₂ H₂ ex,PCi (ZbF X scope xs C ex s₂ H₂) ifs tt) (he:∀C s₂ H₂ ex,PE (ZbF X scope xs C ex s₂ H₂) elt te) (hvs:∀x H vs,Bd x H vs->vs.length=xs.length) (hNd:X.N.Nodup) (hc:X.calm=true)
  (hclos:closureFor scope X.env=pure (ZjX scope X.env):=by rfl) (hchk:Vv X.N X.env.scope scope xs=true:=by rfl) (hs:∀x,foldedSetIterable iter X.env x=pure x:=by exact fun _=>rfl) :
  PE X (.ListComp elt [⟨tg,iter,ifs,0⟩] scope pos) (ZdA wi Bd tt te):=by
 intro pins s σ H Q I h
 have ck:=ZaU hchk
 obtain⟨x,hx⟩:=ck.ex
 have sc:=ck.scs x hx
 rw[eval_ListComp]
 refine wpAny_comprehension_free (use:=none) rfl hs hclos sc.kind sc.locs (thn (hi pins s σ H _ I h) fun xv s₁ h₁=>thn h₁ fun itv s₂ h₂=>?_)
 obtain⟨it,fp,tn,J,H2,e,I2,T,st2,f2,q⟩:=h₂
 subst e
 refine Zfu (RR:=fun acc C=>compPost (model X.prog X.w) X.A X.xe none (EP X pins σ Q) acc C) I2 ck hx hNd hc T st2 f2 q hb ht he hvs ?_
 intro D C s' H' m' hC I' hn hC0 hq
 refine⟨m',hn,fun h'' hs''=>⟨.ref D,H', ?_,rfl,hq⟩⟩
 refine I'.turned (t':=s'.toks) (it:=C) (fun b o hb e=>(hs''.2 b hb).trans e) hC0 (Z1H (Z0E I2.lt hC)) (.inr (Z0U I2.sz hC)) (fun y c e z=>?_) fun p hp z=>?_
 ·obtain⟨v,o,ho,hd⟩:=I2.cell y c e
  exact absurd (Heap.lt_size ho) (Nat.not_lt.mpr (by rw[z];exact hC))
 ·exact absurd (Heap.lt_size (I2.pin p hp).1) (Nat.not_lt.mpr (by rw[z];exact hC))
noncomputable def ZcJ (i:Nat) (wi:TI) (Bd:TB) (tt:TT) (te:TE):TS:=fun D σ H=>ZdA wi Bd tt te σ H fun v H'=>D.nx (σ.set i (some v)) H'
theorem ZcN {i:Nat}{y:Str}{py spos:Pos}{wi:TI} (hN:X.N.Nodup) (hi:X.N[i]?=some y) (hit:PI X tg iter wi) (hb:PB X scope xs tg Bd) (ht:∀C s₂ H₂ ex,PCi (ZbF X scope xs C ex s₂ H₂) ifs tt) (he:∀C s₂ H₂ ex,PE (ZbF X scope xs C ex s₂ H₂) elt te) (hvs:∀x H vs,Bd x H vs->vs.length=xs.length) (hc:X.calm=true)
  (hsw:swapsWith (.ListComp elt [⟨tg,iter,ifs,0⟩] scope pos) (some (.Name y py)) spos.line X.env=pure true:=by rfl) (hy:X.env.scope.names.lookup y=some .local:=by rfl)
  (hclos:closureFor scope X.env=pure (ZjX scope X.env):=by rfl) (hchk:Vv X.N X.env.scope scope xs=true:=by rfl) (hs:∀x,foldedSetIterable iter X.env x=pure x:=by exact fun _=>rfl) :
  PS X (.Assign [.Name y py] (.ListComp elt [⟨tg,iter,ifs,0⟩] scope pos) spos) (ZcJ i wi Bd tt te):=by
 intro pins s σ H D0 I h
 have ck:=ZaU hchk
 obtain⟨x,hx⟩:=ck.ex
 have sc:=ck.scs x hx
 rw[exec_Assign_Name_used _ _ _ _ hsw]
 refine wpAny_bind (wpAny_standAt (wpAny_bind ?_))
 show wpAny _ X.A (do let _ <- comprehension (.ListComp elt [⟨tg,iter,ifs,0⟩] scope pos) scope X.env _ (newList []) false (eval iter X.env) (some (assign (.Name y py) X.env))) _ _ s
 refine wpAny_bind (wpAny_mono (wpAny_comprehension_free (use:=some (assign (.Name y py) X.env)) (Q:=fun _ s'=>SP X pins D0 .next s') rfl hs hclos sc.kind sc.locs
  (thn (hit pins s σ H _ I h) fun xv s₁ h₁=>thn h₁ fun itv s₂ h₂=>?_)) (fun _ s' hq=>wpAny_pure (wpAny_pure hq)) fun _ _ e=>e)
 obtain⟨it,fp,tn,J,H2,e,I2,T,st2,f2,q⟩:=h₂
 subst e
 refine Zfu (RR:=fun acc C=>compPost (model X.prog X.w) X.A X.xe (some (assign (.Name y py) X.env)) (fun _ s'=>SP X pins D0 .next s') acc C) I2 ck hx hN hc T st2 f2 q hb ht he hvs ?_
 intro D C s' H' m' hC I' hn hC0 hq
 show wpAny _ X.A (assign (.Name y py) X.env (.ref D)) _ _ _
 have cellC:∀y c,X.env.cells.lookup y=some c->c≠C:=fun y c e z=>by
  obtain⟨v,o,ho,hd⟩:=I2.cell y c e
  exact absurd (Heap.lt_size ho) (Nat.not_lt.mpr (by rw[z];exact hC))
 have locC:C≠X.env.locals:=Z1H (Z0E I2.lt hC)
 refine wpAny_assign_Name (ZeC (i:=i) (v:=.ref D) I' hN hi (.inl hy) rfl (fun s'' I'' ⟨a,hsa,ha⟩=>?_) (.inr hy))
 have hCa:C≠a:=by
  rcases ha with z|z
  ·rw[z];exact locC
  ·exact(cellC _ _ z).symm
 refine⟨m',hn.sameBut hsa hCa,fun h'' hs''=>⟨σ.set i (some (.ref D)),H', ?_,hq⟩⟩
 refine I''.turned (t':=s''.toks) (it:=C) (fun b o hb e=>(hs''.2 b hb).trans e) hC0 locC (.inr (Z0U I2.sz hC)) cellC fun p hp z=>?_
 exact absurd (Heap.lt_size (I2.pin p hp).1) (Nat.not_lt.mpr (by rw[z];exact hC))
end
noncomputable def Zkq {α β:Type} (f:α->Rr (Option β)):List α->Rr (List β)
 |[]=>.ok []
 |x::xs=>(f x).bind fun o=>(Zkq f xs).bind fun ys=>.ok (o.toList++ys)
def DB (K:W.Frag) (Bd:TB) (k:Nat) (hb:PV->Rr (List PV)):Prop:=(∀x e,hb x≠.exc e)/\∀(H:Hp) (S:Addr->Prop) (x:PV) (v:V) (xs:List PV),Rep K H S x v->hb x=.ok xs->xs.length=k/\∃vs,Bd v H vs/\Reps K H S xs vs
theorem ZqT {K:W.Frag}:DB K tB1 1 (fun x=>.ok [x]):=⟨fun x e h=>(by cases h),fun H S x v xs r h=>by
 cases h
 exact⟨rfl,[v],rfl,v,[],rfl,r,rfl⟩⟩
theorem ZqS {K:W.Frag}:DB K (tB2 K) 2 (asT 2):=by
 refine⟨fun x e h=>?_,fun H S x v xs r h=>?_⟩
 ·unfold asT at h
  split at h
  ·split at h<;>cases h
  ·cases h
 ·unfold asT at h
  split at h
  ·rename_i ys
   split at h
   ·rename_i hl
    cases h
    obtain⟨a,vs,rfl,hq,hr⟩:=r
    refine⟨hl,vs, ?_,hr⟩
    match xs,vs,hl,hr,hq with
    |[p,q],vs,_,hr,hq =>
     obtain⟨u,w,rfl,_,_⟩:=Zob hr
     exact⟨a,u,w,rfl,hq.sqT,rfl⟩
   ·cases h
  ·cases h
section
variable {K:W.Frag}{B:Addr->Prop}{EX:PX->Hp->Prop}{H0 H H':Hp}{σ:St}{Γ Γ' Γ1 Γ2:List Md}{ρ:List PV}{F:Nat->List Addr}{R:List Addr}{k:Nat}{x:PV}{v:V}{te:TE}{tt:TT}{f fe:List PV->Rr PV}{c:List PV->Rr Bool}{Bd:TB}{hb:PV->Rr (List PV)}
theorem Zml:DT K EX Γ Γ ZnM (fun _=>.ok true):=fun B H0 H σ ρ F R Q A d=>d H F (ZL.refl H) (fun _ _ h=>h) A
theorem Ag.pushN:∀{xs:List PV}{vs:List V}{σ:St}{Γ:List Md}{ρ:List PV},Reps K H (NO B F R) xs vs->Ag K B H0 H σ Γ ρ F R->Ag K B H0 H (σ++vs.map some) (Γ++List.replicate xs.length .S) (ρ++xs) F R
 |[],vs,σ,Γ,ρ,h,A=>by
  have h:vs=[]:=h
  subst h
  simpa using A
 |x::xs,vs,σ,Γ,ρ,h,A=>by
  obtain⟨v,r,rfl,h1,h2⟩:=h
  have:=Ag.pushN (xs:=xs) (vs:=r) h2 (A.push h1)
  simpa[Z0V] using this
theorem Ag.popN {n:Nat}{τ:St}{xs:List PV} (A:Ag K B H0 H (σ++τ) (Γ++List.replicate n .S) (ρ++xs) F R) (l1:σ.length=Γ.length) (l2:ρ.length=Γ.length):Ag K B H0 H σ Γ ρ F R:=by
 refine⟨A.same,A.own,A.young,A.youngR,A.live,A.liveR,A.disj,A.disjR,l1,l2,fun i=>?_⟩
 have:=A.slot i
 by_cases h1:i<Γ.length
 ·rw[Z09,Z09,Z0J h1,Z0J (by rw[l2];exact h1),Z0J (by rw[l1];exact h1),<- Z09,<- Z09] at this
  exact this
 ·rw[Z09,Z0I (by omega)]
  by_cases h2:i<Γ.length+n
  ·rw[Z09,Z0L (by omega),Z1p,if_pos (by omega)] at this
   simp only[Z1O] at this
   exact this.1
  ·exact A.outF (by simp;omega)
theorem Zhv {wi:TI}{fi:List PV->Rr (List PV)} (hi:DIc K EX Γ Γ1 wi fi) (hB:DB K Bd k hb) (ht:DT K EX (Γ1++List.replicate k .S) (Γ1++List.replicate k .S) tt c) (he:DE K EX (Γ1++List.replicate k .S) (Γ1++List.replicate k .S) .F te fe) :
  DE K EX Γ Γ1 .F (ZdA wi Bd tt te) (fun ρ=>(fi ρ).bind fun xs=>(lenM xs).bind fun _=>(Zkq (fun x=>(hb x).bind fun as=>(c (ρ++as)).bind fun b=>if b=true then (fe (ρ++as)).bind fun y=>.ok (some y) else .ok none) xs).bind fun ys=>.ok (.lst ys)):=fun B H0 H σ ρ F R Q A d=>by
 refine hi B H0 H σ ρ F R _ A (d.bind.imp (fun xs _ d J H1 F1 s1 f1 A1 it=>?_) fun e q=>q)
 obtain⟨hlen,d⟩:=Dn.lenM d.bind
 generalize hgx:(fun x=>(hb x).bind fun as=>(c (ρ++as)).bind fun b=>if b=true then (fe (ρ++as)).bind fun y=>Rr.ok (some y) else .ok none)=gx at d
 have l1:=A1.lenS
 have l2:=A1.lenR
 refine⟨fun i m ys H2=>∃zs G F2,m=xs.length-i/\i<=xs.length/\ys.length<=i/\ZL H1 H2/\Trees K H2 zs ys G/\(∀a∈G,a ∉ R/\(H1 a=none\/∃j,a∈F1 j))/\(∀i,∀a∈F2 i,a∈F1 i)/\Ag K B H0 H2 σ Γ1 ρ F2 (G++R) /\
  Dn ((Zkq gx (xs.drop i)).bind fun ys'=>.ok (.lst (zs++ys'))) (fun x=>∀v H',ZL H H'->Res K B H0 H σ Γ1 ρ F R .F x v H'->Q v H') (fun e=>∀H',ZL H0 H'->EX e H'),
  ⟨xs.length,[],[],F1,by simp,Z16 _,Z0D _,ZL.refl _,⟨rfl,rfl⟩,by simp,fun _ _ h=>h,A1,by simpa using d⟩, ?_⟩
 rintro i m ys H2 ⟨zs,G,F2,rfl,hi',hl,s2,tr,o2,f2,A2,dn⟩
 refine⟨Zb7 (by omega), ?_⟩
 have itp:=it H2 F2 s2 f2 i
 cases hx:xs[i]? with
 |none =>
  refine .inl ⟨itp.2 hx,fun p hp=>?_⟩
  have hd:xs.drop i=[]:=Z15 (Z1b.mp hx)
  rw[hd] at dn
  have dn':∀v H',ZL H H'->Res K B H0 H σ Γ1 ρ F R .F (.lst (zs++[])) v H'->Q v H':=dn
  rw[Z1d] at dn'
  exact dn' _ _ ((s1.trans s2).trans (ZL.new hp)) (Res.newF (s1.trans s2) (fun i a h=>f1 i a (f2 i a h)) tr (fun a ha=>⟨(o2 a ha).1,(o2 a ha).2.elim (fun z=>.inl (s1.free z)) fun⟨j,z⟩=>.inr ⟨j,f1 j a z⟩⟩) A2 hp)
 |some x =>
  have hlt:i<xs.length:=(Z0X.mp hx).1
  obtain⟨go,yl⟩:=itp.1 x hx
  have hdx:xs.drop i=x::xs.drop (i+1):=by
   rw[Z0Y hlt]
   rw[Z0B hlt] at hx;cases hx;rfl
  rw[hdx] at dn
  simp only[Zkq,Rr.assoc] at dn
  rw[<- hgx] at dn
  simp only[Rr.assoc] at dn
  rw[hgx] at dn
  refine .inr ⟨go,fun ys' H'=>∃zs G F2,ys'.length<=i+1/\ZL H1 H'/\Trees K H' zs ys' G/\(∀a∈G,a ∉ R/\(H1 a=none\/∃j,a∈F1 j))/\(∀i,∀a∈F2 i,a∈F1 i)/\Ag K B H0 H' σ Γ1 ρ F2 (G++R) /\
   Dn ((Zkq gx (xs.drop (i+1))).bind fun ys'=>.ok (.lst (zs++ys'))) (fun x=>∀v H',ZL H H'->Res K B H0 H σ Γ1 ρ F R .F x v H'->Q v H') (fun e=>∀H',ZL H0 H'->EX e H'),
   fun ys' H' ⟨zs,G,F2,a1,a2,a3,a4,a5,a6,a7⟩=>⟨xs.length-(i+1),by omega,zs,G,F2,rfl,hlt,a1,a2,a3,a4,a5,a6,a7⟩,fun v H3 y=>?_⟩
  obtain⟨s3,rx⟩:=yl v H3 y
  have rx':Rep K H3 (NO B F2 (G++R)) x v:=Rep.mono (fun a us s r=>⟨r,s.1.1,fun z=>by
   rcases Z0F.mp z with z|z
   ·rcases (o2 a z).2 with q|⟨j,q⟩
    ·exact s.2.1 q
    ·exact s.2.2 j q
   ·exact s.1.2.1 z,s.1.2.2⟩) (fun a us r=>r) rx
  cases hbx:hb x with
  |exc e=>exact absurd hbx (hB.1 x e)
  |bad=>rw[hbx] at dn;exact dn.elim
  |ok as =>
   rw[hbx] at dn
   simp only[Rr.bind_ok] at dn
   obtain⟨hk,vs,bd,ra⟩:=hB.2 H3 _ x v as rx' hbx
   refine⟨vs,bd, ?_⟩
   have A3:=Ag.pushN ra (A2.grow s3)
   rw[hk] at A3
   refine ht B H0 H3 _ _ F2 (G++R) _ A3 (dn.bind.imp (fun b _ dn H4 F4 s4 f4 A4=>?_) fun e q=>q)
   cases b with
   |false =>
    rw[if_neg Bool.false_ne_true] at dn ⊢
    simp only[Rr.bind_ok,Z1M] at dn
    refine⟨zs,G,F4,by omega,(s2.trans s3).trans s4,(tr.same s3).same s4,o2,fun i a h=>f2 i a (f4 i a h),A4.popN l1 l2, ?_⟩
    simp only[Rr.assoc,Rr.bind_ok,Z1G] at dn
    exact dn
   |true =>
    rw[if_pos rfl] at dn ⊢
    simp only[Rr.assoc] at dn
    refine he B H0 H4 _ _ F4 (G++R) _ A4 (dn.bind.imp (fun z _ dn w H5 s5 r5=>?_) fun e q=>q)
    obtain⟨F5,f5,G5,t5,o5,A5⟩:=r5
    refine⟨zs++[z],G++G5,F5,by simp;omega,((s2.trans s3).trans s4).trans s5,Trees.append (((tr.same s3).same s4).same s5) (Trees.one t5) (fun a ha z=>(o5 a z).1 (Z0C _ ha)),fun a ha=>?_,fun i a h=>f2 i a (f4 i a (f5 i a h)),(A5.popN l1 l2).less fun a ha=>?_, ?_⟩
    ·rcases Z0F.mp ha with z|z
     ·exact o2 a z
     ·refine⟨fun q=>(o5 a z).1 (Z0A _ q), ?_⟩
      rcases (o5 a z).2 with q|⟨j,q⟩
      ·exact .inl (((s2.trans s3).trans s4).free q)
      ·exact .inr ⟨j,f2 j a (f4 j a q)⟩
    ·simp only[Z0F] at ha ⊢
     rcases ha with (z|z)|z
     ·exact .inr (.inl z)
     ·exact .inl z
     ·exact .inr (.inr z)
    ·simp only[Rr.assoc,Rr.bind_ok,Z1M,List.append_assoc,Z18] at dn ⊢
     exact dn
theorem ZaT {EX:PX->Hp->Prop}{kd:Kd}{i:Nat}{wi:TI} (he:DE K EX Γ Γ' .F (ZdA wi Bd tt te) f) (hi:i<Γ'.length):DS K EX Γ ⟨Γ'.set i .O,Γ1,Γ2,kd⟩ (ZcJ i wi Bd tt te) (fun ρ=>(f ρ).thenS fun x=>.next (ρ.set i x)):=JA he hi
end
theorem hv1 {n:Str}:∀(x:V) (H:Hp) (vs:List V),tB1 x H vs->vs.length=[n].length:=fun _ _ _ h=>congrArg List.length h
theorem hv2 {K:W.Frag}{n m:Str}:∀(x:V) (H:Hp) (vs:List V),tB2 K x H vs->vs.length=[n,m].length:=fun _ _ _ ⟨_,_,_,_,_,h⟩=>congrArg List.length h
theorem ZkJ {X:Cx}{K:W.Frag}{scope:Scope}{x y:Str}{px py tp:Pos}{k:Nat} (hNd:X.N.Nodup) (hc:X.calm=true) (hchk:Vv X.N X.env.scope scope [x,y]=true:=by rfl) (e:X.K=K:=by rfl):PB X scope [x,y] (.Tuple [.Name x px,.Name y py] k tp) (tB2 K):=by subst e;exact ZmC hNd hc hchk
section
end
theorem ZkT {xs:List PV}{y:PV} (h:xs.length<1000000):pApp (.lst xs) y=.ok (.lst (xs++[y])):=if_pos h
theorem ZpN:Zps (.int 10) (.int 59)=.ok (.int (10^59)):=by rw[ZiY (by decide)];rfl
theorem Zqk {a b:PV}:asT 2 (.tup [a,b])=.ok [a,b]:=rfl
noncomputable def ZqH:Nat:=4000000
def Zpn (i j:Int):Prop:=i.natAbs<2^ZqH/\j.natAbs<2^ZqH
noncomputable instance (i j:Int):Decidable (Zpn i j):=by unfold Zpn;infer_instance
end L2
namespace Att
open PySem PySem.W PySem.Calls PyProof.Rows
end Att
namespace L2
open PySem PySem.Spec PyProof.Rows
section
end
noncomputable def okE (x:PV):Bool:=x.noX&&x.dat.canLay0&&decide (x.dat.depth<=60)
noncomputable def ZpA (K:W.Frag) (g:Bool->Bool):R2:=fun x y H Q=>∃p qs a vs,Rep K H (fun _=>True) p x/\y=.ref a/\(SqL K H a vs\/SqT K H a vs)/\Reps K H (fun _=>True) qs vs/\okE p=true/\(qs.all okE)=true/\Q (.bl (g (qs.any fun q=>PyData.eqv q.dat p.dat))) H
open Classical in
noncomputable def Zic (h:Heap) (dx:PyData) (y:Value):Bool:=if hy:∃d as,Reads h y d as/\d.canLay0=true/\d.depth<=60 then PyData.eqv hy.choose dx else false
section
variable {X:Cx}{K:W.Frag}
theorem Zfo {H:Hp}{pins:List (Addr×Obj)}{σ:St}{s:Shared}{S:Addr->Prop} (I:Inv X pins σ H s) (dx:PyData):∀{qs:List PV}{vs:List V}{us:List Value},Reps X.K H S qs vs->JD vs us->(qs.all okE)=true ->
  (us.any (Zic s.heap dx)=qs.any fun q=>PyData.eqv q.dat dx)/\∀y∈us,∃d as,Reads s.heap y d as/\d.canLay0=true/\d.depth<=60
 |[],_,us,h,r,_=>by
  rw[h] at r;cases r
  exact⟨rfl,by simp⟩
 |q::qs,_,us,h,r,hk=>by
  obtain⟨v,vs,rfl,h1,h2⟩:=h
  simp only[List.all_cons,Bool.and_eq_true] at hk
  cases r with
  |cons r1 r2 =>
   rename_i u us
   obtain⟨e1,e2⟩:=Zfo I dx h2 r2 hk.2
   have h3:=hk.1
   simp only[okE,Bool.and_eq_true,decide_eq_true_eq] at h3
   obtain⟨as,ra⟩:=h1.reads I h3.1.1 r1
   have hx:∃d as,Reads s.heap u d as/\d.canLay0=true/\d.depth<=60:=⟨_,_,ra,h3.1.2,h3.2⟩
   refine⟨?_,fun y hy=>?_⟩
   ·have:Zic s.heap dx u=PyData.eqv q.dat dx:=by
     unfold Zic
     rw[dif_pos hx]
     obtain⟨as',ra',c1,c2⟩:=hx.choose_spec
     rw[SeqAt.Reads.unique _ _ _ _ _ c1 ra' ra]
    rw[Z1N,Z1N,e1,this]
   ·rcases Z0G.mp hy with rfl|hy
    ·exact hx
    ·exact e2 y hy
theorem ZoI {H:Hp}{pins:List (Addr×Obj)}{σ:St}{s:Shared}{g:Bool->Bool}{x y:V}{v u:Value}{Q:VK} (I:Inv X pins σ H s) (hu:X.A.units+64<cLine) (rx:Vj x v) (ry:Vj y u) (h:ZpA X.K g x y H Q) :
  ∃a items,u=.ref a/\(s.heap.IsList a items\/s.heap.IsTuple a items)/\∃e:Value->Bool,(∀y,y∈items->SeqAt.EqAt X.A.in1 s y v (e y))/\Q (.bl (g (items.any e))) H:=by
 obtain⟨p,qs,a,vs,h1,rfl,hq,hr,h3,h4,q⟩:=h
 cases ry
 simp only[okE,Bool.and_eq_true,decide_eq_true_eq] at h3
 obtain⟨as,ra⟩:=h1.reads I h3.1.1 rx
 have fin:∀its:List Value,JD vs its->(∀y,y∈its.toArray->SeqAt.EqAt X.A.in1 s y v (Zic s.heap p.dat y))/\Q (.bl (g (its.toArray.any (Zic s.heap p.dat)))) H:=fun its rv=>by
  obtain⟨e1,e2⟩:=Zfo I p.dat hr rv h4
  refine⟨fun y hy=>?_, ?_⟩
  ·have hx:=e2 y (by simpa using hy)
   unfold Zic
   rw[dif_pos hx]
   obtain⟨as',ra',c1,c2⟩:=hx.choose_spec
   refine SeqAt.eqAt_reads _ _ _ _ _ _ _ _ ra' ra c1 h3.1.2 ?_
   have:=Nat.min_le_left hx.choose.depth p.dat.depth
   have hin:X.A.in1.units<=X.A.units+1:=by simp[Around.in1]
   omega
  ·rw[List.any_toArray,e1];exact q
 rcases hq with hq|hq
 ·obtain⟨its,rv,pl,hz⟩:=I.list hq
  obtain⟨f1,f2⟩:=fin its rv
  exact⟨a,its.toArray,rfl,.inl pl.isList,_,f1,f2⟩
 ·obtain⟨its,rv,pl,hz⟩:=I.tuple hq
  obtain⟨f1,f2⟩:=fin its rv
  exact⟨a,its.toArray,rfl,.inr pl,_,f1,f2⟩
theorem Zmd (hu:X.A.units+64<cLine) (e:X.K=K:=by rfl):OpR X (compareOp .In) (ZpA K id):=by
 subst e
 intro pins s σ H x y v u Q I rx ry h
 obtain⟨a,items,rfl,hl,e,he,q⟩:=ZoI I hu rx ry h
 rcases hl with hl|hl
 ·exact SeqAt.in_listAt e hl he ⟨.bl _,H,I,rfl,q⟩
 ·exact SeqAt.in_tupleAt e hl he ⟨.bl _,H,I,rfl,q⟩
end
noncomputable def ZkR (g:Bool->Bool) (x y:PV):Rr PV:=match y with
 |.lst ys=>if (okE x&&ys.all okE)=true then .ok (.bl (g (ys.any fun q=>PyData.eqv q.dat x.dat))) else .bad
 |.tup ys=>if (okE x&&ys.all okE)=true then .ok (.bl (g (ys.any fun q=>PyData.eqv q.dat x.dat))) else .bad
 |_=>.bad
section
variable {K:W.Frag}{EX:PX->Hp->Prop}{Γ Γ1 Γ2:List Md}{tb tc:TE}{fb fc:List PV->Rr PV}
theorem Zmp {g:Bool->Bool} (ha:DE K EX Γ Γ1 .A tb fb) (hb:DE K EX Γ1 Γ2 .A tc fc):DE K EX Γ Γ2 .P (tOp (ZpA K g) tb tc) (fun ρ=>(fb ρ).bind fun x=>(fc ρ).bind fun y=>ZkR g x y):=by
 refine Zl0 (fun {H x y v w Q} rx ry ⟨z,e,q⟩=>?_) (fun x y z h=>?_) (fun x y e h=>?_) ha hb
 ·unfold ZkR at e
  split at e
  ·split at e
   ·rename_i ys hk
    cases e
    rw[Bool.and_eq_true] at hk
    obtain⟨a,vs,rfl,hn,hr⟩:=ry
    exact⟨x,_,a,vs,rx,rfl,.inl (ZaP (S:=fun _=>True) hn),hr,hk.1,hk.2,q rfl _ rfl⟩
   ·cases e
  ·split at e
   ·rename_i ys hk
    cases e
    rw[Bool.and_eq_true] at hk
    obtain⟨a,vs,rfl,hn,hr⟩:=ry
    exact⟨x,_,a,vs,rx,rfl,.inr hn.sqT,hr,hk.1,hk.2,q rfl _ rfl⟩
   ·cases e
  ·cases e
 ·unfold ZkR at h
  split at h
  ·split at h<;>cases h;rfl
  ·split at h<;>cases h;rfl
  ·cases h
 ·unfold ZkR at h
  split at h
  ·split at h<;>cases h
  ·split at h<;>cases h
  ·cases h
end
theorem ZjH {ns:List Int}{f:PV->Rr (Option PV)}{g:Nat->PV} (h:∀i,i<ns.length->f (.tup [.int i,.int (ns.getD i 0)])=.ok (some (g i))):Zkq f (ZaO (ns.map PV.int))=.ok ((List.range ns.length).map g):=by
 have e:ZaO (ns.map PV.int)=(List.range ns.length).map fun i=>PV.tup [.int (i:Nat),.int (ns.getD i 0)]:=by
  apply List.ext_getElem?
  intro i
  unfold ZaO
  rw[Z1t,Z0N,Z0N]
  by_cases hi:i<ns.length
  ·rw[Z0B hi,Z1z hi]
   simp[Z09,Z0B hi]
  ·rw[Z0I (by omega),Z0I (by simpa using hi)];rfl
 rw[e]
 have:∀l:List Nat,(∀i∈l,i<ns.length)->Zkq f (l.map fun i=>PV.tup [.int (i:Nat),.int (ns.getD i 0)])=.ok (l.map g):=by
  intro l
  induction l with
  |nil=>intro _;rfl
  |cons a l ih =>
   intro hl
   simp only[Z0R,Zkq,h a (hl a (by simp)),Rr.bind_ok,ih fun i hi=>hl i (by simp[hi]),Z1M,Z18]
 exact this _ fun i hi=>Z1a.mp hi
section
end
theorem okE_str {x:Str} (h:PyData.canLay0 (.str x)=true):okE (.str x)=true:=by simp[okE,PV.noX,PV.dat,PyData.depth,h]
section
end
theorem Zeo {xs:List PV}:ZlU [.lst xs]=.ok (.int xs.length):=by simp[ZlU]
theorem ZmH {xs:List PV}{k:Int} (h0:0<=k) (h1:k<xs.length):pIx (.lst xs) (.int k)=.ok (xs.getD k.toNat .non):=by
 simp only[pIx,atI,Zfd h0 h1,Z1v]
 rw[Z09,Z0B (by omega)]
 rfl
noncomputable def ZmE (a:List Int×Int):PV:=.tup [.lst (a.1.map PV.int),.int a.2]
section
end
structure Dat (n:Nat) (x:PV):Prop where
 nx:x.noX=true
 can:x.dat.canLay0=true
 dep:x.dat.depth<=n
theorem Dat.ok {n:Nat}{x:PV} (h:Dat n x) (hn:n<=64:=by decide):okD x=true:=by
 unfold okD
 rw[h.nx,h.can,decide_eq_true (Z0U h.dep hn)];rfl
theorem ZjV (i:Int):Dat 0 (.int i):=⟨rfl,by simp[PV.dat,PyData.canLay0],by simp[PV.dat,PyData.depth]⟩
theorem Zhx {n:Nat}:∀{xs:List PV},(∀x∈xs,Dat n x)->PV.noXs xs=true/\PyData.canLayAll0 (PV.dats xs)=true/\PyData.depthAll (PV.dats xs)<=n
 |[],_=>⟨rfl,rfl,Z16 _⟩
 |x::xs,h=>by
  obtain⟨h1,h2,h3⟩:=Zhx (xs:=xs) fun y hy=>h y (by simp[hy])
  have hx:=h x (by simp)
  refine⟨by simp[PV.noXs,hx.nx,h1],by simp[PV.dats,PyData.canLayAll0,hx.can,h2], ?_⟩
  simp only[PV.dats,PyData.depthAll]
  exact Nat.max_le.mpr ⟨hx.dep,h3⟩
theorem Znp {n:Nat}{xs:List PV} (h:∀x∈xs,Dat n x):Dat (n+1) (.lst xs):=by
 obtain⟨h1,h2,h3⟩:=Zhx h
 exact⟨by simp[PV.noX,h1],by simp[PV.dat,PyData.canLay0,h2],by simp only[PV.dat,PyData.depth];omega⟩
theorem Zle {f:PV->Rr PV}{g:Nat->PV}{lo:Int}{n:Nat} (h:∀i,i<n->f (.int (lo+(i:Nat)))=.ok (g i)):Zf7 f (ZhC lo n)=.ok ((List.range n).map g):=by
 have key:∀(l:List Nat),(∀i∈l,i<n)->Zf7 f (l.map fun(i:Nat)=>PV.int (lo+i))=.ok (l.map g):=by
  intro l
  induction l with
  |nil=>intro _;rfl
  |cons a l ih =>
   intro hl
   simp only[Z0R,Zf7,h a (hl a (by simp)),Rr.bind_ok,ih fun i hi=>hl i (by simp[hi])]
 exact key _ fun i hi=>Z1a.mp hi
theorem ZpK {α:Type}{q:α->PV}{L:List α}{k:Int}{d:α} (h0:0<=k) (h1:k<L.length):pIx (.lst (L.map q)) (.int k)=.ok (q (L.getD k.toNat d)):=by
 rw[ZmH h0 (by simpa using h1),Z09,Z09,Z0N,Z0B (by omega)]
 rfl
section
end
theorem us1 {α:Type}{us:List α} (h:us.length=1):∃a,us=[a]:=match us,h with | [a],_=>⟨a,rfl⟩
theorem us2 {α:Type}{us:List α} (h:us.length=2):∃a b,us=[a,b]:=match us,h with | [a,b],_=>⟨a,b,rfl⟩
theorem us3 {α:Type}{us:List α} (h:us.length=3):∃a b c,us=[a,b,c]:=match us,h with | [a,b,c],_=>⟨a,b,c,rfl⟩
theorem Ziu {c:List PV->Rr Bool}{b:List PV->RS}{ρ:List PV}{W:RS} (hw:Zbt c b ρ=W) (N:Nat) (I:Nat->List PV->Prop) (h0:I 0 ρ) (hs:∀i ρ,i<N->I i ρ->c ρ=.ok true/\(b ρ).good (I (i+1)))
  {r:RS} (he:∀ρ,I N ρ->(c ρ=.ok false/\r=.next ρ)\/(c ρ=.ok true/\b ρ=r/\((∃e,r=.exc e)\/∃v,r=.ret v))):W=r:=by
 subst hw
 have key:∀m i ρ,N=i+m->I i ρ->Uh c b (m+1) ρ=some r:=by
  intro m
  induction m with
  |zero =>
   intro i ρ hl hI
   obtain rfl:N=i:=by omega
   unfold Uh
   rcases he ρ hI with ⟨h1,h2⟩|⟨h1,h2,hr⟩
   ·rw[h1,h2]
   ·rw[h1,h2]
    rcases hr with ⟨e,rfl⟩|⟨v,rfl⟩<;>rfl
  |succ m ih =>
   intro i ρ hl hI
   obtain⟨h1,h2⟩:=hs i ρ (by omega) hI
   obtain⟨ρ',h3,h4⟩:=RS.good_ex h2
   have h5:=ih (i+1) ρ' (by omega) h4
   unfold Uh
   rw[h1]
   rcases h3 with h3|h3<;>(rw[h3];exact h5)
 exact ZbQ (key N 0 ρ (by omega) h0)
section
end
theorem Dat.okE {n:Nat}{x:PV} (h:Dat n x) (hn:n<=60:=by decide):okE x=true:=by
 unfold L2.okE
 rw[h.nx,h.can,decide_eq_true (Z0U h.dep hn)];rfl
theorem Zjd {g:Bool->Bool}{i:Int}{ns:List Int}:ZkR g (.int i) (.lst (ns.map PV.int))=.ok (.bl (g (decide (i∈ns)))):=by
 have hall:∀ns:List Int,(okE (.int i)&&(ns.map PV.int).all okE)=true:=fun ns=>by
  rw[(ZjV i).okE,Bool.true_and,Z0Q]
  intro x hx
  obtain⟨q,_,rfl⟩:=Z1e.mp hx
  exact(ZjV q).okE
 simp only[ZkR]
 rw[if_pos (hall ns)]
 congr 3
 induction ns with
 |nil=>simp
 |cons q M ih =>
  rw[Z0R,Z1N,ih]
  simp only[PV.dat,PyData.eqv]
  by_cases c:q=i
  ·simp[c]
  ·have:¬i=q:=fun z=>c z.symm
   simp[c,this]
section
variable {K:W.Frag}{B:Addr->Prop}{EX:PX->Hp->Prop}{H0 H:Hp}{σ:St}{Γ Γ1 Γ2:List Md}{ρ:List PV}{F:Nat->List Addr}{R:List Addr}{te tb:TE}{fb:List PV->Rr PV}
theorem Zg5:∀{xs:List PV}{vs:List V}{G:List Addr}{n:Nat}{z:PV},Trees K H xs vs G->xs[n]?=some z->∃u G',vs[n]?=some u/\JY K H z u G'/\∀a∈G',a∈G
 |[],_,_,n,z,_,e=>by simp at e
 |x::xs,vs,G,n,z,h,e=>by
  obtain⟨v,r,G1,G2,rfl,h1,h2,h3,rfl⟩:=h
  cases n with
  |zero=>simp at e;subst e;exact⟨v,G1,by simp,h1,fun a ha=>Z0C _ ha⟩
  |succ n =>
   obtain⟨u,G',e1,e2,e3⟩:=Zg5 (n:=n) h2 (by simpa using e)
   exact⟨u,G',by simpa using e1,e2,fun a ha=>Z0A _ (e3 a ha)⟩
theorem Zg4:∀{xs:List PV}{vs:List V}{G:List Addr},Trees K H xs vs G->vs.length=xs.length
 |[],_,_,h=>by rw[h.1];rfl
 |x::xs,vs,G,h=>by
  obtain⟨v,r,G1,G2,rfl,h1,h2,h3,rfl⟩:=h
  simp[Zg4 h2]
theorem Zk3 {xs:List PV}{vs:List V}{G:List Addr}{i:Int}{z:PV} (h:Trees K H xs vs G) (e:atI xs i=some z):∃u G',atI vs i=some u/\JY K H z u G'/\∀a∈G',a∈G:=by
 unfold atI at e ⊢
 rw[Zg4 h]
 cases hk:ixN xs.length i with
 |none=>rw[hk] at e;cases e
 |some k =>
  rw[hk] at e
  obtain⟨u,G',e1,e2,e3⟩:=Zg5 (n:=k) h e
  exact⟨u,G',e1,e2,e3⟩
noncomputable def Zpu (x y:PV):Rr PV:=match x,y with
 |.tup xs,.int i=>match atI xs i with
  |some z=>.ok z
  |none=>.bad
 |_,_=>.bad
theorem Zpa {te ta':TE}{fa':List PV->Rr PV} (ha:DE K EX Γ Γ1 .F ta' fa') (hb:DE K EX Γ1 Γ2 .A tb fb):DE K EX Γ Γ2 .F (tOp (rIx K) ta' tb) (fun ρ=>(fa' ρ).bind fun x=>(fb ρ).bind fun y=>Zpu x y):=fun B H0 H σ ρ F R Q A d=>by
 refine ha B H0 H σ ρ F R _ A (d.bind.imp (fun x _ d v H1 s1 r1=>?_) fun e q=>q)
 obtain⟨F1,f1,G,t1,o1,A1⟩:=r1
 refine hb B H0 H1 σ ρ F1 (G++R) _ A1 (d.bind.imp (fun y _ d w H2 s2 r2=>?_) fun e q=>q)
 obtain⟨F2,f2,p2,A2⟩:=r2
 cases x with
 |tup xs =>
  cases y with
  |int i =>
   cases p2
   have t2:=t1.same s2
   obtain⟨a,vs,rfl,hq,ht⟩:=t2
   unfold Zpu at d
   cases e1:atI xs i with
   |none=>simp only[e1] at d;exact d.elim
   |some z =>
    simp only[e1] at d
    obtain⟨u,G',e2,e3,e4⟩:=Zk3 ht e1
    exact .inr (.inl ⟨a,vs,i,u,rfl,rfl,hq.sqT,e2,d u H2 (s1.trans s2) ⟨F2,fun i a h=>f1 i a (f2 i a h),G',e3,fun b hb=>o1 b (e4 b hb),A2.less fun b hb=>by
     rcases Z0F.mp hb with z|z
     ·exact Z0C _ (e4 b z)
     ·exact Z0A _ z⟩⟩)
  |_=>exact d.elim
 |_=>exact d.elim
theorem Zon {x:PV}{xs:List PV}:Zpu (.tup (x::xs)) (.int 0)=.ok x:=by simp[Zpu,atI,ixN]
end
noncomputable def ZcX (H:Hp) (G:List Addr):Hp:=fun a=>if a∈G then none else H a
theorem ZgZ {H:Hp}{G:List Addr}{a:Addr} (h:a∈G):ZcX H G a=none:=if_pos h
theorem ZcW {H:Hp}{G:List Addr}{a:Addr} (h:a ∉ G):ZcX H G a=H a:=if_neg h
theorem ZhU {H:Hp}{G:List Addr}:ZL (ZcX H G) H:=fun a o h=>by
 unfold ZcX at h
 split at h
 ·cases h
 ·exact h
section
end
noncomputable def frz (m:Md):Md:=if m=.O\/m=.T then .S else m
section
variable {K:W.Frag}{B:Addr->Prop}{H0 H:Hp}{σ:St}{Γ:List Md}{ρ:List PV}{F:Nat->List Addr}{R:List Addr}
theorem Ag.freezeAll (A:Ag K B H0 H σ Γ ρ F R):Ag K B H0 H σ (Γ.map frz) ρ (fun _=>[]) R:=by
 refine⟨A.same,A.own,by simp,A.youngR,by simp,A.liveR,by simp,by simp,by simp[A.lenS],by simp[A.lenR],fun i=>?_⟩
 have sl:=A.slot i
 have e:(Γ.map frz).getD i .U=frz (Γ.getD i .U):=by
  rw[Z09,Z09,Z0N]
  cases Γ[i]?<;>rfl
 rw[e]
 have up:∀{a},NO B F R a->NO B (fun _=>[]) R a:=fun {a} s=>⟨s.1,s.2.1,by simp⟩
 have ow:∀a∈F i,NO B (fun _=>[]) R a:=fun a ha=>⟨A.own a (A.young i a ha),A.disjR i a ha,by simp⟩
 cases hm:Γ.getD i .U with
 |U=>exact rfl
 |P=>rw[hm] at sl;exact⟨rfl,sl.2⟩
 |S =>
  rw[hm] at sl
  obtain⟨_,v,h1,h2⟩:=sl
  exact⟨rfl,v,h1,Rep.mono (fun a vs s r=>⟨r,up s⟩) (fun a vs r=>r) h2⟩
 |T =>
  rw[hm] at sl
  obtain⟨a,vs,xs,h1,h2,h3,h4,h5⟩:=sl
  refine⟨rfl,.ref a,h1, ?_⟩
  rw[h2]
  exact⟨a,vs,rfl,.inl ⟨.inl h3,ow a (by rw[h5];simp)⟩,Reps.mono (fun a vs s r=>⟨r,up s⟩) (fun a vs r=>r) h4⟩
 |O =>
  rw[hm] at sl
  obtain⟨v,h1,h2⟩:=sl
  exact⟨rfl,v,h1,h2.rep ow⟩
end
end L2
namespace HL
open PySem PyProof.Rows
section
open PySem.SeqAt
open PySem.AutoSeq1 (wpAny_loadPart')
open PySem.MeetsSeq PySem.MeetsSeq2 PySem.MeetsSeq3 SeqRoads2
end
section
end
end HL
namespace L2
open PySem PySem.Spec PyProof.Rows
section
end
structure CkC (N:List Str) (sc scope:Scope) (x:Str):Prop where
 one:((scope.names.filter fun p=>p.2==.cell).map fun p=>p.1)=[x]
 kind:scope.kind=.function
 locs:∀p∈scope.names,p.2=.local->scope.names.lookup p.1=some .local
 var:scope.names.lookup x=some .cell
 nd:(N.map (Zd8 [x])++[x]).Nodup
 noN:∀y∈N,y ∉ [x]->scope.names.lookup y≠some .local/\scope.names.lookup y≠some .cell
 noE:scope.names.lookup (Str.ofString "")=none
 fr:∀p∈scope.names,p.2=.free->sc.names.lookup p.1=some .cell\/sc.names.lookup p.1=some .free
section
end
theorem Zhp {α β:Type}{f:α->Rr β}:∀{xs:List α},Zkq (fun x=>(f x).bind fun y=>.ok (some y)) xs=Zf7 f xs
 |[]=>rfl
 |x::xs=>by
  simp only[Zkq,Zf7,Rr.assoc,Zhp (xs:=xs),Rr.bind_ok,Z1M,Z18]
section
variable {K:W.Frag}{EX:PX->Hp->Prop}{Γ Γ1:List Md}{te:TE}{fe:List PV->Rr PV}
theorem JL {wi:TI}{fi:List PV->Rr (List PV)} (hi:DIc K EX Γ Γ1 wi fi) (he:DE K EX (Γ1++[.S]) (Γ1++[.S]) .F te fe) :
  DE K EX Γ Γ1 .F (ZdA wi tB1 ZnM te) (fun ρ=>(fi ρ).bind fun xs=>(lenM xs).bind fun _=>(Zf7 (fun x=>fe (ρ++[x])) xs).bind fun ys=>.ok (.lst ys)):=by
 have h:=Zhv (k:=1) hi ZqT Zml he
 simp only[Rr.bind_ok,if_true,Zhp] at h
 exact h
variable {X:Cx}{scope:Scope}{x y:Str}{elt iter:Expr}{pos px py spos:Pos}{wi:TI}{i:Nat}
theorem Um (hi:PI X (.Name x px) iter wi) (he:∀C s₂ H₂ ex,PE (ZbF X scope [x] C ex s₂ H₂) elt te) (hNd:X.N.Nodup) (hc:X.calm=true)
  (hclos:closureFor scope X.env=pure (ZjX scope X.env):=by rfl) (hchk:Vv X.N X.env.scope scope [x]=true:=by rfl) (hs:∀x,foldedSetIterable iter X.env x=pure x:=by exact fun _=>rfl) :
  PE X (.ListComp elt [⟨.Name x px,iter,[],0⟩] scope pos) (ZdA wi tB1 ZnM te):=ZkH hi (ZiV hNd hchk) (fun _ _ _ _=>ZiU) he hv1 hNd hc hclos hchk hs
theorem ZbK (hN:X.N.Nodup) (hi:X.N[i]?=some y) (hit:PI X (.Name x px) iter wi) (he:∀C s₂ H₂ ex,PE (ZbF X scope [x] C ex s₂ H₂) elt te) (hc:X.calm=true)
  (hsw:swapsWith (.ListComp elt [⟨.Name x px,iter,[],0⟩] scope pos) (some (.Name y py)) spos.line X.env=pure true:=by rfl) (hy:X.env.scope.names.lookup y=some .local:=by rfl)
  (hclos:closureFor scope X.env=pure (ZjX scope X.env):=by rfl) (hchk:Vv X.N X.env.scope scope [x]=true:=by rfl) (hs:∀x,foldedSetIterable iter X.env x=pure x:=by exact fun _=>rfl) :
  PS X (.Assign [.Name y py] (.ListComp elt [⟨.Name x px,iter,[],0⟩] scope pos) spos) (ZcJ i wi tB1 ZnM te):=ZcN hN hi hit (ZiV hN hchk) (fun _ _ _ _=>ZiU) he hv1 hc hsw hy hclos hchk hs
end
noncomputable abbrev ZpC:R2:=fun x y H Q=>∃i j,x=.str i/\y=.str j/\i.length+j.length<=sizeLine/\Q (.str (i++j)) H
noncomputable abbrev ZqM:R2:=fun x y H Q=>∃i j,x=.str i/\y=.str j/\Q (.bl (!(Builtin.Str.occurrences j i 0 j.length 1).isEmpty)) H
noncomputable abbrev Zp8:List V->Hp->VK->Prop:=fun xs H Q=>∃i,xs=[.int i]/\i.natAbs.log2<1920/\Q (.str (toString i)) H
noncomputable def ZmM (x y:PV):Rr PV:=match x,y with
 |.str a,.str b=>if a.length+b.length<=1000000 then .ok (.str (a++b)) else .bad
 |_,_=>.bad
noncomputable def inS (i j:Str):Bool:=!(Builtin.Str.occurrences j i 0 j.length 1).isEmpty
noncomputable def Zq5 (x y:PV):Rr PV:=match x,y with
 |.str a,.str b=>.ok (.bl (inS a b))
 |_,_=>.bad
noncomputable def ZkM (xs:List PV):Rr PV:=match xs with
 |[.int i]=>if i.natAbs.log2<1920 then .ok (.str (toString i)) else .bad
 |_=>.bad
noncomputable def asS (x:PV):Rr Str:=match x with
 |.str z=>.ok z
 |_=>.bad
noncomputable def Zpv (x y:PV):Rr PV:=match x,y with
 |.str z,.int i=>if z.length<=1000000 then (match atI z.cps.toList i with|some c=>.ok (.str ⟨#[c]⟩)|none=>.bad) else .bad
 |_,_=>.bad
section
variable {X:Cx}{x:Str}{pos:Pos}
theorem ZkG {z:Str} (hm:∃t,X.mg x=some (.str z t)) (hg:Gl X x) (hd:(x==("__debug__":Str))=false:=by decide):PE X (.Name x pos) (tC (.str z)):=by
 obtain⟨t,hm⟩:=hm
 exact J8 (v:=.str z) hg hm ⟨t,rfl⟩ hd
end
section
variable {K:W.Frag}{B:Addr->Prop}{EX:PX->Hp->Prop}{H0 H H':Hp}{σ:St}{Γ Γ' Γ1 Γ2:List Md}{ρ:List PV}{F F':Nat->List Addr}{R:List Addr}{te tb ta':TE}{ta:TA}{f fb fa':List PV->Rr PV}{fa:List PV->Rr (List PV)}
theorem Zha {n:Nat} (h:n<=1000000):n<=sizeLine:=Zb7 h
theorem Zno (ha:DE K EX Γ Γ1 .A te f) (hb:DE K EX Γ1 Γ2 .A tb fb):DE K EX Γ Γ2 .P (tOp ZpC te tb) (fun ρ=>(f ρ).bind fun x=>(fb ρ).bind fun y=>ZmM x y):=fun B H0 H σ ρ F R Q A d=>by
 refine two ha hb A d.bind2 fun x y v w H' F' d s hF p1 p2 A'=>?_
 unfold ZmM at d
 split at d
 ·rename_i a b
  split at d
  ·rename_i h
   cases p1;cases p2
   exact⟨_,_,rfl,rfl,Zha h,d _ H' s ⟨F',hF,rfl,rfl,A'⟩⟩
  ·exact d.elim
 ·exact d.elim
theorem Zpc (ha:DE K EX Γ Γ1 .A te f) (hb:DE K EX Γ1 Γ2 .A tb fb):DE K EX Γ Γ2 .P (tOp ZqM te tb) (fun ρ=>(f ρ).bind fun x=>(fb ρ).bind fun y=>Zq5 x y):=fun B H0 H σ ρ F R Q A d=>by
 refine two ha hb A d.bind2 fun x y v w H' F' d s hF p1 p2 A'=>?_
 unfold Zq5 at d
 split at d
 ·cases p1;cases p2
  exact⟨_,_,rfl,rfl,d _ H' s ⟨F',hF,rfl,rfl,A'⟩⟩
 ·exact d.elim
theorem ZoZ (ha:DE K EX Γ Γ1 .A ta' fa') (hb:DE K EX Γ1 Γ2 .A tb fb):DE K EX Γ Γ2 .P (tOp Zp9 ta' tb) (fun ρ=>(fa' ρ).bind fun x=>(fb ρ).bind fun y=>Zpv x y):=fun B H0 H σ ρ F R Q A d=>by
 refine two ha hb A d.bind2 fun x y v w H' F' d s hF p1 p2 A'=>?_
 unfold Zpv at d
 split at d
 ·split at d
  ·rename_i h
   split at d
   ·rename_i c e
    cases p1;cases p2
    exact⟨_,_,c,rfl,rfl,Zha h,e,d _ H' s ⟨F',hF,rfl,rfl,A'⟩⟩
   ·exact d.elim
  ·exact d.elim
 ·exact d.elim
theorem Zni (ha:DAA K EX Γ Γ' ta fa):DE K EX Γ Γ' .P (tCB Zp8 ta) (fun ρ=>(fa ρ).bind ZkM):=by
 refine ZjS (fun {H xs vs Q} h z e=>?_) (fun xs e h=>?_) ha
 ·unfold ZkM at e
  split at e<;>first|(cases e;done)|skip
  split at e<;>first|(cases e;done)|skip
  rename_i hl
  cases e
  obtain⟨v,rfl,h1⟩:=ZcM h
  cases h1
  exact⟨rfl,fun q=>⟨_,rfl,hl,q _ rfl⟩⟩
 ·unfold ZkM at h;split at h<;>first|(cases h;done)|skip
  split at h<;>cases h
end
noncomputable def Its (z:Str):It:=⟨fun i _=>i<z.cps.size,fun i H x H'=>H'=H/\∃c,z.cps[i]?=some c/\x=.str ⟨#[c]⟩,fun i _=>z.cps.size<=i⟩
theorem Ziz {P:Program}{w:World}{K:W.Frag}{tg:Expr} (it:Addr) (z:Str) (t:Tok):Znw P w K tg (Its z) [it] it (fun i h=>h.IsStrIter it "str_ascii_iterator" z t i) where
 mem:=by simp
 obj:=fun i h st b hb=>by
  have e:b=it:=by simpa using hb
  subst e
  obtain⟨o,e,c,d⟩:=st
  exact⟨o,e,fun v z=>by rw[d] at z;cases z⟩
 keep:=fun i h h' st k=>by
  obtain⟨o,e,c,d⟩:=st
  exact⟨o,k it (by simp) o e,c,d⟩
 item:=by
  intro X hP hw hK hc i pins s σ H E I hf st hg
  subst hP hw hK
  have hg:i<z.cps.size:=hg
  obtain⟨f0,f1,f2,f3,f4,f5⟩:=hf it (by simp)
  have hc':z.cps[i]?=some (z.cps[i]):=by simp[hg]
  refine wpAny_pyNext_ascii_item st hc' fun h' st' sb=>?_
  have I1:Inv X pins σ H { s with heap:=h',toks:=s.toks+1 }:=I.turned (t':=s.toks+1) (fun b o hb e=>(sb.2 b hb).trans e) f0 f1 f3 f4 f5
  obtain⟨o,e,c,d⟩:=id st'
  exact⟨_,rfl,Zls (s:={ s with heap:=h',toks:=s.toks+1 }) e c d (by decide) ⟨.str ⟨#[z.cps[i]]⟩,H,I1,⟨_,rfl⟩,⟨rfl,_,hc',rfl⟩,st',fun b hb=>(hf b hb).1⟩⟩
 done:=by
  intro X hP hw hK hc i pins s σ H E I hf st hg
  subst hP hw hK
  have hg:z.cps.size<=i:=hg
  obtain⟨f0,f1,f2,f3,f4,f5⟩:=hf it (by simp)
  exact wpAny_pyNext_ascii_end (I.ok.hd hc) st (by simp;omega) fun h' eb=>⟨rfl,I.turned (t':=s.toks) (fun b o hb e=>eb b o hb e) f0 f1 f3 f4 f5⟩
 self:=fun _ _ _ _ _ st h=>wpAny_pyIter_striter_ascii st h
theorem Ziy {P:Program}{w:World}{K:W.Frag}{tg:Expr} (it:Addr) (z:Str) (t:Tok):Znw P w K tg (Its z) [it] it (fun i h=>h.IsStrIter it "str_iterator" z t i) where
 mem:=by simp
 obj:=fun i h st b hb=>by
  have e:b=it:=by simpa using hb
  subst e
  obtain⟨o,e,c,d⟩:=st
  exact⟨o,e,fun v z=>by rw[d] at z;cases z⟩
 keep:=fun i h h' st k=>by
  obtain⟨o,e,c,d⟩:=st
  exact⟨o,k it (by simp) o e,c,d⟩
 item:=by
  intro X hP hw hK hc i pins s σ H E I hf st hg
  subst hP hw hK
  have hg:i<z.cps.size:=hg
  obtain⟨f0,f1,f2,f3,f4,f5⟩:=hf it (by simp)
  have hc':z.cps[i]?=some (z.cps[i]):=by simp[hg]
  refine wpAny_pyNext_wide_item st hc' fun h' st' sb=>?_
  have I1:Inv X pins σ H { s with heap:=h',toks:=s.toks+1 }:=I.turned (t':=s.toks+1) (fun b o hb e=>(sb.2 b hb).trans e) f0 f1 f3 f4 f5
  obtain⟨o,e,c,d⟩:=id st'
  exact⟨_,rfl,Zls (s:={ s with heap:=h',toks:=s.toks+1 }) e c d (by decide) ⟨.str ⟨#[z.cps[i]]⟩,H,I1,⟨_,rfl⟩,⟨rfl,_,hc',rfl⟩,st',fun b hb=>(hf b hb).1⟩⟩
 done:=by
  intro X hP hw hK hc i pins s σ H E I hf st hg
  subst hP hw hK
  have hg:z.cps.size<=i:=hg
  obtain⟨f0,f1,f2,f3,f4,f5⟩:=hf it (by simp)
  exact wpAny_pyNext_wide_end (I.ok.hd hc) st (by simp;omega) fun h' eb=>⟨rfl,I.turned (t':=s.toks) (fun b o hb e=>eb b o hb e) f0 f1 f3 f4 f5⟩
 self:=fun _ _ _ _ _ st h=>wpAny_pyIter_striter_wide st h
noncomputable def Zq8 (tl:TE):TI:=fun σ H R=>tl σ H fun x H1=>∃z,x=.str z/\R (Its z) H1
theorem Zoh {X:Cx}{tg l:Expr}{tl:TE} (hl:PE X l tl):PI X tg l (Zq8 tl):=by
 intro pins s σ H R I h
 refine thn (hl pins s σ H _ I h) fun v s1 ⟨x,H1,I1,r1,q1⟩=>?_
 obtain⟨z,rfl,q⟩:=q1
 obtain⟨t,rfl⟩:=r1
 have fp:∀b∈[s1.heap.objs.size],Zkr X pins H1 b:=fun b hb=>by
  have e:b=s1.heap.objs.size:=by simpa using hb
  subst e
  exact I1.fpOk (Z0D _) (I1.hok.fresh (Z0D _))
 cases ha:z.cps.all (·<128)
 ·exact wpAny_pyIter_wide ha ⟨s1.heap.objs.size,[s1.heap.objs.size],_,_,H1,rfl,I1.kept (t':=s1.toks) fun b o e=>Heap.get?_push_of_some _ e,Ziy _ z t,⟨_,Heap.get?_push_size _ rfl,rfl,rfl⟩,fp,q⟩
 ·exact wpAny_pyIter_ascii ha ⟨s1.heap.objs.size,[s1.heap.objs.size],_,_,H1,rfl,I1.kept (t':=s1.toks) fun b o e=>Heap.get?_push_of_some _ e,Ziz _ z t,⟨_,Heap.get?_push_size _ rfl,rfl,rfl⟩,fp,q⟩
noncomputable def ZqC (x:PV):Rr (List PV):=match x with
 |.str z=>.ok (z.cps.toList.map fun c=>PV.str ⟨#[c]⟩)
 |_=>.bad
section
variable {K:W.Frag}{H:Hp}{EX:PX->Hp->Prop}{Γ Γ':List Md}{te:TE}{f:List PV->Rr PV}
theorem ZmZ {z:Str}{S:Addr->Prop}:ItP K S (Its z) (z.cps.toList.map fun c=>PV.str ⟨#[c]⟩) H:=by
 intro i
 constructor
 ·intro x hx
  rw[Z0N] at hx
  obtain⟨c,hc,rfl⟩:=Z1l.mp hx
  have hc:z.cps[i]?=some c:=by simpa using hc
  refine⟨(Array.getElem?_eq_some_iff.mp hc).1,fun v H' ⟨e,c',y,hv⟩=>?_⟩
  subst e
  rw[hc] at y;cases y
  subst hv
  exact⟨ZL.refl _,rfl⟩
 ·intro hx
  have:=Z1b.mp hx
  show z.cps.size<=i
  simpa using this
theorem ZoV (he:DE K EX Γ Γ' .A te f):DI K EX Γ Γ' (Zq8 te) (fun ρ=>(f ρ).bind ZqC):=fun B H0 H σ ρ F R Q A d=>by
 refine he B H0 H σ ρ F R _ A (d.bind.imp (fun x _ d v H1 s1 r1=>?_) fun e q=>q)
 obtain⟨F1,f1,p1,A1⟩:=r1
 cases x with
 |str z =>
  cases p1
  exact⟨z,rfl,d _ H1 F1 s1 f1 A1 fun H2 F2 _=>ZmZ⟩
 |_=>exact d.elim
end
section
variable {prog:Program}{w:World}{A:Around}{E:Value->Shared->Prop}{s:Shared}{x y:Str}{t u:Tok}{Q:Value->Shared->Prop}
open Builtin Builtin.Str
theorem Zh4 (hy:(y.length==0)=false)
  (h:∀(l:List (Str×Tok)) (k:Nat),l.map (·.1)=Txt.split x y->Q (.ref s.heap.objs.size) { s with heap:=s.heap.push { cls:=.type "list",data:=.seq (strValues l).toArray },toks:=k })
  (hsz:x.length+2<=sizeLine):wpAny (model prog w) A (call (.builtin "str.split") [.str x t,.str y u]) Q E s:=by
 have hn:(partsBetween x (occurrences x y 0 x.length (x.length+1)) y.length).length<=sizeLine:=by
  have e1:=StrLaws.occ_length_le x y 0 x.length (x.length+1)
  rw[length_partsBetween];omega
 cases h1:(decide (x.length<y.length) || decide (strKind x<strKind y))
 ·cases hf:(occurrences x y 0 x.length (x.length+1)).isEmpty
  ·refine call_meets F.slot_str_split (typeIs_str _ _ _) F.entry_str_split (F.args_str_split_2 _ _) (meets_str_split_sep x y t u h1 hy hf (by omega) hn) ?_
   show wants Q E _ { s with toks:=_,heap:=s.heap.push { cls:=.type "list",data:=.seq (strsFrom s.toks (partsBetween x (occurrences x y 0 x.length (x.length+1)) y.length)).toArray } }
   rw[strsFrom_eq]
   exact h (numbered s.toks _) _ ((numbered_texts _ _).trans ((if_neg (ne_true_of_eq_false h1)).trans (if_neg (ne_true_of_eq_false hf))).symm)
  ·exact call_meets F.slot_str_split (typeIs_str _ _ _) F.entry_str_split (F.args_str_split_2 _ _) (meets_str_split_not_found x y t u h1 hy hf)
    (h [(x,t)] s.toks ((if_neg (ne_true_of_eq_false h1)).trans (if_pos hf)).symm)
 ·exact call_meets F.slot_str_split (typeIs_str _ _ _) F.entry_str_split (F.args_str_split_2 _ _) (meets_str_split_cannot_occur x y t u h1)
   (h [(x,t)] s.toks (if_pos h1).symm)
theorem ZeB:∀(l:List (Str×Tok)),JD ((l.map (·.1)).map V.str) (strValues l)
 |[]=>.nil
 |p::l=>.cons ⟨_,rfl⟩ (ZeB l)
end
def ZlP:V->List V->Hp->VK->Prop:=fun x xs H Q=>∃a b,x=.str a/\xs=[.str b]/\1<=b.length/\a.length+2<=sizeLine/\(Txt.split a b).length<=sizeLine/\∀l,H l=none->Q (.ref l) (upd H l (.lst ((Txt.split a b).map V.str)))
section
variable {X:Cx}
theorem Zld:MtR X "str.split" ZlP:=by
 intro pins s σ H x xs v us Q I rx r h
 obtain⟨a,b,rfl,rfl,hb,hl,hn,q⟩:=h
 obtain⟨t,rfl⟩:=rx
 obtain⟨u,rfl,ru⟩:=ZfC r
 obtain⟨t',rfl⟩:=ru
 refine Zh4 (by rw[beq_eq_false_iff_ne];omega) (fun l k e=>?_) hl
 have hv:=ZeB l
 rw[e] at hv
 exact⟨.ref s.heap.objs.size,_,I.laid (t':=k) (fun b o e=>Heap.get?_push_of_some _ e) (Z0D _) (show Uj X.prog X.w _ _ _ (.lst ((Txt.split a b).map V.str)) from ⟨by rw[Z0K];exact hn,_,0,hv,Heap.get?_push_size _ rfl⟩),rfl,q _ (I.hok.fresh (Z0D _))⟩
end
noncomputable def ZgK (a:Str) (as:List PV):Rr PV:=match as with
 |[.str b]=>if 1<=b.length/\a.length<=100000/\(Txt.split a b).length<=1000000 then .ok (.lst ((Txt.split a b).map PV.str)) else .bad
 |_=>.bad
theorem Zdn:∀{ss:List Str},PV.flats (ss.map PV.str)=true
 |[]=>rfl
 |n::ns=>by simp only[Z0R,PV.flats,PV.flat,Zdn,Bool.and_self]
section
variable {K:W.Frag}{H:Hp}{EX:PX->Hp->Prop}{Γ Γ1 Γ2:List Md}{te:TE}{ta:TA}{f:List PV->Rr PV}{fa:List PV->Rr (List PV)}
theorem ZgB {S:Addr->Prop}:∀(ss:List Str),Reps K H S (ss.map PV.str) (ss.map V.str)
 |[]=>rfl
 |z::ss=>⟨_,_,rfl,rfl,ZgB ss⟩
theorem Zlz (he:DE K EX Γ Γ1 .A te f) (ha:DAA K EX Γ1 Γ2 ta fa):DE K EX Γ Γ2 .F (tBM K "str" ZlP te ta) (fun ρ=>(f ρ).bind fun x=>(asS x).bind fun a=>(fa ρ).bind fun as=>ZgK a as):=fun B H0 H σ ρ F R Q A d=>by
 refine he B H0 H σ ρ F R _ A (d.bind.imp (fun x _ d v H1 s1 r1=>?_) fun e q=>q)
 obtain⟨F1,f1,p1,A1⟩:=r1
 cases x with
 |str a =>
  cases p1
  refine⟨rfl,ha B H0 H1 σ ρ F1 R _ A1 (Dn.imp (Dn.bind d) (fun as _ d us H2 F2 s2 f2 p2 A2=>?_) fun e q=>q)⟩
  unfold ZgK at d
  split at d
  ·rename_i b _
   split at d
   ·rename_i hc
    obtain⟨u,rfl,hu⟩:=ZcM p2
    cases hu
    refine⟨a,b,rfl,rfl,hc.1,Zb7 (by omega),Zb7 hc.2.2,fun l hl=>?_⟩
    exact d _ _ ((s1.trans s2).trans (ZL.new hl)) (Res.newP (s1.trans s2) (fun i z h=>f1 i z (f2 i z h)) (ZgB (S:=fun _=>True) _) Zdn A2 hl)
   ·exact d.elim
  ·exact d.elim
 |_=>exact d.elim
end
noncomputable def newT (xs:List PV):Rr PV:=if xs.length<=1000000 then .ok (.lst xs) else .bad
section
end
theorem Znt {z:Str}:ZqC (.str z)=.ok (z.cps.toList.map fun c=>PV.str ⟨#[c]⟩):=rfl
section
variable {prog:Program}{w:World}{A:Around}{E:Value->Shared->Prop}{h:Heap}{g:Array GenState}{d:Drawn}{t:Nat}{os:OsState}{nm q:Str}{C N:Addr}{bs bm bmB:List Value}{hdct:Bool}{sn:List Str}{sub:List Value}{ab:Bool}{col:Option Bool}{dd:Option Addr}{k0 k1 k2 k3 k5:Option Value}{B newId initId:String}
theorem Zh3 (F:ExcBaseFacts B newId initId bmB) (T:OwnTail h bmB bm) {mN:Str->Option Value}{us:List Value}{fI:Addr}{oI:Obj}{Q:PySem.Fin->Shared->Prop}
  (kC:h.get? C=some (excClassObj nm q C N bs bm hdct sn sub ab col dd k0 k1 k2 k3 k5 newId)) (kN:h.Ns N mN) (ki:mN "__init__"=some (.ref fI)) (kI:h.get? fI=some oI) (kc:oI.cls=.type "function")
  (go:∀h' e,Heap.MadeExcOf h h' e (.ref C) us->wpAny (model prog w) A (call (.ref fI) (.ref e::us)) (fun r s'=>r=.none/\Q (.done (.ret (.ref e))) s') E ⟨h',g,d,t,os⟩) (hz:us.length<=sizeLine) :
  wpAny (model prog w) A (Builtin.«type.__call__» ⟨.ref C::us,[]⟩) Q E ⟨h,g,d,t,os⟩:=by
 repeat (first|with_reducible refine wpAny_loadPart_at kC ?_|with_reducible refine wpAny_madeBy_exc kC ?_|wp_step)
 refine codeAny_call_builtin_code (Code.quiet_builtin _ F.quiet) (wpAny_check_new_subT F T kC (codeAny_exc_new_subT F T kC ?_ hz))
 show wpAny _ _ _ _ _ _
 generalize eo1:({ cls:=.type "tuple",data:=.seq us.toArray }:Obj)=o1
 generalize eo2:({ cls:=.ref C,data:=.fields #[.ref h.objs.size,.none,.none,.none,.bool false,.none] }:Obj)=o2
 have up:∀b o,h.get? b=some o->((h.push o1).push o2).get? b=some o:=fun b o e=>Heap.get?_push_of_some _ (Heap.get?_push_of_some _ e)
 have gC:=up _ _ kC
 have gI:=up _ _ kI
 have gN:((h.push o1).push o2).Ns N mN:=kN.keeps up
 have gT:=T.keeps up
 have ge:((h.push o1).push o2).get? (h.objs.size+1)=some o2:=by subst eo1 eo2;heap_get
 have gm:(Value.ref C::bm).contains (.ref C)=true:=by simp
 have c2:o2.cls=.ref C:=by subst eo2;rfl
 unfold isInstance
 repeat (first|(with_reducible refine wpAny_loadPart_at ge ?_;rw[c2])|(with_reducible refine wpAny_isSubtype_exc gC ?_;rw[gm])|wp_step)
 show wpAny _ _ (typeLookup (.ref C) _) _ _ _
 refine wpAny_typeLookup_tail gC gN gT F.mroIs F.init.lookup ?_
 rw[ki]
 refine wpAny_holding (wpAny_bind ?_)
 unfold bindSpecial
 refine wpAny_bind (wpAny_typeOf (T := "function") ⟨_,gI,kc⟩ ?_)
 rw[if_pos (by decide)]
 refine wpAny_pure (wpAny_bind (wpAny_mono (go _ (h.objs.size+1) ⟨up,Heap.get?_none_of_le (Z1K _),h.objs.size,by rw[ge];exact congrArg some eo2.symm,Heap.get?_none_of_le (Z0D _), ?_⟩) (fun r s' hr=>?_) fun _ _ x=>x))
 ·rw[<- eo1] at *
  exact Heap.get?_push_of_some _ (Heap.get?_push_at rfl rfl)
 ·obtain⟨rfl,hQ⟩:=hr
  wp_walk
  exact hQ
theorem Zif (F:ExcBaseFacts B newId initId bmB) (T:OwnTail h bmB bm) {mN:Str->Option Value}{us:List Value}{fI:Addr}{oI:Obj}{Q:Value->Shared->Prop}
  (kC:h.get? C=some (excClassObj nm q C N bs bm hdct sn sub ab col dd k0 k1 k2 k3 k5 newId)) (kN:h.Ns N mN) (ki:mN "__init__"=some (.ref fI)) (kI:h.get? fI=some oI) (kc:oI.cls=.type "function")
  (go:∀h' e,Heap.MadeExcOf h h' e (.ref C) us->wpAny (model prog w) (A.under (.builtin "type.__call__" ⟨.ref C::us,[]⟩)) (call (.ref fI) (.ref e::us)) (fun r s'=>r=.none/\Q (.ref e) s') E ⟨h',g,d,t,os⟩) (hz:us.length<=sizeLine) :
  wpAny (model prog w) A (call (.ref C) us) Q E ⟨h,g,d,t,os⟩:=by
 have l1:=tc_lookup
 have l2:=tc_bind (.ref C)
 have lT:(⟨h,g,d,t,os⟩:Shared).TypeIs (.ref C) "type":=⟨_,kC,rfl⟩
 refine wpAny_call (codeAny_of_tree ?_)
 show wpAny _ _ (callAny (.ref C) _) _ _ _
 repeat (any_goals (first|assumption|with_reducible refine wpAny_loadPart_at kC ?_|wp_step))
 exact⟨rfl,codeAny_call_builtin_at (Code.quiet_builtin _ (by decide +kernel)) entry_typeCall (wpAny_check_type_call_sub kC (Zh3 F T kC kN ki kI kc (fun h' e hm=>go h' e hm) hz))⟩
end
section
variable {M:Model}{A:Around}{E:Value->Shared->Prop}{env:Env}
variable {nm q:Str}{C N:Addr}{bs bm:List Value}{hdct:Bool}{sn:List Str}{sub:List Value}{ab:Bool}{col:Option Bool}{dd:Option Addr}{k0 k1 k2 k3 k5:Option Value}{newId:String}
noncomputable def Zf5 (C t:Addr) (od:Option Addr):Obj:={ cls:=.ref C,dict:=od,data:=.fields #[.ref t,.none,.none,.none,.bool false,.none] }
theorem ZhD {s:Shared}{x:Sem Value}{Q:Flow->Shared->Prop} (hB:bm.contains (.type "BaseException")=true) (hh:A.handled=none)
  (go:wpAny M A x (fun v s₁=>∃e t od,v=.ref e/\s₁.heap.get? C=some (excClassObj nm q C N bs bm hdct sn sub ab col dd k0 k1 k2 k3 k5 newId)/\s₁.heap.get? e=some (Zf5 C t od)/\E (.ref e) s₁) E s) :
  wpAny M A (raiseStmt env (some x) none) Q E s:=by
 have hm:(Value.ref C::bm).contains (.type "BaseException")=true:=by rw[List.contains_cons,hB,Bool.or_true]
 unfold raiseStmt
 refine wpAny_bind (wpAny_mono go (fun v s₁ h₁=>?_) fun _ _ x=>x)
 obtain⟨e,t,od,rfl,kC,ke,hE⟩:=h₁
 obtain⟨hp,g,d,tk,os⟩:=s₁
 unfold Zf5 at ke
 repeat (first|with_reducible refine wpAny_loadPart_at ke ?_|with_reducible refine wpAny_loadPart_at kC ?_|(with_reducible refine wpAny_isSubtype_exc kC ?_;rw[hm])|wp_step)
 exact wpAny_raiseNew_none hh hE
end
noncomputable def ZcV:List Value->Bool
 |.ref _::r=>ZcV r
 |l=>l==Zmq
theorem Zc4 {l:List Value} (e:ZcV l=true):(∃C r,l=.ref C::r/\ZcV r=true)\/l=Zmq:=by
 unfold ZcV at e
 split at e
 ·exact .inl ⟨_,_,rfl,e⟩
 ·exact .inr (by simpa using e)
theorem ZgE (self:Value):∀(n:Nat) {l:List Value},l.length<=n->ZcV l=true->refuseLoop self "__setattr__" l=pure ()
 |n,l,hl,e=>by
  rcases Zc4 e with ⟨C,r,rfl,e'⟩|rfl
  ·cases n with
   |zero=>simp at hl
   |succ n=>rw[refuseLoop_ref];exact ZgE self n (by simpa using hl) e'
  ·exact PySem.F.store_ValueError.passes self
theorem ZoL:∀(n:Nat) {l:List Value},l.length<=n->ZcV l=true->l.contains (.type "object")=true/\l.isEmpty=false
 |n,l,hl,e=>by
  rcases Zc4 e with ⟨C,r,rfl,e'⟩|rfl
  ·cases n with
   |zero=>simp at hl
   |succ n=>exact⟨by rw[List.contains_cons,(ZoL n (by simpa using hl) e').1,Bool.or_true],rfl⟩
  ·exact⟨by decide,rfl⟩
noncomputable def Ziw (K:W.Frag) (C:Addr):Bool:=(PySem.W.clsIn K C).any fun cd=>ZcV cd.mro
section
variable {prog:Program}{w:World}{A:Around}{E:Value->Shared->Prop}{R:Result->Shared->Prop}{s:Shared}{K:W.Frag}{x C t:Addr}
theorem Zji {ox:Obj}{od:Option Obj}{name:Str}{tk:Tok}{v:Value}{r:Option Value} (X:K.In s.heap) (I:PySem.W.InstAt s.heap x ox C od) (hp:Ziw K C=true) (ht:PySem.W.takerIn K C name=some r)
  (go:∀b,wpAny (model prog w) A.in1 (match r with|some a=>Builtin.ObjectAttr.setByDescriptor a (.ref x) v|none=>Builtin.ObjectAttr.storeInOwnDict (.ref x) (.ref C) (.str name tk) name v b)
   (fun fin s'=>match fin with|.done f=>R (.ok f) s'|.again c'=>c'.quiet=true/\codeAny (model prog w) A c' R s') (fun e s'=>R (.error e) s') s) :
  codeAny (model prog w) A (.call (.builtin "object.__setattr__") ⟨[.ref x,.str name tk,v],[]⟩) R s:=by
 have SO:=PySem.F.store_object
 obtain⟨cd,hc,ho⟩:=PySem.W.any_some hp
 obtain⟨h1,h2⟩:=ZoL _ (Z0D _) ho
 have isO:PySem.W.Looks (model prog w) s.heap (isInstance (.ref x) (.type "object")) true:=I.type.andThen (PySem.W.looks_mroIn X (by unfold PySem.W.mroIn;rw[hc,Z1v,if_neg (by rw[h2];decide),h1]))
 refine codeAny_call_builtin SO.slot.plain SO.entry (@PySem.W.check_slot (model prog w) _ _ s "object.__setattr__" "object" "__setattr__" (.ref x) [.str name tk,v] [] _ SO.kind SO.split isO (SO.args (.ref x) (.str name tk) v) ?_)
 obtain⟨attr,ha,hr⟩:=Option.bind_eq_some_iff.mp ht
 have lm:PySem.W.Looks (model prog w) s.heap (mroOf (.ref C)) cd.mro:=(PySem.W.looks_clsIn X hc).andThen .now
 have lt:PySem.W.Looks (model prog w) s.heap (Builtin.ObjectAttr.storeTaker? attr) r:=by
  cases attr with
  |none=>cases hr;exact .now
  |some a =>
   obtain⟨b,hb,rfl⟩:=Z1l.mp hr
   refine(PySem.W.looks_takesIn X hb).andThen ?_
   cases b<;>exact .now
 rw[PySem.W.osa_eq,refuse_eq]
 refine wpAny_bind (wpAny_bind (I.type.here (wpAny_bind (lm.here ?_))))
 rw[ZgE _ _ (Z0D _) ho]
 exact wpAny_pure (wpAny_bind (I.type.here (wpAny_bind ((PySem.W.looks_findIn X ha).here (wpAny_bind (lt.here (go _)))))))
theorem Zkt {name:Str}{v:Value}{Q:Unit->Shared->Prop} (X:K.In s.heap) (hx:s.heap.get? x=some (Zf5 C t none))
  (hs:PySem.W.findIn K (.ref C) "__setattr__"=some (some (.builtin "object.__setattr__"))) (hp:Ziw K C=true) (ht:PySem.W.takerIn K C name=some none) (hh:PySem.W.hasDictIn K C=true)
  (go:∀h' d tk,s.heap.objs.size<=d->h'.get? x=some (Zf5 C t (some d))->h'.Ns1 d (fun y=>if y=name then some v else none)->(∀b o,b≠x->s.heap.get? b=some o->h'.get? b=some o)->Q () { s with heap:=h',toks:=tk }) :
  wpAny (model prog w) A (setAttr (.ref x) name v) Q E s:=by
 have J:PySem.W.InstAt s.heap x (Zf5 C t none) C none:=⟨hx,rfl,rfl,trivial⟩
 refine PySem.W.set_plain X J hs (Zji (s:={ s with toks:=s.toks+1 }) (r:=none) X J hp ht fun b=>?_)
 obtain⟨cd,hc,hd'⟩:=PySem.W.any_some hh
 have hx2:s.heap.get? x=some ⟨.ref C,none,.fields #[.ref t,.none,.none,.none,.bool false,.none],#[]⟩:=hx
 refine wpAny_bind (wpAny_pure (wpAny_bind (wpAny_bind (wpAny_loadPart hx2 (wpAny_bind (PySem.W.Looks.here (s:={ s with toks:=s.toks+1 }) (PySem.W.looks_clsIn X hc) ?_))))))
 rw[hd']
 show wpAny _ _ (if (!true || !typeHasDict (.ref C))=true then _ else _) _ _ _
 rw[if_neg (by simp[typeHasDict])]
 dsimp only
 generalize eo:({ cls:=.type "dict",data:=.dict #[] }:Obj)=oD
 have hn:x≠s.heap.objs.size:=Z0O (Heap.lt_size hx)
 have hx1:(s.heap.push oD).get? x=some (Zf5 C t none):=Heap.get?_push_of_some _ hx
 refine wpAny_bind (wpAny_alloc' (wpAny_bind (wpAny_update' hx1 (wpAny_pure ?_))))
 generalize eh:(s.heap.push oD).update x (fun o=>{ cls:=o.cls,dict:=some s.heap.objs.size,data:=o.data,slots:=o.slots })=h1
 have gx:h1.get? x=some (Zf5 C t (some s.heap.objs.size)):=by subst eh;exact Heap.get?_update_self _ hx1 rfl
 have gd:h1.get? s.heap.objs.size=some oD:=by subst eh;exact(Heap.get?_update_ne _ _ _ _ hn.symm).trans (Heap.get?_push_at rfl (by rw[<- eo];rfl))
 have gN:h1.Ns s.heap.objs.size (fun _=>none):=by subst eo;exact⟨_,#[],_,gd,rfl,fun e he=>absurd he (by simp),fun _=>rfl⟩
 have gk:∀b o,b≠x->s.heap.get? b=some o->h1.get? b=some o:=fun b o nb q=>by subst eh;exact(Heap.get?_update_ne _ _ _ _ nb).trans (Heap.get?_push_of_some _ q)
 show wpAny _ _ (Builtin.ObjectAttr.storeInDict s.heap.objs.size (.str name s.toks) name v) _ _ _
 unfold Builtin.ObjectAttr.storeInDict Builtin.ObjectAttr.newKeyGuard
 refine wpAny_bind (wpAny_pure (wpAny_bind (wpAny_nsSet1 (s:={ s with heap:=h1,toks:=s.toks+1 }) (Heap.Ns1.of_empty gN) fun h' hn' hs'=>?_)))
 obtain⟨oE,es,ep,hoE,hdE,hcE⟩:=hn'.count (Within.cons name v Within.nil)
 refine wpAny_bind (wpAny_lookBehind hoE (by rw[hdE];exact pastItsLine_dict (Z0U hcE (by rw[Z0T,Z14,sizeLine_eq];omega))) ?_)
 exact wpAny_pure (go h' s.heap.objs.size _ (Z0D _) ((hs'.2 x hn).trans gx) hn' fun b o nb q=>(hs'.2 b (Z0O (Heap.lt_size q))).trans (gk b o nb q))
end
noncomputable def Zdp (K:W.Frag) (C f:Addr):Bool:=match K.lookup C with
 |some ⟨.type "type",_,.cls cd,sl⟩=>(match cd.mro,sl.toList with
  |.ref C2::bm,[_,_,_,_,some (.builtin n),_]=>C2==C&&n == "ValueError.__new__" && !cd.hasDel&&PySem.W.tailIn K Zmq bm&&PySem.W.nsOkIn K cd.ns&&PySem.W.nsIn K cd.ns "__init__" == some (some (.ref f))
  |_,_=>false)
 |_=>false
theorem Zov {K:W.Frag}{h:Heap}{N:Addr}{m:Str->Option Value}{n:Str}{v:Value} (X:K.In h) (G:h.Ns N m) (e:PySem.W.nsIn K N n=some (some v)):m n=some v:=by
 obtain⟨o,es,ep,ho,hd,-,hf⟩:=G
 unfold PySem.W.nsIn at e
 split at e
 ·rename_i q
  have ho2:=X _ _ q
  rw[ho] at ho2
  cases ho2;cases hd
  split at e
  ·rename_i en hen
   cases e
   rw[<- hf];unfold nsFind findBy
   rw[<- Array.find?_toList,hen];rfl
  ·split at e<;>cases e
 ·cases e
theorem Zhq {K:W.Frag}{h₀:Heap}{C f:Addr} (X:K.In h₀) (e:Zdp K C f=true) :
  ∃tl N nm qn bs hdct sn sub ab col dd k0 k1 k2 k3 k5 mN,h₀.get? C=some (excClassObj nm qn C N bs tl hdct sn sub ab col dd k0 k1 k2 k3 k5 "ValueError.__new__")/\h₀.Ns N mN/\mN "__init__"=some (.ref f)/\OwnTail h₀ Zmq tl:=by
 unfold Zdp at e
 split at e
 ·rename_i dd cd sl ho
  split at e
  ·rename_i C2 bm k0 k1 k2 k3 n k5 hm hs
   simp only[Bool.and_eq_true,beq_iff_eq,Bool.not_eq_true'] at e
   obtain⟨⟨⟨⟨⟨rfl,rfl⟩,hdel⟩,ht⟩,hok⟩,hni⟩:=e
   obtain⟨nm,bs,mro,ns,qn,hd,sn,sub,ab,col,del⟩:=cd
   dsimp only at hm hdel hok hni
   subst hm hdel
   obtain rfl:sl=#[k0,k1,k2,k3,some (.builtin "ValueError.__new__"),k5]:=by
    obtain⟨l⟩:=sl
    simp only at hs
    rw[hs]
   have N0:=Heap.Ns.of_isNs (PySem.W.isNs_of_in X hok)
   exact⟨bm,ns,nm,qn,bs,hd,sn,sub,ab,col,dd,k0,k1,k2,k3,k5,_,X _ _ ho,N0,Zov X N0 hni,PySem.W.tail_of_in X ht⟩
  ·cases e
 ·cases e
section
variable {prog:Program}{w:World}{A:Around}{E:Value->Shared->Prop}{s:Shared}
variable {nm q:Str}{C N x t:Addr}{bs bm:List Value}{hdct:Bool}{sn:List Str}{sub:List Value}{ab:Bool}{col:Option Bool}{dd:Option Addr}{k0 k1 k2 k3 k5:Option Value}
theorem ZjC {us:List Value}{Q:Value->Shared->Prop} (T:OwnTail s.heap Zmq bm) (kC:s.heap.get? C=some (excClassObj nm q C N bs bm hdct sn sub ab col dd k0 k1 k2 k3 k5 "ValueError.__new__"))
  (hx:s.heap.get? x=some (Zf5 C t none)) (hz:us.length<=sizeLine)
  (go:∀h' t',h'.get? x=some (Zf5 C t' none)->(∀b o,b≠x->s.heap.get? b=some o->h'.get? b=some o)->Q .none { s with heap:=h' }) :
  wpAny (model prog w) A (call (.builtin "ValueError.__init__") (.ref x::us)) Q E s:=by
 have F:=PySem.F.excBase_ValueError
 obtain⟨h,g,d,tk,os⟩:=s
 have hx2:h.get? x=some { cls:=.ref C,data:=.fields #[.ref t,.none,.none,.none,.bool false,.none] }:=hx
 refine wpAny_call (codeAny_call_builtin F.init.plain F.initEntry (wpAny_check_init_subT F T kC hx2 rfl ?_))
 wp_walk
 have nx:x≠h.objs.size:=Z0O (Heap.lt_size hx2)
 exact go _ h.objs.size (Heap.get?_update_self _ (Heap.get?_push_of_some _ hx2) rfl) fun b o nb e=>(Heap.get?_update_ne _ _ _ _ nb).trans (Heap.get?_push_of_some _ e)
end
def Zgy (C e:Addr):Heap->Prop:=fun h=>∃t,h.get? e=some (Zf5 C t none)
def Zgz (C e d:Addr):Heap->Prop:=fun h=>∃t,h.get? e=some (Zf5 C t (some d))
theorem Zme {P:Program}{w:World}{H:Hp}{h:Heap}{C e t:Addr} (q:h.get? e=some (Zf5 C t none)):Uj P w H h e (.ext (Zgy C e)):=
 ⟨⟨t,q⟩,⟨_,q⟩,fun h1 h2 ⟨t',e'⟩ k=>⟨t',k _ e'⟩⟩
theorem Zot {P:Program}{w:World}{H:Hp}{h:Heap}{C e d t:Addr} (q:h.get? e=some (Zf5 C t (some d))):Uj P w H h e (.ext (Zgz C e d)):=
 ⟨⟨t,q⟩,⟨_,q⟩,fun h1 h2 ⟨t',e'⟩ k=>⟨t',k _ e'⟩⟩
noncomputable def Zfi (K:W.Frag) (S:Addr):Bool:=(PySem.W.specialIn K (.ref S) "__getattribute__" == some (some (.builtin "type.__getattribute__")))&&PySem.W.readsIn K S (.type "type") &&
 (match PySem.W.findCls K (.ref S) (.type "type") "__init__" with|some (.val v)=>v==.builtin "ValueError.__init__" | _=>false)
theorem Zia {K:W.Frag}{S:Addr} (h:Zfi K S=true):PySem.W.specialIn K (.ref S) "__getattribute__"=some (some (.builtin "type.__getattribute__"))/\PySem.W.readsIn K S (.type "type")=true/\PySem.W.findCls K (.ref S) (.type "type") "__init__"=some (.val (.builtin "ValueError.__init__")):=by
 unfold Zfi at h
 simp only[Bool.and_eq_true,beq_iff_eq] at h
 refine⟨h.1.1,h.1.2, ?_⟩
 have h2:=h.2
 split at h2
 ·rename_i v e
  rw[e,beq_iff_eq.mp h2]
 ·cases h2
theorem ZnH {H:Hp}{a:Addr}{o:HO} (h:H a=some o):upd H a o=H:=by
 funext b
 unfold upd
 by_cases z:b=a
 ·rw[if_pos z,z,h]
 ·rw[if_neg z]
noncomputable def ZlI (C:Addr) (ta:TA):TE:=fun σ H Q=>ta σ H fun vs H1=>∃e w,vs=[.ref e,.str w]/\H1 e=some (.ext (Zgy C e))/\Q .non H1
section
variable {X:Cx}{pl:Sem Bool}{x:Str}{S C f:Addr}{np apos pos:Pos}{e:Expr}{es:List Expr}{ta:TA}
theorem ZkE (hq:Zdp X.K C f=true) (hS:Zfi X.K S=true) (hg:Gl X x) (hm:X.mg x=some (.ref S)) (ha:PA X (e::es) ta) (hdb:(x==("__debug__":Str))=false:=by decide)
  (ht:eval (.Call (.Attribute (.Name x np) "__init__" apos) (e::es) [] pos) X.env=(do
   let ov <- eval (.Name x np) X.env
   standAt apos.atName
   let (f,first) <- holding [ov] (getMethod ov "__init__" pl)
   callWith pos f first (backTo pos (starEach (e::es) X.env)) (backToKw pos (keywordEach [] X.env))):=by rfl)
  (he:starEach (e::es) X.env=(false,eval e X.env)::starEach es X.env:=by rfl) (hpl:(backTo pos (starEach es X.env)).any (·.1)=false:=by rfl) :
  PE X (.Call (.Attribute (.Name x np) "__init__" apos) (e::es) [] pos) (ZlI C ta):=by
 intro pins s σ H Q I h
 obtain⟨g1,g2,g3⟩:=Zia hS
 refine PySem.W.methodCall_KW (pl:=pl) (ZaS I hg hm ?_ hdb) ht
 refine PySem.W.method_cls I.kIn g1 (PySem.W.cls_value I.kIn g2 g3 rfl ?_)
 have I0:Inv X pins σ H { s with toks:=s.toks+1 }:=I.tok _
 refine PyProof.Rows.callWith_builtin1 (thn (ha pos pins _ σ H _ I0 h) fun us s1 ⟨vs,H1,I1,r,ex,wd,hv,hx,q⟩=>?_) he hpl
 subst hv
 obtain⟨t,ht'⟩:=(I1.hok _ _ hx).1
 obtain⟨tl,N,nm,qn,bs,hdct,sn,sub,ab,col,dd,k0,k1,k2,k3,k5,mN,hC,hN,hni,T⟩:=Zhq I1.kIn hq
 cases r with
 |cons r1 rr =>
  cases rr with
  |cons r2 rr =>
   cases rr
   obtain rfl:_=Value.ref ex:=r1
   refine ZjC T hC ht' (by simp[sizeLine_eq]) fun h' t' e1 k=>⟨.non,H1, ?_,rfl,q⟩
   have J:=I1.write (x:=ex) (e:=ex) (o:=.ext (Zgy C ex)) (h':=h') (t':=s1.toks) (by rw[hx];exact True.intro) (.inl rfl) (fun b u nb z=>k b u nb z) ⟨_,e1⟩ (Zme e1)
   rw[ZnH hx] at J
   exact J
theorem Inv.trackO {pins:List (Addr×Obj)}{σ:St}{H:Hp}{s:Shared}{d:Addr}{o:HO} (I:Inv X pins σ H s) (hn:H d=none) (hL:d≠X.env.locals) (hC:∀x c,X.env.cells.lookup x=some c->c≠d) (hp:∀p∈X.pn++pins,p.1≠d) (h0:X.s₀.heap.get? d=none)
  (ho:Uj X.prog X.w (upd H d o) s.heap d o):Inv X pins σ (upd H d o) s:=by
 refine⟨I.ok,I.os,I.bare,⟨I.base.keep,I.base.slot,fun b u z n hx=>?_,I.base.there,fun b xs z=>?_,fun b u v z=>?_,fun b ps z=>?_⟩,I.loc,I.cell, ?_,fun x c z=>?_,fun p hq=>?_,fun b u z=>?_,I.len⟩
 ·rw[Zu (fun y=>by rw[y,h0] at z;cases z)];exact I.base.free b u z n hx
 ·have y:=I.base.tups b xs z
  rw[Zu (Z0 y hn)];exact y
 ·have y:=I.base.frzs b u v z
  rw[Zu (Z0 y hn)];exact y
 ·obtain⟨m,y⟩:=I.base.tbls b ps z
  exact⟨m,by rw[Zu (Z0 y hn)];exact y⟩
 ·rw[Zu (Ne.symm hL)];exact I.free
 ·rw[Zu (hC x c z)];exact I.freeC x c z
 ·obtain⟨a,b,c,d',e⟩:=I.pin p hq
  exact⟨a,by rw[Zu (hp p hq)];exact b,c,d',e⟩
 ·by_cases hb:b=d
  ·subst hb
   rw[ZD] at z;cases z
   exact ho
  ·rw[Zu hb] at z
   exact(I.hok b u z).stay (fun c v _ y=>y) (fun c y=>by rw[Zu (Z0 y hn)];exact y) fun c xs y=>by rw[Zu (Z0 y hn)];exact y
noncomputable def Zk9 (K:W.Frag) (C:Addr) (f:Str):Bool:=(PySem.W.findIn K (.ref C) "__setattr__" == some (some (.builtin "object.__setattr__")))&&Ziw K C&&(PySem.W.takerIn K C f==some none)&&PySem.W.hasDictIn K C
noncomputable def ZnZ (C:Addr) (f:Str) (ta tv:TE):TS:=fun D σ H=>tv σ H fun y H1=>ta σ H1 fun x H2=>∃e,x=.ref e/\H2 e=some (.ext (Zgy C e))/\∀d,H2 d=none->d≠e->D.nx σ (upd (upd H2 d (.xd [(f,y)])) e (.ext (Zgz C e d)))
theorem Zm5 {fd:Str}{o value:Expr}{pos':Pos}{ta tv:TE} (hex:X.ex=[]) (hc:Zk9 X.K C fd=true) (ha:PE X o ta) (hv:PE X value tv) (hs:swapsWith value (some (.Attribute o fd pos')) pos.line X.env=pure false:=by rfl):PS X (.Assign [.Attribute o fd pos'] value pos) (ZnZ C fd ta tv):=by
 intro pins s σ H D I h
 simp only[Zk9,Bool.and_eq_true,beq_iff_eq] at hc
 obtain⟨⟨⟨c1,c2⟩,c3⟩,c4⟩:=hc
 refine plainObj_wpAny_Assign_Attribute (thn (hv pins s σ H _ I h) fun u s1 ⟨y,H1,I1,ry,q⟩=>thn (ha pins s1 σ H1 _ I1 q) fun ov s2 ⟨x,H2,I2,rx,e,ex,hx,q2⟩=>?_) hs
 subst ex
 obtain rfl:ov=Value.ref e:=rx
 obtain⟨t,ht⟩:=(I2.hok _ _ hx).1
 refine Zkt I2.kIn ht c1 c2 c3 c4 fun h' d tk hd e1 n1 k=>?_
 have dn:H2 d=none:=I2.hok.fresh hd
 have ne:d≠e:=fun z=>by rw[z,hx] at dn;cases dn
 refine⟨σ,_, ?_,q2 d dn ne⟩
 have J:=I2.write (x:=e) (e:=e) (o:=.ext (Zgz C e d)) (h':=h') (t':=tk) (by rw[hx];exact True.intro) (.inl rfl) (fun b u nb z=>k b u nb z) ⟨_,e1⟩ (Zot e1)
 have out:∀b o,s2.heap.get? b=some o->b≠d:=fun b o z y=>by
  have:=Heap.lt_size z
  rw[y] at this
  exact absurd hd (Nat.not_le.mpr this)
 have J2:=J.trackO (d:=d) (o:=.xd [(fd,y)]) (by rw[Zu ne];exact dn) (fun z=>by obtain⟨m,⟨o,_,_,ho,_⟩,_⟩:=I2.loc;exact out _ _ ho z.symm) (fun x c z=>by obtain⟨v,o,ho,_⟩:=I2.cell x c z;exact out _ _ ho)
  (fun p hp=>out _ _ (I2.pin p hp).1) (by
   cases z:X.s₀.heap.get? d with
   |none=>rfl
   |some o=>obtain⟨o',z'⟩:=I2.base.there d o z (by rw[hex];simp);exact absurd rfl (out _ _ z')) ⟨_,n1,fun g=>by
    show Ziq ([(fd,y)].lookup g) (if g=fd then some u else none)
    by_cases z:g=fd
    ·have hb:(g==fd)=true:=beq_iff_eq.mpr z
     simp only[Z1o,hb,if_pos z];exact ry
    ·have hb:(g==fd)=false:=beq_eq_false_iff_ne.mpr z
     simp only[Z1o,hb,if_neg z];exact trivial⟩
 rw[show upd (upd H2 d (.xd [(fd,y)])) e (.ext (Zgz C e d))=upd (upd H2 e (.ext (Zgz C e d))) d (.xd [(fd,y)]) by
  funext b;unfold upd
  by_cases z1:b=d
  ·subst z1;rw[if_neg ne,if_pos rfl,if_pos rfl]
  ·rw[if_neg z1,if_neg z1]]
 exact J2
end
noncomputable def Zi9 (C:Addr):Sp:=fun vs H Q _=>∃e wd i,vs=[.ref e,.str wd,i]/\H e=some (.ext (Zgy C e))/\∀d,H d=none->d≠e->Q .non (upd (upd H d (.xd [("at",i)])) e (.ext (Zgz C e d)))
section
variable {P:Program}{w:World}{K:W.Frag}{mg:Str->Option Value}{base:Heap}
theorem Znd {qual:Str}{st:Stmt}{f C:Addr}{fd:FuncData}{k:Nat} (F:Fun K "__init__" qual st f fd) (S:Zs ["self", "words", "at"] ["self", "words", "at"] (Ze st))
  (hbody:∀(cdv:Value) (A:Around) (outer:List Env) (s:Shared) (H:Hp) (E:XK),ZbB k (A.deeper (envOfC qual (Ze st) s.heap.objs.size f cdv)) ->
   PSs (Zc9 CX0 P w K mg base ["self", "words", "at"] qual (Ze st) f cdv A outer s H E).nox (Zo st) (Zp6 (Zk6 (ZlI C (ZcK (ZfE 0) (ZcK (ZfE 1) Zko)))) (ZnZ C "at" (ZfE 0) (ZfE 2)))) :
  J5 P w K mg base CX0 (k+1) f fd ["self", "words", "at"] (Zi9 C):=by
 refine F.ok S (fun vs H Q E ⟨e,wd,i,h,_⟩=>by rw[h];rfl) fun cdv A outer s H vs Q E hr ⟨e,wd,i,hv,hx,q⟩=>⟨_,hbody cdv A outer s H E hr, ?_⟩
 subst hv
 refine⟨.ref e,rfl,.str wd,rfl,e,wd,rfl,hx,i,rfl,.ref e,rfl,e,rfl,hx,fun d dn ne=>q d dn ne⟩
end
noncomputable def Zi5 (C:Addr) (E:St->XK) (ta:TA):TS:=fun D σ H=>ta σ H fun vs H1=>∃wd i,vs=[.str wd,i]/\∀ea d,H1 ea=none->H1 d=none->d≠ea->E σ (.ref C) (some d) (upd H1 d (.xd [("at",i)]))
def Zpm (X:Cx) (E:St->XK):Prop:=∀(pins:List (Addr×Obj)) (σ:St) (H:Hp) (s:Shared) (ea C t d:Addr) (fs:List (Str×V)),Inv X pins σ H s->H ea=none->H d=some (.xd fs)->s.heap.get? ea=some (Zf5 C t (some d))->X.s₀.heap.get? ea=none ->
 E σ (.ref C) (some d) H->X.xe (.ref ea) s
section
variable {P:Program}{w:World}{K:W.Frag}{mg:Str->Option Value}{base:Heap}{N:List Str}{qual:Str}{scope:Scope}{f:Addr}{cd:Value}{A:Around}{outer:List Env}{s:Shared}{H:Hp}{E:XK}
theorem Zlg:Zpm (Zc9 (CX1 P w) P w K mg base N qual scope f cd A outer s H E) (fun _=>E):=fun pins σ H1 s1 ea C t d fs I new hd he h0 hE=>by
 have hin:∀env∈(Zc9 (CX1 P w) P w K mg base N qual scope f cd A outer s H E).stack,∀b,env.frame=some b->b∈ea::frs (Zc9 (CX1 P w) P w K mg base N qual scope f cd A outer s H E).stack:=fun env he b hb=>Z0P _ (Z12.mpr ⟨env,he,hb⟩)
 have trk:∀b u,H1 b=some u->b ∉ ea::frs (Zc9 (CX1 P w) P w K mg base N qual scope f cd A outer s H E).stack:=fun b u e z=>by
  rcases Z0G.mp z with z|z
  ·rw[z,new] at e;cases e
  ·rw[I.stkFree b z] at e;cases e
 have st:(PySem.W.hideAll s1.heap (ea::frs (Zc9 (CX1 P w) P w K mg base N qual scope f cd A outer s H E).stack)).StaysIn s1.heap:=fun b o q=>PySem.W.of_hideAll _ q
 have he0:(PySem.W.hideAll s1.heap (ea::frs (Zc9 (CX1 P w) P w K mg base N qual scope f cd A outer s H E).stack)).get? ea=none:=PySem.W.hideAll_none _ (Z1q ..)
 refine wpAny_mono (ZdX (Zcx _ _) (wpAny_leaving_firstW (Q:=fun _ s''=>∃h'',s''={ s1 with heap:=h'' }/\Heap.FlyingW (PySem.W.hideAll s1.heap (ea::frs (Zc9 (CX1 P w) P w K mg base N qual scope f cd A outer s H E).stack)) outer ea (.ref C) (.ref t) h''/\s1.heap.UpToSlots h'')
  (a0:=.ref t) (s:=s1) I.ok.frames (PySem.W.funFrames_hide I.stack hin) rfl he st he0 rfl rfl rfl fun h'' hL=>?_)) (fun _ s'' q=>?_) fun _ _ q=>q.1
 ·obtain⟨k1,⟨_,_,k2⟩,k3,k4⟩:=hL
  exact⟨h'',rfl,⟨k1,he0,k2,k3⟩,k4⟩
 ·obtain⟨⟨h'',rfl,fl,up⟩,dk⟩:=q
  refine⟨ea,d,.ref C,H1,rfl,Zgk (g:=s1.heap) (t:=t) (s':=s1) I rfl I.bare (Un.kept fun _ _ e=>e) (I.hok.kept fun _ _ e=>e) up fl st (fun b u e o q=>PySem.W.hideAll_get _ q (trk b u e)) (fun b o q n=>?_) new ⟨_,he,.inr ⟨rfl,fs,hd⟩⟩ dk,hE⟩
  obtain⟨o1,e1⟩:=(show Un (frs outer) [] H H1 s.heap s1.heap from I.base).there b o q (by simp)
  exact⟨o1,PySem.W.hideAll_get _ e1 fun z=>by
   rcases Z0G.mp z with z|z
   ·have h0:s.heap.get? ea=none:=h0
    rw[z,h0] at q;cases q
   ·exact n z⟩
end
section
variable {X:Cx}
theorem Inv.untrack {pins:List (Addr×Obj)}{σ:St}{H H':Hp}{s:Shared}{a:Addr}{φ:Heap->Prop} (I:Inv X pins σ H s) (ha:H a=some (.ext φ)) (h1:∀b,b≠a->H' b=H b) (h2:H' a=none):Inv X pins σ H' s:=by
 have nn:∀{b o},H b=some o->(∀ψ,o≠.ext ψ)->H' b=some o:=fun {b o} e n=>by
  rw[h1 b (fun z=>by rw[z,ha] at e;cases e;exact n _ rfl)];exact e
 have no:∀{b},H b=none->H' b=none:=fun {b} e=>by
  by_cases z:b=a
  ·rw[z];exact h2
  ·rw[h1 b z];exact e
 refine⟨I.ok,I.os,I.bare,⟨I.base.keep,I.base.slot,fun b u z n hx=>no (I.base.free b u z n hx),I.base.there,fun b xs z=>nn (I.base.tups b xs z) (by simp),fun b u v z=>nn (I.base.frzs b u v z) (by simp),fun b ps z=>?_⟩,I.loc,I.cell,no I.free,fun x c z=>no (I.freeC x c z),fun p hq=>?_,fun b u z=>?_,I.len⟩
 ·obtain⟨m,y⟩:=I.base.tbls b ps z
  exact⟨m,nn y (by simp)⟩
 ·obtain⟨a1,b1,c1,d1,e1⟩:=I.pin p hq
  exact⟨a1,no b1,c1,d1,e1⟩
 ·have hb:b≠a:=fun y=>by rw[y,h2] at z;cases z
  rw[h1 b hb] at z
  exact(I.hok b u z).stay (fun c v _ y=>y) (fun c y=>nn y (by simp)) fun c xs y=>nn y (by simp)
variable {E:St->XK}{x:Str}{C fI:Addr}{fd:FuncData}{k:Nat}{np cpos pos:Pos}{e:Expr}{es:List Expr}{ta:TA}{oI:Obj}
theorem ZiO (hM:Zpm X E) (hq:Zdp X.K C fI=true) (hkp:PySem.W.keepIn X.K (.ref C)=true) (hf:X.K.lookup fI=some oI) (hfc:oI.cls=.type "function") (hg:Gl X x) (hm:X.mg x=some (.ref C)) (hc:X.calm=true) (hex:X.ex=[])
  (F:J5 X.prog X.w X.K X.mg X.base CX0 k fI fd ["self", "words", "at"] (Zi9 C)) (hr:ZbB (k+1) X.A) (hb:Zck X.K fd ["self", "words", "at"] []) (ha:PA X (e::es) ta) (hdb:(x==("__debug__":Str))=false:=by decide)
  (he:starEach (e::es) X.env=(false,eval e X.env)::starEach es X.env:=by rfl) (hpl:(backTo cpos (starEach es X.env)).any (·.1)=false:=by rfl) :
  PS X (.Raise (some (.Call (.Name x np) (e::es) [] cpos)) none pos) (Zi5 C E ta):=by
 intro pins s σ H D I h
 obtain⟨tl,N,nm,q,bs,hdct,sn,sub,ab,col,dd,k0,k1,k2,k3,k5,mN,hC,hN,hni,T⟩:=Zhq I.ok.mod.kin hq
 have hB:=T.hasType PySem.F.excBase_ValueError.hasBase
 rw[arm_exec_Raise]
 simp only[evalOpt,Option.map]
 refine wpAny_bind (wpAny_standAt (ZhD (C:=C) (nm:=nm) (q:=q) (N:=N) (bs:=bs) (bm:=tl) (hdct:=hdct) (sn:=sn) (sub:=sub) (ab:=ab) (col:=col) (dd:=dd) (k0:=k0) (k1:=k1) (k2:=k2) (k3:=k3) (k5:=k5) (newId := "ValueError.__new__") hB (I.ok.hd hc) ?_))
 refine wpAny_bind (wpAny_mono (Q:=fun v s₁=>∃e t od,v=Value.ref e/\s₁.heap.get? C=some (excClassObj nm q C N bs tl hdct sn sub ab col dd k0 k1 k2 k3 k5 "ValueError.__new__")/\s₁.heap.get? e=some (Zf5 C t od)/\X.xe (Value.ref e) s₁) ?_ (fun v s₃ h₃=>wpAny_bind (wpAny_standAt (wpAny_pure h₃))) fun _ _ z=>z)
 refine wpAny_Call_Name_kw (ZaS I hg hm ?_ hdb)
 refine PySem.W.callWith_K (h₀:=X.base) I.ok.mod.kin hkp (thn (ha cpos pins s σ H _ I h) fun us s1 ⟨vs,H1,I1,r,wd,i,hv,hE⟩=>⟨I1.kIn, ?_⟩) he hpl
 subst hv
 obtain⟨hp,g,d0,tk,os⟩:=s1
 refine Zif PySem.F.excBase_ValueError (T.keeps I1.bk) (I1.bk _ _ hC) (hN.keeps I1.bk) hni (I1.kIn _ _ hf) hfc (fun h' ea hx=>?_) (by show us.length<=_;rw[<- r.length];simp[sizeLine_eq])
 have I2:Inv X pins σ H1 ⟨h',g,d0,tk,os⟩:=I1.kept (t':=tk) hx.keeps
 have out:∀b o,hp.get? b=some o->b≠ea:=fun b o z y=>by rw[y,hx.new] at z;cases z
 have nw:H1 ea=none:=by
  cases z:H1 ea with
  |none=>rfl
  |some u=>obtain⟨o,z2⟩:=(I1.hok ea u z).there;exact absurd rfl (out _ _ z2)
 obtain⟨t,ht,-,-⟩:=hx.there
 have ht2:h'.get? ea=some (Zf5 C t none):=ht
 have s0:X.s₀.heap.get? ea=none:=by
  cases z:X.s₀.heap.get? ea with
  |none=>rfl
  |some o=>obtain⟨o',z'⟩:=I1.base.there ea o z (by rw[hex];simp);exact absurd rfl (out _ _ z')
 have I3:=I2.trackO (d:=ea) (o:=.ext (Zgy C ea)) nw (fun z=>by obtain⟨m,⟨o,_,_,ho,_⟩,_⟩:=I1.loc;exact out _ _ ho z.symm) (fun x c z=>by obtain⟨v,o,ho,_⟩:=I1.cell x c z;exact out _ _ ho) (fun p hp=>out _ _ (I1.pin p hp).1) s0 (Zme ht2)
 have hbb:=hb ⟨h',g,d0,tk,os⟩ (.ref ea::us) I3.kIn (by simp[<- r.length])
 rw[Z1d] at hbb
 refine wpAny_call (codeAny_mono (F.run _ X.stack _ _ ⟨.ref ea::us,[]⟩ (.ref ea::us) (.ref ea::[.str wd,i]) (fun v H'=>v=.non/\∃d,H1 d=none/\d≠ea/\H'=upd (upd (upd H1 ea (.ext (Zgy C ea))) d (.xd [("at",i)])) ea (.ext (Zgz C ea d))) (fun _ _ _=>False)
  (hr.make C us []) (I3.env0.make C us []) hbb (.cons rfl r) ⟨ea,wd,i,rfl,ZD,fun d dn ne=>⟨rfl,d,by rw[Zu ne] at dn;exact dn,ne,rfl⟩⟩) fun r' s' hq'=>?_)
 cases r' with
 |error e=>exact False.elim hq'
 |ok fl =>
  cases fl with
  |ret u =>
   obtain⟨v,H',I4,rv,rfl,d,dn,ne,rfl⟩:=I3.after hq'
   obtain⟨t',e'⟩:=(I4.hok ea _ ZD).1
   refine⟨rv,ea,t',some d,rfl,I4.bk _ _ hC,e', ?_⟩
   refine hM pins σ (upd H1 d (.xd [("at",i)])) s' ea C t' d _ (I4.untrack ZD (fun b nb=>?_) ?_) ?_ ZD e' s0 (hE ea d nw dn ne)
   ·unfold upd
    rw[if_neg nb,if_neg nb]
   ·rw[Zu (Ne.symm ne)];exact nw
   ·rw[Zu (Ne.symm ne)];exact nw
  |next=>exact False.elim hq'
  |brk=>exact False.elim hq'
  |cont=>exact False.elim hq'
end
noncomputable def ZiM (x:Str) (xs:List PV):RS:=match xs with
 |[.str _,.int i]=>.exc (x,.int i)
 |_=>.bad
section
variable {K:W.Frag}{E:XK}{Γ Γ':List Md}{ta:TA}{fa:List PV->Rr (List PV)}
theorem ZjL {C:Addr}{x:Str}{Y:Tys} (hC:ZbC K x C) (ha:DAA K (EX1 K E) Γ Γ' ta fa):DS K (EX1 K E) Γ Y (Zi5 C (fun _=>E) ta) (fun ρ=>(fa ρ).thenS (ZiM x)):=fun B H0 H σ ρ F D A d=>by
 refine ha B H0 H σ ρ F [] _ A (d.thenS.imp (fun xs hx d vs H1 F1 s1 f1 p1 A1=>?_) fun e q=>q)
 unfold ZiM at d
 split at d
 ·rename_i wd i
  obtain⟨v,v2,rfl,h1,h2⟩:=Zob p1
  cases h1;cases h2
  exact⟨wd,.int i,rfl,fun ea k hea hk ne=>d (upd H1 k (.xd [("at",.int i)])) (A1.same.trans (ZL.newO hk)) C k hC ⟨_,ZD,rfl⟩⟩
 ·exact d.elim
end
def ZqD (K:W.Frag) (n sup qual:Str) (st:Stmt):Prop:=∃C f fd S,ZbC K n C/\Zdp K C f=true/\PySem.W.keepIn K (.ref C)=true/\Zk9 K C "at"=true/\PySem.W.typeIn K (.ref f)=some (.type "function")/\Fun K "__init__" qual st f fd/\ZbC K sup S/\Zfi K S=true
noncomputable def Zmj (K:W.Frag) (C:Addr):Option Addr:=match PySem.W.findIn K (.ref C) "__init__" with
 |some (some (.ref f))=>some f
 |_=>none
noncomputable def ZjD (K:W.Frag) (n sup:Str):Bool:=match PySem.W.nsIn K mainGlobals n,PySem.W.nsIn K mainGlobals sup with
 |some (some (.ref C)),some (some (.ref S))=>(match Zmj K C with|some f=>Zdp K C f|none=>false)&&Zk9 K C "at" && Zfi K S
 |_,_=>false
theorem Zku {K:W.Frag}{n sup qual:Str}{st:Stmt}{C f S:Addr}{fd:FuncData} (h1:PySem.W.nsIn K mainGlobals n=some (some (.ref C))) (h2:PySem.W.findIn K (.ref C) "__init__"=some (some (.ref f))) (h3:PySem.W.keepIn K (.ref C)=true) (h5:PySem.W.typeIn K (.ref f)=some (.type "function")) (h6:Fun K "__init__" qual st f fd)
  (h7:PySem.W.nsIn K mainGlobals sup=some (some (.ref S))) (h8:ZjD K n sup=true):ZqD K n sup qual st:=by
 unfold ZjD at h8
 simp only[h1,h7,Zmj,h2,Bool.and_eq_true] at h8
 exact⟨C,f,fd,S,h1,h8.1.1,h3,h8.1.2,h5,h6,h7,h8.2⟩
def Zqn (P:Program) (w:World) (K:W.Frag) (mg:Str->Option Value) (base:Heap) (k:Nat) (n:Str):Prop:=
 ∃C f fd oI,ZbC K n C/\Zdp K C f=true/\PySem.W.keepIn K (.ref C)=true/\K.lookup f=some oI/\oI.cls=.type "function"/\J5 P w K mg base CX0 k f fd ["self", "words", "at"] (Zi9 C)/\Zck K fd ["self", "words", "at"] []
section
variable {K:W.Frag}
theorem ZfD {f:Addr}{t:Value} (h:PySem.W.typeIn K (.ref f)=some t):∃o,K.lookup f=some o/\o.cls=t:=by
 simpa[PySem.W.typeIn,Z1l] using h
end
@[simp] theorem ZiL {x wd:Str}{i:Int}:ZiM x [.str wd,.int i]=.exc (x,.int i):=rfl
theorem Zk0 {L:List Str}{i:Nat}{gh:List PV->RS}{ρ:List PV}{n:Str}{j:Int} (h:n∈L):Zn3 L i gh ρ (.exc (n,.int j))=gh (ρ.set i (.exa n j)):=by rw[Zk2,if_pos h]
theorem ZjG {b:PV->List PV->RS}{xs:List PV}{ρ:List PV}{W:RS} (hw:Zea b xs ρ=W) (n:Nat) (I:Nat->List PV->Prop) (h0:I 0 ρ) (h:∀i x ρ,i<n->xs[i]?=some x->I i ρ->(b x ρ).good (I (i+1)))
  (hn:n<xs.length) {v:PX} (hr:∀x ρ,xs[n]?=some x->I n ρ->b x ρ=.exc v):W=.exc v:=by
 subst hw
 have key:∀m i ρ,n=i+m->I i ρ->Zea b (xs.drop i) ρ=.exc v:=by
  intro m
  induction m with
  |zero =>
   intro i ρ hl hI
   have hi:i<xs.length:=by omega
   rw[Z0Y hi]
   obtain rfl:n=i:=by omega
   simp only[Zea,hr _ ρ (Z0B hi) hI]
   rfl
  |succ m ih =>
   intro i ρ hl hI
   have hi:i<xs.length:=by omega
   rw[Z0Y hi]
   obtain⟨ρ',h1,h2⟩:=RS.good_ex (h i _ ρ (by omega) (Z0B hi) hI)
   simp only[Zea]
   rcases h1 with h1|h1<;>(rw[h1];exact ih (i+1) ρ' (by omega) h2)
 exact key n 0 ρ (by omega) h0
noncomputable def ZlA (K:W.Frag) (n:Str):Bool:=match PySem.W.nsIn K mainGlobals n with
 |some (some (.ref C))=>PySem.W.exOk K C&&PySem.W.hasDictIn K C&&(PySem.W.findIn K (.ref C) "at" == some none)
 |_=>false
noncomputable def tAt (K:W.Frag) (L:List Str) (ta:TE):TE:=fun σ H Q=>ta σ H fun v H1=>∃n i,n∈L/\ZlE K H1 n i v/\Q (.int i) H1
theorem ZpG {X:Cx}{L:List Str}{e:Expr}{ta:TE}{pos:Pos} (hL:(L.all (ZlA X.K))=true) (he:PE X e ta) (hb:attributeBase e "at" X.env (eval e X.env)=eval e X.env:=by rfl):PE X (.Attribute e "at" pos) (tAt X.K L ta):=by
 intro pins s σ H Q I h
 refine Zkd hb (thn (he pins s σ H _ I h) fun u s1 ⟨x,H1,I1,rx,n,i,hn,⟨a,o,C,d,fs,ex,h1,h1d,h2,h3,h4,h5,hfs⟩,q⟩=>?_)
 subst ex hfs
 obtain rfl:u=Value.ref a:=rx
 have hC:=Z0Q.mp hL n hn
 unfold ZlA at hC
 have h5':PySem.W.nsIn X.K mainGlobals n=some (some (.ref C)):=h5
 simp only[h5',Bool.and_eq_true,beq_iff_eq,PySem.W.exOk] at hC
 obtain⟨⟨⟨⟨⟨⟨⟨⟨⟨d1,d2⟩,d3⟩,d4⟩,d5⟩,d6⟩,d7⟩,d8⟩,hd⟩,hat⟩:=hC
 obtain⟨m,n1,n2⟩:=I1.hok d _ h1d.1
 obtain⟨ou,hu,hl⟩:=Zdd n1
 have hI:PySem.W.InstAt s1.heap a o C (some ou):=⟨(I1.hok a _ h1.1).1,h2,h4,by rw[h3];exact hu⟩
 obtain⟨v,hv,rv⟩:=Ziq.some_of (v:=V.int i) (o:=m ("at":Str)) (n2 ("at":Str))
 exact PySem.W.exc_value I1.kIn hI d1 d2 d3 (PySem.W.findObj_own hd hat rfl (by rw[hl,hv])) (Zfj rv) ⟨.int i,H1,I1.tok _,rv,q⟩
noncomputable def pAt (L:List Str) (x:PV):Rr PV:=match x with
 |.exa n i=>if n∈L then .ok (.int i) else .bad
 |_=>.bad
theorem ZmL {L:List Str}{n:Str}{i:Int} (h:n∈L):pAt L (.exa n i)=.ok (.int i):=by unfold pAt;simp only[if_pos h]
section
variable {K:W.Frag}{EX:PX->Hp->Prop}{Γ Γ':List Md}{te:TE}{f:List PV->Rr PV}
theorem Zqb {L:List Str} (he:DE K EX Γ Γ' .A te f):DE K EX Γ Γ' .P (tAt K L te) (fun ρ=>(f ρ).bind (pAt L)):=fun B H0 H σ ρ F R Q A d=>by
 refine he B H0 H σ ρ F R _ A (d.bind.imp (fun x _ d v H1 s1 r1=>?_) fun e q=>q)
 obtain⟨F1,f1,p1,A1⟩:=r1
 cases x with
 |exa n i =>
  simp only[pAt] at d
  by_cases hn:n∈L
  ·rw[if_pos hn] at d;exact⟨n,i,hn,p1,d _ H1 s1 ⟨F1,f1,rfl,rfl,A1⟩⟩
  ·rw[if_neg hn] at d;exact d.elim
 |_=>exact d.elim
end
section
variable {κ:Type} [DecidableEq κ]
end
section
end
section
variable {κ:Type} [DecidableEq κ] {α:Type}
noncomputable def Zqy:List κ->List α->κ->α->List α
 |k'::ks,x::xs,k,y=>(if k'=k then y else x)::Zqy ks xs k y
 |_,_,_,_=>[]
noncomputable def putXs (ks:List κ) (xs:List α) (k:κ) (y:α):List α:=if k∈ks then Zqy ks xs k y else xs++[y]
end
section
variable {κ:Type} [DecidableEq κ]
end
section
variable {K:W.Frag}{EX:PX->Hp->Prop}{Γ:List Md}{k:Kd}
noncomputable def ZnQ:TE:=fun _ _ _=>False
theorem Zm8 {X:Cx}{e:Expr}:PE X e ZnQ:=fun _ _ _ _ _ _ h=>h.elim
theorem Znj:DE K EX Γ Γ k ZnQ (fun _=>.bad):=fun _ _ _ _ _ _ _ _ _ d=>d.elim
end
noncomputable def ins {α:Type}:Nat->α->List α->List α
 |0,v,us=>v::us
 |_+1,v,[]=>[v]
 |j+1,v,u::us=>u::ins j v us
theorem Zbz {α:Type}:∀{j:Nat}{v:α}{us:List α},(ins j v us).length=us.length+1
 |0,_,_=>rfl
 |_+1,_,[]=>rfl
 |j+1,v,u::us=>by simp[ins,Zbz (j:=j) (v:=v) (us:=us)]
theorem Zce {α:Type}:∀{j:Nat}{v:α}{us:List α} (i:Nat),j<=us.length->(ins j v us)[i]?=if i<j then us[i]? else if i=j then some v else us[i-1]?
 |0,v,us,0,_=>rfl
 |0,v,us,i+1,_=>by simp[ins]
 |j+1,v,[],_,h=>by simp at h
 |j+1,v,u::us,0,_=>rfl
 |j+1,v,u::us,i+1,h=>by
  have:=Zce (j:=j) (v:=v) (us:=us) i (by simpa using h)
  rw[ins,List.getElem?_cons_succ,this]
  by_cases c:i<j
  ·rw[if_pos c,if_pos (show i+1<j+1 by omega)];rfl
  ·by_cases e:i=j
   ·rw[if_neg c,if_pos e,if_neg (show ¬i+1<j+1 by omega),if_pos (show i+1=j+1 by omega)]
   ·rw[if_neg c,if_neg e,if_neg (show ¬i+1<j+1 by omega),if_neg (show ¬i+1=j+1 by omega)]
    obtain⟨m,rfl⟩:∃m,i=m+1:=⟨i-1,by omega⟩
    rfl
theorem Zfg {α β:Type}{f:α->β}:∀{j:Nat}{v:α}{us:List α},(ins j v us).map f=ins j (f v) (us.map f)
 |0,_,_=>rfl
 |_+1,_,[]=>rfl
 |j+1,v,u::us=>by simp[ins,Zfg (j:=j) (v:=v) (us:=us)]
theorem Zfh {α:Type}{r:List α}:∀{j:Nat}{v:α}{us:List α},j<=us.length->ins j v us++r=ins j v (us++r)
 |0,_,_,_=>rfl
 |_+1,_,[],h=>by simp at h
 |j+1,v,u::us,h=>by
  show u::(ins j v us++r)=u::ins j v (us++r)
  rw[Zfh (by simpa using h)]
section
variable {K:W.Frag}{H:Hp}
theorem JY.pin {p:Option Addr}{s:Sh}{ys:List PV}{a:Addr}{G:List Addr} (h:JY K H (.box p s ys) (.ref a) G):JY K H (.box (some a) s ys) (.ref a) G:=by
 obtain⟨a',vs,u,G',e,h1,h2,h3⟩:=h
 cases e
 exact⟨a,vs,u,G',rfl,h1,⟨rfl,h2.2⟩,h3⟩
theorem JY.unpin {p:Option Addr}{s:Sh}{ys:List PV}{v:V}{G:List Addr} (h:JY K H (.box p s ys) v G):JY K H (.box none s ys) v G:=by
 obtain⟨a',vs,u,G',e,h1,h2,h3⟩:=h
 exact⟨a',vs,u,G',e,h1,⟨trivial,h2.2⟩,h3⟩
theorem JY.pinned {b:Addr}{s:Sh}{ys:List PV}{v:V}{G:List Addr} (h:JY K H (.box (some b) s ys) v G):v=.ref b:=by
 obtain⟨a',vs,u,G',e,h1,h2,h3⟩:=h
 rw[e,show a'=b from h2.1]
end
noncomputable def spM (K:W.Frag) (n j:Nat) (m:PV->List PV->Rr PV):Sp:=fun vs H Q E=>∃(B:Addr->Prop) (xs:List PV) (us:List V) (a:Addr) (s:Sh) (ys:List PV) (G:List Addr),
 vs=ins j (.ref a) us/\xs.length=n/\Reps K H B xs us/\JY K H (.box none s ys) (.ref a) G/\(∀b,B b->b ∉ G) /\
 Dn (m (.box none s ys) xs) (fun r=>∃y s' ys',r=.tup [y,.box none s' ys']/\∀u H' G1 G2,ZL (ZcX H G) H'->JY K H' y u G1->JY K H' (.box none s' ys') (.ref a) G2->(∀b∈G1,b ∉ G2)->(∀b∈G1,ZcX H G b=none)->(∀b∈G2,ZcX H G b=none)->Q u H') (fun _=>False)
noncomputable def ZpE (a:Addr) (b:PV):PV:=match b with
 |.box _ s ys=>.box (some a) s ys
 |x=>x
noncomputable def ZpD (a:Addr) (r:Rr PV):Rr PV:=match r with
 |.ok (.tup [y,.box _ s ys])=>.ok (.tup [y,.box (some a) s ys])
 |.ok _=>.bad
 |.exc e=>.exc e
 |.bad=>.bad
noncomputable def RS.outN (j:Nat) (r:RS):Rr PV:=match r with
 |.next ρ=>.ok (.tup [.non,gv j ρ])
 |.ret x=>.ok x
 |.exc e=>.exc e
 |_=>.bad
section
variable {K:W.Frag}{B:Addr->Prop}{H:Hp}
theorem Ag.initM {s:Sh}{ys:List PV}{a:Addr}{G:List Addr}{xs:List PV}{us:List V}{j l:Nat} (ht:JY K H (.box none s ys) (.ref a) G) (h:Reps K H B xs us) (hB:∀b,B b->b ∉ G) (hj:j<=xs.length) :
  Ag K (fun b=>B b\/ZcX H G b=none) (ZcX H G) H (ins j (some (.ref a)) (us.map some++List.replicate l none)) (ins j .O (List.replicate xs.length .S++List.replicate l .U)) (ins j (.box (some a) s ys) (xs++List.replicate l .non)) (ZbL (fun _=>[]) j G) []:=by
 have fin:∀i,∀b∈ZbL (fun _=>[]) j G i,i=j/\b∈G:=fun i b hb=>by
  unfold ZbL at hb
  split at hb
  ·exact⟨by assumption,hb⟩
  ·simp at hb
 have A:=Ag.init (n:=l) h
 refine⟨ZhU,fun b h=>.inr h,fun i b hb=>ZgZ (fin i b hb).2,by simp,fun i b hb=>ht.alive b (fin i b hb).2,by simp,fun i k hik b hb z=>hik ((fin i b hb).1.trans (fin k b z).1.symm),by simp,by simp[Zbz,h.length],by simp[Zbz],fun i=>?_⟩
 have hjs:j<=(us.map some++List.replicate l (none:Option V)).length:=by simp[h.length];omega
 have hjg:j<=(List.replicate xs.length Md.S++List.replicate l Md.U).length:=by simp;omega
 have hjr:j<=(xs++List.replicate l PV.non).length:=by simp;omega
 rw[Z09,Z09,Zce i hjs,Zce i hjg,Zce i hjr]
 have go:∀q,q≠j\/True->ZbG K H (NO (fun b=>B b\/ZcX H G b=none) (ZbL (fun _=>[]) j G) []) ((List.replicate xs.length Md.S++List.replicate l Md.U)[q]?.getD .U) ((xs++List.replicate l PV.non)[q]?.getD .non) (us.map some++List.replicate l none)[q]? []:=fun q _=>by
  have sl:=A.slot q
  rw[Z09,Z09] at sl
  refine sl.mono (fun b u s r=>⟨r, ?_,by simp,fun k z=>?_⟩) (fun b u r=>r) (fun b hb=>by cases hb)
  ·rcases s.1 with s|s
   ·exact .inl s
   ·exact .inr (by
     by_cases q:b∈G
     ·exact ZgZ q
     ·rw[ZcW q];exact s)
  ·have z:=(fin k b z).2
   rcases s.1 with s|s
   ·exact hB b s z
   ·obtain⟨vs,q⟩:=ht.alive b z
    rw[s] at q;cases q
 by_cases c:i<j
 ·rw[if_pos c,if_pos c,if_pos c,ZJ (by omega)]
  exact go i (.inr trivial)
 ·rw[if_neg c,if_neg c,if_neg c]
  by_cases e:i=j
  ·rw[if_pos e,if_pos e,if_pos e]
   subst e
   rw[Z4]
   exact⟨_,rfl,ht.pin⟩
  ·rw[if_neg e,if_neg e,if_neg e,ZJ e]
   exact go (i-1) (.inr trivial)
end
section
variable {P:Program}{w:World}{K:W.Frag}{mg:Str->Option Value}{base:Heap}
theorem Fun.okM {x qual:Str}{st:Stmt}{f:Addr}{fd:FuncData}{N ps:List Str}{k n l j:Nat}{m:PV->List PV->Rr PV} (F:Fun K x qual st f fd) (S:Zs N ps (Ze st)) (hn:ps.length=n+1) (hl:N.length-(n+1)=l) (hj:j<=n)
  (hbody:∀(cdv:Value) (A:Around) (outer:List Env) (s:Shared) (H:Hp) (E:XK),ZbB k (A.deeper (envOfC qual (Ze st) s.heap.objs.size f cdv)) ->
   ∃t g Y,Y.r=.N/\Y.n[j]?=some .O/\PSs (Zc9 CX0 P w K mg base N qual (Ze st) f cdv A outer s H E).nox (Zo st) t/\DS K X0 (ins j .O (List.replicate n .S++List.replicate l .U)) Y t g /\
    ∀a b xs,Ref (ZpD a (m b xs)) ((g (ins j (ZpE a b) (xs++List.replicate l .non))).outN j)) :
  J5 P w K mg base CX0 (k+1) f fd ps (spM K n j m):=by
 refine F.ok S (fun vs H Q E h=>?_) (fun cdv A outer s H vs Q E hr h=>?_)
 ·obtain⟨B,xs,us,a,s,ys,G,rfl,h1,h2,_⟩:=h
  rw[Zbz,h2.length,h1,hn]
 ·obtain⟨B,xs,us,a,s',ys,G,rfl,h1,h2,h3,h4,dn⟩:=h
  obtain⟨t,g,Y,hY,hYn,ht,hd,href⟩:=hbody cdv A outer s H E hr
  refine⟨t,ht, ?_⟩
  have A0:=Ag.initM (l:=l) h3 h2 h4 (show j<=xs.length by omega)
  have est:ZbS N (ins j (.ref a) us)=ins j (some (.ref a)) (us.map some++List.replicate l none):=by
   unfold ZbS
   rw[Zbz,h2.length,h1,hl,Zfg,Zfh (by rw[Z0K,h2.length];omega)]
  rw[est]
  rw[h1] at A0
  refine hd _ (ZcX H G) H _ _ _ _ A0 ?_
  have hr:=href a (.box none s' ys) xs
  rw[show ZpE a (.box none s' ys)=.box (some a) s' ys from rfl] at hr
  cases em:m (.box none s' ys) xs with
  |bad=>rw[em] at dn;exact dn.elim
  |exc q=>rw[em] at dn;exact dn.elim
  |ok r =>
   rw[em] at dn hr
   obtain⟨y,s2,ys2,rfl,q⟩:=dn
   have ho:(g (ins j (.box (some a) s' ys) (xs++List.replicate l .non))).outN j=.ok (.tup [y,.box (some a) s2 ys2]):=by
    rcases hr with e|e
    ·cases e
    ·exact e.symm
   cases e:g (ins j (.box (some a) s' ys) (xs++List.replicate l .non)) with
   |next ρ =>
    rw[e] at ho
    have hy:PV.tup [.non,gv j ρ]=.tup [y,.box (some a) s2 ys2]:=by simpa[RS.outN] using ho
    simp only[PV.tup.injEq,List.cons.injEq,and_true] at hy
    obtain⟨rfl,hb⟩:=hy
    refine fun σ' H' F' fr A'=>?_
    obtain⟨v,w1,w2⟩:=A'.getO hYn
    rw[show ρ.getD j .non=.box (some a) s2 ys2 from hb] at w2
    have:=w2.pinned
    subst this
    exact q .non H' [] (F' j) A'.same ⟨rfl,rfl⟩ w2.unpin (by simp) (by simp) fun b hb=>A'.young j b hb
   |ret z =>
    rw[e] at ho
    have hy:z=.tup [y,.box (some a) s2 ys2]:=by simpa[RS.outN] using ho
    subst hy
    refine fun v H' s r=>?_
    rw[hY] at r
    obtain⟨y',a',s3,xs3,G1,G2,e1,r1,r2,r3,r4,r5⟩:=r
    simp only[PV.tup.injEq,List.cons.injEq,and_true,PV.box.injEq,Option.some.injEq] at e1
    obtain⟨rfl,rfl,rfl,rfl⟩:=e1
    exact q v H' G1 G2 s r1 r2.unpin r3 r4 r5
   |exc q=>rw[e] at ho;cases ho
   |brk ρ=>rw[e] at ho;cases ho
   |cont ρ=>rw[e] at ho;cases ho
   |bad=>rw[e] at ho;cases ho
end
theorem bind_ok {α β:Type}{r:Rr α}{g:α->Rr β}{y:β} (h:r.bind g=.ok y):∃x,r=.ok x/\g x=.ok y:=by
 cases r with
 |ok x=>exact⟨x,rfl,h⟩
 |exc e=>cases h
 |bad=>cases h
section
end
noncomputable def Pm.fnM (m:Pm) (b:PV) (xs:List PV):Rr PV:=m.fn (b::xs)
section
variable {X:Cx}{pins:List (Addr×Obj)}{σ:St}{H:Hp}{s:Shared}
theorem Inv.swapO {a:Addr}{u u':HO} (I:Inv X pins σ H s) (ha:H a=some u) (n1:∀b,u≠.own b) (n2:∀xs,u≠.tup xs) (m1:∀xs,X.H₀ a≠some (.tup xs)) (m2:∀o v,X.H₀ a≠some (.frz o v)) (m3:∀ps,X.H₀ a≠some (.tbl ps))
  (h0:∀o,X.s₀.heap.get? a=some o->X.H₀ a=none->a∈X.ex) (ok:Uj X.prog X.w (upd H a u') s.heap a u'):Inv X pins σ (upd H a u') s:=by
 have nn:∀{b},H b=none->b≠a:=fun {b} e z=>by rw[z,ha] at e;cases e
 refine⟨I.ok,I.os,I.bare,⟨I.base.keep,I.base.slot,fun b o q n hx=>?_,I.base.there,fun b xs q=>?_,fun b o v q=>?_,fun b ps q=>?_⟩,I.loc,I.cell, ?_,fun x c q=>?_,fun p hq=>?_,fun b v q=>?_,I.len⟩
 ·have e:=I.base.free b o q n hx
  rw[Zu (nn e)];exact e
 ·rw[Zu (fun z=>m1 xs (by rw[<- z];exact q))];exact I.base.tups b xs q
 ·rw[Zu (fun z=>m2 o v (by rw[<- z];exact q))];exact I.base.frzs b o v q
 ·obtain⟨m,e⟩:=I.base.tbls b ps q
  exact⟨m,by rw[Zu (fun z=>m3 ps (by rw[<- z];exact q))];exact e⟩
 ·rw[Zu (nn I.free)];exact I.free
 ·rw[Zu (nn (I.freeC x c q))];exact I.freeC x c q
 ·obtain⟨a1,b1,c1⟩:=I.pin p hq
  exact⟨a1,by rw[Zu (nn b1)];exact b1,c1⟩
 ·by_cases hb:b=a
  ·subst hb
   rw[ZD] at q;cases q
   exact ok
  ·rw[Zu hb] at q
   refine(I.hok b v q).stay (fun c w' _ z=>z) (fun c z=>?_) fun c xs z=>?_
   ·rw[Zu (fun y=>by rw[y,ha] at z;cases z;exact n1 _ rfl)];exact z
   ·rw[Zu (fun y=>by rw[y,ha] at z;cases z;exact n2 _ rfl)];exact z
end
theorem Pm.refM2 (m:Pm) {r:Addr->PV->List PV->Rr PV} (h:∀i,m.pre i->∀a b xs,m.enc i=b::xs->r a b xs=ZpD a (m.out i)):∀a b xs,Ref (ZpD a (m.fnM b xs)) (r a b xs):=fun a b xs=>by
 unfold Pm.fnM Pm.fn
 by_cases hx:∃i,m.enc i=b::xs/\m.pre i
 ·rw[dif_pos hx]
  exact .inr (h _ hx.choose_spec.2 a b xs hx.choose_spec.1).symm
 ·rw[dif_neg hx];exact .inl rfl
mutual
noncomputable def Zf8:PV->PV
 |.lst xs=>.fz (frzPs xs)
 |.tup xs=>.tup (frzPs xs)
 |.fz xs=>.fz (frzPs xs)
 |.non=>.non
 |.bl b=>.bl b
 |.int i=>.int i
 |.str x=>.str x
 |.exc n=>.exc n
 |.exa n i=>.exa n i
 |.box p s xs=>.box p s xs
noncomputable def frzPs:List PV->List PV
 |[]=>[]
 |x::xs=>Zf8 x::frzPs xs
end
theorem ZdZ:∀(ns:List Int),frzPs (ns.map PV.int)=ns.map PV.int
 |[]=>rfl
 |n::ns=>by simp only[Z0R,frzPs,Zf8,ZdZ ns]
def Zkl (G:List Addr) (H H2:Hp):Prop:=(∀a,a ∉ G->H2 a=H a)/\∀a∈G,∀vs,H a=some (.lst vs)->∃o,H2 a=some (.frz o (.lst vs))
def Zny (H:Hp) (G:List Addr):Prop:=∀a∈G,∃vs,H a=some (.lst vs)
section
variable {K:W.Frag}{H H2:Hp}{G':List Addr}
theorem Im.frzTo (hL:Zny H G') (h:Zkl G' H H2) {a:Addr}{u:HO} (i:Im K H a u):Im K H2 a u:=by
 have hn:a ∉ G':=fun z=>by
  obtain⟨vs,e⟩:=hL a z
  rw[i.1] at e;cases e;exact i.2
 exact⟨by rw[h.1 a hn];exact i.1,i.2⟩
mutual
theorem JY.lists:∀{x:PV}{v:V}{G:List Addr},(Zf8 x).flat=true->JY K H x v G->Zny H G
 |.non,_,_,_,h=>by rw[h.2];intro a ha;simp at ha
 |.bl _,_,_,_,h=>by rw[h.2];intro a ha;simp at ha
 |.int _,_,_,_,h=>by rw[h.2];intro a ha;simp at ha
 |.str _,_,_,_,h=>by rw[h.2];intro a ha;simp at ha
 |.exc _,_,_,_,h=>by rw[h.2];intro a ha;simp at ha
 |.exa _ _,_,_,_,h=>by rw[h.2];intro a ha;simp at ha
 |.box _ _ _,_,_,f,_=>by simp[Zf8,PV.flat] at f
 |.lst xs,_,_,f,h=>by
  obtain⟨a,vs,G,rfl,ha,ht,hn,rfl⟩:=h
  intro b hb
  rcases Z0G.mp hb with rfl|hb
  ·exact⟨vs,ha⟩
  ·exact Trees.lists (by simpa[Zf8,PV.flat] using f) ht b hb
 |.tup xs,_,_,f,h=>by
  obtain⟨a,vs,rfl,ha,ht⟩:=h
  exact Trees.lists (by simpa[Zf8,PV.flat] using f) ht
 |.fz xs,_,_,f,h=>by
  obtain⟨a,vs,rfl,ha,ht⟩:=h
  exact Trees.lists (by simpa[Zf8,PV.flat] using f) ht
theorem Trees.lists:∀{xs:List PV}{vs:List V}{G:List Addr},PV.flats (frzPs xs)=true->Trees K H xs vs G->Zny H G
 |[],_,_,_,h=>by rw[h.2];intro a ha;simp at ha
 |x::xs,_,_,f,h=>by
  obtain⟨v,r,G1,G2,rfl,h3,h4,hd,rfl⟩:=h
  simp only[frzPs,PV.flats,Bool.and_eq_true] at f
  intro b hb
  rcases Z0F.mp hb with hb|hb
  ·exact JY.lists f.1 h3 b hb
  ·exact Trees.lists f.2 h4 b hb
end
mutual
theorem JY.frz (hL:Zny H G') (hF:Zkl G' H H2):∀{x:PV}{v:V}{G:List Addr},(Zf8 x).flat=true->JY K H x v G->(∀a∈G,a∈G')->JY K H2 (Zf8 x) v []
 |.non,_,_,_,h,_=>⟨h.1,rfl⟩
 |.bl _,_,_,_,h,_=>⟨h.1,rfl⟩
 |.int _,_,_,_,h,_=>⟨h.1,rfl⟩
 |.str _,_,_,_,h,_=>⟨h.1,rfl⟩
 |.exc n,_,_,_,h,_=>let ⟨a,o,C,e1,e2,e3⟩:=h.1;⟨⟨a,o,C,e1,Im.frzTo hL hF e2,e3⟩,rfl⟩
 |.exa n i,_,_,_,h,_=>let ⟨a,o,C,d,fs,e1,e2,e2',e3⟩:=h.1;⟨⟨a,o,C,d,fs,e1,Im.frzTo hL hF e2,Im.frzTo hL hF e2',e3⟩,rfl⟩
 |.box _ _ _,_,_,f,_,_=>by simp[Zf8,PV.flat] at f
 |.lst xs,_,_,f,h,hG=>by
  obtain⟨a,vs,G,rfl,ha,ht,hn,rfl⟩:=h
  obtain⟨o,e⟩:=hF.2 a (hG a (by simp)) vs ha
  exact⟨a,vs,rfl,⟨o,e,trivial⟩,Trees.frz hL hF (by simpa[Zf8,PV.flat] using f) ht fun b hb=>hG b (by simp[hb])⟩
 |.tup xs,_,_,f,h,hG=>by
  obtain⟨a,vs,rfl,ha,ht⟩:=h
  exact⟨a,vs,rfl,Im.frzTo hL hF ha,Trees.frz hL hF (by simpa[Zf8,PV.flat] using f) ht hG⟩
 |.fz xs,_,_,f,h,hG=>by
  obtain⟨a,vs,rfl,⟨o,ha⟩,ht⟩:=h
  exact⟨a,vs,rfl,⟨o,Im.frzTo hL hF ha⟩,Trees.frz hL hF (by simpa[Zf8,PV.flat] using f) ht hG⟩
theorem Trees.frz (hL:Zny H G') (hF:Zkl G' H H2):∀{xs:List PV}{vs:List V}{G:List Addr},PV.flats (frzPs xs)=true->Trees K H xs vs G->(∀a∈G,a∈G')->Trees K H2 (frzPs xs) vs []
 |[],_,_,_,h,_=>⟨h.1,rfl⟩
 |x::xs,_,_,f,h,hG=>by
  obtain⟨v,r,G1,G2,rfl,h3,h4,hd,rfl⟩:=h
  simp only[frzPs,PV.flats,Bool.and_eq_true] at f
  exact⟨v,r,[],[],rfl,JY.frz hL hF f.1 h3 fun a ha=>hG a (by simp[ha]),Trees.frz hL hF f.2 h4 fun a ha=>hG a (by simp[ha]),by simp,rfl⟩
end
end
section
variable {X:Cx}{pins:List (Addr×Obj)}{σ:St}{s:Shared}
theorem Inv.frzAll:∀(G:List Addr) {H:Hp},Inv X pins σ H s->Zny H G->∃H2,Zkl G H H2/\Inv X pins σ H2 s
 |[],H,I,_=>⟨H,⟨fun _ _=>rfl,by simp⟩,I⟩
 |a::G,H,I,hL=>by
  obtain⟨H2,h2,I2⟩:=Inv.frzAll G I fun b hb=>hL b (by simp[hb])
  by_cases hm:a∈G
  ·refine⟨H2,⟨fun b hb=>h2.1 b fun z=>hb (by simp[z]),fun b hb=>?_⟩,I2⟩
   rcases Z0G.mp hb with rfl|hb
   ·exact h2.2 b hm
   ·exact h2.2 b hb
  ·obtain⟨kvs,ha0⟩:=hL a (by simp)
   have ha:H2 a=some (.lst kvs):=by rw[h2.1 a hm];exact ha0
   have ok0:Uj X.prog X.w H2 s.heap a (.lst kvs):=I2.hok a _ ha
   obtain⟨o,ho⟩:∃o,s.heap.get? a=some o:=by obtain⟨_,its,n,_,e⟩:=ok0;exact⟨_,e⟩
   have m1:∀xs,X.H₀ a≠some (.tup xs):=fun xs z=>by have:=I2.base.tups a xs z;rw[ha] at this;cases this
   have m2:∀o v,X.H₀ a≠some (.frz o v):=fun o v z=>by have:=I2.base.frzs a o v z;rw[ha] at this;cases this
   have m3:∀ps,X.H₀ a≠some (.tbl ps):=fun ps z=>by obtain⟨m,this⟩:=I2.base.tbls a ps z;rw[ha] at this;cases this
   have h0:∀o,X.s₀.heap.get? a=some o->X.H₀ a=none->a∈X.ex:=fun o q n=>by
    by_cases hx:a∈X.ex
    ·exact hx
    ·have:=I2.base.free a o q n hx;rw[ha] at this;cases this
   refine⟨_,⟨fun b hb=>?_,fun b hb vs e=>?_⟩,I2.swapO (u':=.frz o (.lst kvs)) ha (fun _ z=>by cases z) (fun _ z=>by cases z) m1 m2 m3 h0 ⟨ho,ok0⟩⟩
   ·have hb':b≠a:=fun z=>hb (by simp[z])
    rw[Zu hb']
    exact h2.1 b fun z=>hb (by simp[z])
   ·by_cases hb':b=a
    ·subst hb'
     rw[ha0] at e;cases e
     exact⟨o,ZD⟩
    ·rw[Zu hb']
     rcases Z0G.mp hb with z|z
     ·exact absurd z hb'
     ·exact h2.2 b z vs e
noncomputable def ZnR (te:TE):TE:=fun σ H Q=>te σ H fun v H1=>∃G,Zny H1 G/\∀H2,Zkl G H1 H2->Q v H2
theorem Zm9 {e:Expr}{te:TE} (he:PE X e te):PE X e (ZnR te):=by
 intro pins s σ H Q I h
 refine thn (he pins s σ H _ I h) fun v s1 ⟨x,H1,I1,r,G,hL,q⟩=>?_
 obtain⟨H2,h2,I2⟩:=Inv.frzAll G I1 hL
 exact⟨x,H2,I2,r,q H2 h2⟩
variable {K:W.Frag}{B:Addr->Prop}{EX:PX->Hp->Prop}{H0 H H2:Hp}{Γ:List Md}{ρ:List PV}{F:Nat->List Addr}{R G:List Addr}{te:TE}{f:List PV->Rr PV}
theorem Znm (he:DE K EX (Γ.map frz) (Γ.map frz) .F te f):DE K EX Γ Γ .P (ZnR te) (fun ρ=>(f ρ).bind fun x=>grd (Zf8 x)):=fun B H0 H σ ρ F R Q A d=>by
 refine he B H0 H σ ρ _ R _ A.freezeAll (d.bind.imp (fun x _ d v H1 s1 r=>?_) fun e q=>q)
 obtain⟨F1,f1,G,t1,o1,_⟩:=r
 have fr:∀a∈G,H a=none:=fun a ha=>by
  rcases (o1 a ha).2 with q|⟨j,q⟩
  ·exact q
  ·simp at q
 unfold grd at d
 split at d
 ·rename_i hf
  refine⟨G,t1.lists hf,fun H2 h2=>?_⟩
  have s2:ZL H H2:=fun a o e=>by
   rw[h2.1 a fun z=>by rw[fr a z] at e;cases e]
   exact s1 a o e
  exact d v H2 s2 ⟨F,fun _ _ h=>h,hf,(JY.frz (t1.lists hf) h2 hf t1 fun a ha=>ha).rep (by simp),A.grow s2⟩
 ·exact d.elim
end
section
variable {X:Cx}{pins:List (Addr×Obj)}{σ:St}{H:Hp}{s:Shared}{a C dx:Addr}{fs:List (Str×V)}{f:Str}
theorem Zhl (I:Inv X pins σ H s) (e:Rd H a (.ins C dx fs)):∃mA,Zms s.heap a dx C mA/\(∀f,Ziq (fs.lookup f) (mA f)):=by
 obtain⟨d,z,ne,ob,mA,n,r,q⟩:=(show Uj X.prog X.w H s.heap a (.ins C dx fs) from e.ok I.hok)
 exact⟨mA,⟨ob,n,ne⟩,r⟩
end
noncomputable def ZnS (K:W.Frag) (ta:TE) (f:Str):TE:=fun σ H Q=>ta σ H fun x H1=>∃a C dx fs v,x=.ref a/\Rd H1 a (.ins C dx fs)/\Cls K C/\Zd4 K C f/\fs.lookup f=some v/\Q v H1
section
variable {X:Cx}{K:W.Frag}{e o:Expr}{es:List Expr}{f n:Str}{pos:Pos}{ta:TE}{t:TA}{k:Nat}{ps:List Str}{sp:Sp}
theorem ZmA (he:PE X e ta) (eK:X.K=K:=by rfl) (hb:attributeBase e f X.env (eval e X.env)=eval e X.env:=by rfl):PE X (.Attribute e f pos) (ZnS K ta f):=by
 subst eK
 intro pins s σ H Q I h
 refine Zkd hb (thn (he pins s σ H _ I h) fun u s1 ⟨x,H1,I1,rx,a,C,dx,fs,v,ex,ea,c,n,l,q⟩=>?_)
 subst ex
 obtain rfl:u=Value.ref a:=rx
 obtain⟨mA,O,r⟩:=Zhl I1 ea
 obtain⟨u,hu,ru⟩:=Ziq.some_of (v:=v) (o:=mA f) (by rw[<- l];exact r f)
 exact Znc I1.kIn O (c.get f) c.hd n hu (Zfj ru) ⟨v,H1,I1.tok _,ru,q⟩
def OkC (P:Program) (w:World) (K:W.Frag) (mg:Str->Option Value) (base:Heap) (k:Nat) (n:Str) (ps:List Str) (sp:Sp):Prop:=
 ∃C f fd,ZbC K n C/\mg n=some (.ref C)/\Mk K C f/\J5 P w K mg base CX0 k f fd ps sp/\Zck K fd ps []
noncomputable def ZlN (K:W.Frag) (n:Str) (sp:Sp) (t:TA):TE:=fun σ H Q=>t σ H fun vs H1=>∀x dx C,ZbC K n C->H1 x=none->H1 dx=none->dx≠x ->
 sp (.ref x::vs) (upd (upd H1 dx (.own x)) x (.ins C dx [])) (fun v H2=>v=.non/\Q (.ref x) H2) E0
theorem ZkF {p:Pos} (G:OkC X.prog X.w X.K X.mg X.base k n ps sp) (hr:ZbB (k+1) X.A) (hg:Gl X n) (ha:PA X (e::es) t) (hdb:(n==("__debug__":Str))=false:=by decide)
  (he:starEach (e::es) X.env=(false,eval e X.env)::starEach es X.env:=by rfl) (hpl:(backTo pos (starEach es X.env)).any (·.1)=false:=by rfl) :
  PE X (.Call (.Name n p) (e::es) [] pos) (ZlN X.K n sp t):=by
 obtain⟨C,f,fd,hC,hm,M,F,hb⟩:=G
 intro pins s σ H Q I h
 refine wpAny_Call_Name_kw (ZaS I hg hm ?_ hdb)
 refine PySem.W.callWith_K (h₀:=X.base) I.ok.mod.kin M.kp (thn (ha pos pins s σ H _ I h) fun us s1 ⟨vs,H1,I1,r,q⟩=>⟨I1.kIn, ?_⟩) he hpl
 exact ZkA (dvs:=[]) M F hr hb .nil ZkK I1 r fun x dx h1 h2 h3=>by rw[Z1d];exact q x dx C hC h1 h2 h3
end
theorem Zef {α:Type}{f:Str}:∀{gs:List Str}{vs:List α},gs.length=vs.length->(gs.zip vs).lookup f=vs[gs.idxOf f]?
 |[],[],_=>rfl
 |[],_::_,h=>by simp at h
 |_::_,[],h=>by simp at h
 |g::gs,v::vs,h=>by
  have ih:=Zef (f:=f) (gs:=gs) (vs:=vs) (by simpa using h)
  rw[List.zip_cons_cons,Z0W,Z1T]
  by_cases e:g=f
  ·subst e;simp
  ·have e1:(f==g)=false:=beq_eq_false_iff_ne.mpr (Ne.symm e)
   have e2:(g==f)=false:=beq_eq_false_iff_ne.mpr e
   rw[e1,e2]
   simpa using ih
noncomputable def pFld (n f:Str) (x:PV):Rr PV:=match x with
 |.box _ (.ob m gs) xs=>if m=n then match xs[gs.idxOf f]? with
  |some y=>.ok y
  |none=>.bad
  else .bad
 |_=>.bad
noncomputable def obG (n m:Str) (x:PV):Rr PV:=match x with
 |.box _ (.ob k gs) _=>if k=n/\m ∉ gs then .ok .non else .bad
 |_=>.bad
theorem Dn.pFld {n f:Str}{x:PV}{ok:PV->Prop}{ex:PX->Prop} (d:Dn (pFld n f x) ok ex):∃p gs xs y,x=.box p (.ob n gs) xs/\xs[gs.idxOf f]?=some y/\ok y:=by
 unfold L2.pFld at d
 split at d
 ·rename_i p m gs xs
  split at d
  ·rename_i e
   subst e
   split at d
   ·rename_i y ey
    exact⟨p,gs,xs,y,rfl,ey,d⟩
   ·exact d.elim
  ·exact d.elim
 ·exact d.elim
theorem Dn.obG {n m:Str}{x:PV}{ok:PV->Prop}{ex:PX->Prop} (d:Dn (obG n m x) ok ex):∃p gs xs,x=.box p (.ob n gs) xs/\m ∉ gs/\ok .non:=by
 unfold L2.obG at d
 split at d
 ·rename_i p k gs xs
  split at d
  ·rename_i e
   obtain⟨rfl,e⟩:=e
   exact⟨p,gs,xs,rfl,e,d⟩
  ·exact d.elim
 ·exact d.elim
def ObC (K:W.Frag) (n:Str) (fs:List Str):Prop:=∃C,ZbC K n C/\Cls K C/\∀f∈fs,Zd4 K C f
theorem Zks {α:Type}{f:Str}{gs:List Str}{vs:List α} (h:gs.length=vs.length) (hf:f ∉ gs):(gs.zip vs).lookup f=none:=by
 rw[Zef h,Z0I]
 rw[<- h,List.idxOf_eq_length hf]
 exact Z0D _
section
variable {K:W.Frag}{B:Addr->Prop}{EX:PX->Hp->Prop}{H0 H H':Hp}{σ:St}{Γ Γ':List Md}{ρ:List PV}{F:Nat->List Addr}{R:List Addr}{te:TE}{ta:TA}{f:List PV->Rr PV}{fa:List PV->Rr (List PV)}{fs:List Str}{n fl m:Str}
theorem Rep.fld {S:Addr->Prop}{p:Option Addr}{gs:List Str}{xs:List PV}{v:V}{y:PV} (h:Rep K H S (.box p (.ob n gs) xs) v) (e:xs[gs.idxOf fl]?=some y):∃a C dx fs w,v=.ref a/\Rd H a (.ins C dx fs)/\ZbC K n C/\fs.lookup fl=some w/\Rep K H S y w:=by
 obtain⟨a,vs,u,rfl,⟨rd,_⟩,⟨_,hl,C,dx,rfl,hC⟩,hr⟩:=h
 obtain⟨w,e1,e2⟩:=hr.get e
 exact⟨a,C,dx,_,w,rfl,rd,hC,by rw[Zef hl];exact e1,e2⟩
theorem Znn (O:ObC K n fs) (hf:fl∈fs) (he:DE K EX Γ Γ' .A te f):DE K EX Γ Γ' .A (ZnS K te fl) (fun ρ=>(f ρ).bind (pFld n fl)):=fun B H0 H σ ρ F R Q A d=>by
 obtain⟨C,hC,c,na⟩:=O
 refine he B H0 H σ ρ F R _ A (d.bind.imp (fun x _ d v H1 s1 r=>?_) fun e q=>q)
 obtain⟨F1,f1,p1,A1⟩:=r
 obtain⟨p,gs,xs,y,rfl,ey,d⟩:=Dn.pFld d
 obtain⟨a,C',dx,fs',w,rfl,rd,hC',l,ry⟩:=p1.fld ey
 obtain rfl:=hC.inj hC'
 exact⟨a,C,dx,fs',w,rfl,rd,c,na _ hf,l,d w H1 s1 ⟨F1,f1,ry,A1⟩⟩
noncomputable def Zn7 (n:Str) (m:PV->List PV->Rr PV) (xs:List PV):Rr PV:=match m (.box none (.ob n []) []) xs with
 |.ok (.tup [.non,.box none s ys])=>.ok (.box none s ys)
 |_=>.bad
theorem ZmU {m:PV->List PV->Rr PV}{xs ys:List PV}{s:Sh} (h:m (.box none (.ob n []) []) xs=.ok (.tup [.non,.box none s ys])):Zn7 n m xs=.ok (.box none s ys):=by
 unfold Zn7;simp only[h]
theorem Znk {l:Nat}{mm:PV->List PV->Rr PV} (hn:Len fa l) (ha:DAA K EX Γ Γ' ta fa):DE K EX Γ Γ' .F (ZlN K n (spM K l 0 mm) ta) (fun ρ=>(fa ρ).bind (Zn7 n mm)):=fun B H0 H σ ρ F R Q A d=>by
 refine ha B H0 H σ ρ F R _ A (d.bind.imp (fun xs ex d vs H1 F1 s1 f1 p1 A1 x dx C hC hx hdx hne=>?_) fun e q=>q)
 unfold Zn7 at d
 split at d
 ·rename_i s ys em
  have s2:ZL H1 (upd (upd H1 dx (.own x)) x (.ins C dx [])):=(ZL.newO hdx).trans (ZL.newO (by rw[Zu (Ne.symm hne)];exact hx))
  have nx:∀{a u},Rd H1 a u->a≠x:=fun {a u} r z=>by
   rw[z] at r
   rcases r with r|⟨o,r⟩<;>(rw[hx] at r;cases r)
  refine⟨fun a=>a≠x,xs,vs,x,.ob n [],[],[x],rfl,hn ρ xs ex,Reps.mono (fun a u _ r=>⟨r.same s2,nx r⟩) (fun a u r=>s2.im r) p1,⟨x,[],_,[],rfl,ZD,⟨trivial,rfl,C,dx,rfl,hC⟩,⟨rfl,rfl⟩,by simp,rfl⟩,fun b hb z=>hb (by simpa using z), ?_⟩
  rw[em]
  refine⟨.non,s,ys,rfl,fun u H' G1 G2 sm t1 t2 dj n1 n2=>⟨t1.1, ?_⟩⟩
  have s3:ZL H1 H':=fun a o e=>by
   have ne:a≠x:=fun z=>by rw[z,hx] at e;cases e
   refine sm a o ?_
   rw[ZcW (by simpa using ne)]
   exact s2 a o e
  have fr:∀b∈G2,H1 b=none:=fun b hb=>by
   have:=n2 b hb
   by_cases q:b=x
   ·rw[q];exact hx
   ·rw[ZcW (by simpa using q),Zu q] at this
    by_cases q2:b=dx
    ·rw[q2];exact hdx
    ·rw[Zu q2] at this;exact this
  refine d _ H' (s1.trans s3) ⟨F1,f1,G2,t2,fun b hb=>⟨(A1.fresh (fr b hb)).1,.inl (s1.free (fr b hb))⟩,A1.more s3 fr t2.alive⟩
 ·exact d.elim
end
noncomputable def Zkp (f:Str) (gs:List Str):List Str:=if f∈gs then gs else gs++[f]
noncomputable def ZgG {α:Type} (f:Str) (gs:List Str) (xs:List α) (y:α):List α:=if f∈gs then xs.set (gs.idxOf f) y else xs++[y]
theorem ZgH {f:Str}{v:V}:∀{gs:List Str}{vs:List V},gs.length=vs.length->ZdD f v (gs.zip vs)=(Zkp f gs).zip (ZgG f gs vs v)
 |[],[],_=>by simp[ZdD,Zkp,ZgG]
 |[],_::_,h=>by simp at h
 |_::_,[],h=>by simp at h
 |g::gs,w::vs,h=>by
  have ih:=ZgH (f:=f) (v:=v) (gs:=gs) (vs:=vs) (by simpa using h)
  unfold Zkp ZgG at ih ⊢
  rw[List.zip_cons_cons,ZdD]
  by_cases e:g=f
  ·subst e
   simp[Z1T]
  ·have e2:(g==f)=false:=beq_eq_false_iff_ne.mpr e
   rw[if_neg e,ih]
   by_cases hm:f∈gs
   ·rw[if_pos hm,if_pos hm,if_pos (by simp[hm]),if_pos (by simp[hm]),Z1T,e2]
    simp
   ·have hm':f ∉ g::gs:=by simp[hm,Ne.symm e]
    rw[if_neg hm,if_neg hm,if_neg hm',if_neg hm']
    simp
theorem ZkD {α:Type}{f:Str}{gs:List Str}{vs:List α}{v:α} (h:gs.length=vs.length):(Zkp f gs).length=(ZgG f gs vs v).length:=by
 unfold Zkp ZgG
 split<;>simp[h]
noncomputable def pSetF (n f:Str) (x y:PV):Rr PV:=match x with
 |.box p (.ob m gs) xs=>if m=n/\gs.length<1000 then .ok (.box p (.ob m (Zkp f gs)) (ZgG f gs xs y)) else .bad
 |_=>.bad
theorem Dn.pSetF {n f:Str}{x y:PV}{ok:PV->Prop}{ex:PX->Prop} (d:Dn (pSetF n f x y) ok ex):∃p gs xs,x=.box p (.ob n gs) xs/\gs.length<1000/\ok (.box p (.ob n (Zkp f gs)) (ZgG f gs xs y)):=by
 unfold L2.pSetF at d
 split at d
 ·rename_i p m gs xs
  split at d
  ·rename_i h
   obtain⟨rfl,h⟩:=h
   exact⟨p,gs,xs,rfl,h,d⟩
  ·exact d.elim
 ·exact d.elim
section
variable {K:W.Frag}{B:Addr->Prop}{EX:PX->Hp->Prop}{H0 H H':Hp}{σ:St}{Γ Γ' Γ1 Γ2:List Md}{ρ:List PV}{F F':Nat->List Addr}{R:List Addr}{te:TE}{f:List PV->Rr PV}{fs:List Str}{n fl:Str}{i:Nat}{k:Kd}
theorem Trees.setN:∀{xs:List PV}{vs:List V}{G G1:List Addr}{j:Nat}{y:PV}{w:V},Trees K H xs vs G->JY K H y w G1->(∀a∈G,a ∉ G1)->∃G',(∀a∈G',a∈G\/a∈G1)/\Trees K H (xs.set j y) (vs.set j w) G'
 |[],_,_,_,_,_,_,h,_,_=>⟨[],by simp,by rw[h.1];exact⟨rfl,rfl⟩⟩
 |x::xs,_,_,G3,0,y,w,h,h',hd=>by
  obtain⟨v,r,G1,G2,rfl,h1,h2,h3,rfl⟩:=h
  refine⟨G3++G2,fun a ha=>?_,w,r,G3,G2,rfl,h',h2,fun a ha z=>hd a (by simp[z]) ha,rfl⟩
  rcases Z0F.mp ha with z|z
  ·exact .inr z
  ·exact .inl (by simp[z])
 |x::xs,_,_,G3,j+1,y,w,h,h',hd=>by
  obtain⟨v,r,G1,G2,rfl,h1,h2,h3,rfl⟩:=h
  obtain⟨G',h4,h5⟩:=Trees.setN (j:=j) h2 h' fun a ha=>hd a (by simp[ha])
  refine⟨G1++G',fun a ha=>?_,v,r.set j w,G1,G',rfl,h1,h5,fun a ha z=>?_,rfl⟩
  ·rcases Z0F.mp ha with z|z
   ·exact .inl (by simp[z])
   ·rcases h4 a z with q|q
    ·exact .inl (by simp[q])
    ·exact .inr q
  ·rcases h4 a z with q|q
   ·exact h3 a ha q
   ·exact hd a (by simp[ha]) q
theorem Trees.putXs {xs:List PV}{vs:List V}{G G1:List Addr}{y:PV}{w:V}{gs:List Str} (h:Trees K H xs vs G) (h':JY K H y w G1) (hd:∀a∈G,a ∉ G1):∃G',(∀a∈G',a∈G\/a∈G1)/\Trees K H (ZgG fl gs xs y) (ZgG fl gs vs w) G':=by
 unfold ZgG
 split
 ·exact Trees.setN h h' hd
 ·exact⟨G++G1,fun a ha=>Z0F.mp ha,Trees.append h (Trees.one h') hd⟩
theorem Zdr (O:ObC K n fs) (hf:fl∈fs) (hm:Γ'[i]?=some .O) (he:DE K EX Γ Γ' .F te f):DS K EX Γ ⟨Γ',Γ1,Γ2,k⟩ (Zp7 K (ZfE i) te fl) (fun ρ=>(f ρ).thenS fun y=>(pSetF n fl (gv i ρ) y).thenS fun z=>.next (ρ.set i z)):=fun B H0 H σ ρ F D A d=>by
 obtain⟨C,hC,c,na⟩:=O
 refine he B H0 H σ ρ F [] _ A (d.thenS.imp (fun y _ d v H1 s1 r=>?_) fun e q=>q)
 obtain⟨F1,f1,G1,t1,o1,A1⟩:=r
 obtain⟨p,gs,xs,e,hl,d⟩:=Dn.pSetF d.thenS
 obtain⟨w,h1,h2⟩:=A1.getO hm
 rw[show ρ.getD i .non=.box p (.ob n gs) xs from e] at h2
 obtain⟨a,vs,u,G,rfl,ha,⟨hp,hlen,C',dx,rfl,hC'⟩,ht,hn,hF⟩:=h2
 obtain rfl:=hC.inj hC'
 have haF:a∈F1 i:=by rw[hF];simp
 have dj:∀b∈G,b ∉ G1:=fun b hb z=>A1.disjR i b (by rw[hF];simp[hb]) (Z0C _ z)
 have na1:a ∉ G1:=fun z=>A1.disjR i a haF (Z0C _ z)
 obtain⟨G',g1,g2⟩:=Trees.putXs (fl:=fl) (gs:=gs) ht t1 dj
 have naG:a ∉ G':=fun z=>(g1 a z).elim hn na1
 refine⟨.ref a,h1,a,C,dx,_,rfl,ha,c,na _ hf,by rw[List.length_zip];omega, ?_⟩
 have hsub:∀b∈a::G',b∈F1 i\/b∈G1:=fun b hb=>by
  rw[hF]
  rcases Z0G.mp hb with rfl|hb
  ·simp
  ·rcases g1 b hb with z|z
   ·simp[z]
   ·exact .inr z
 refine(show ∀σ' H' F',_ from d) σ _ (ZbL F1 i (a::G')) (Zev s1 f1 haF fun b hb=>?_) (Ag.chgB (o':=.ins C dx (ZdD fl v (gs.zip vs))) (G:=G1) (R:=[]) trivial A1 hm haF hsub (by simp) ?_)
 ·rcases hsub b hb with z|z
  ·exact .inr ⟨i,f1 i b z⟩
  ·exact(o1 b z).2
 ·exact⟨_,h1,a,ZgG fl gs vs v,_,G',rfl,ZD,⟨hp,ZkD hlen,C,dx,by rw[ZgH hlen],hC⟩,g2.putL (us:=⟨.ins C dx (gs.zip vs),trivial⟩) ha naG,naG,rfl⟩
end
section
variable {X:Cx}{K:W.Frag}{o value:Expr}{f:Str}{pos pos':Pos}{ta tv:TE}
theorem ZfR (ha:PE X o ta) (hv:PE X value tv) (eK:X.K=K:=by rfl) (hs:swapsWith value (some (.Attribute o f pos')) pos.line X.env=pure false:=by rfl):PS X (.Assign [.Attribute o f pos'] value pos) (Zp7 K ta tv f):=by
 subst eK;exact Zog ha hv hs
end
noncomputable def unp (x:PV):PV:=match x with
 |.box _ s xs=>.box none s xs
 |x=>x
section
end
noncomputable def Zdz (K:W.Frag) (n:Str) (fs:List Str):Bool:=match PySem.W.nsIn K mainGlobals n with
 |some (some (.ref C))=>PySem.W.plainGet K C Str.empty&&PySem.W.hasDictIn K C&&PySem.W.plainOver K C&&PySem.W.makesIn K C&&PySem.W.keepIn K (.ref C)&&(PySem.W.findIn K (.ref C) "__setattr__" == some (some (.builtin "object.__setattr__")))&&fs.all (fun f=>PySem.W.findIn K (.ref C) f==some none)
 |_=>false
theorem Zdy {K:W.Frag}{n:Str}{fs:List Str} (h:Zdz K n fs=true):∃C,ZbC K n C/\Cls K C/\(∀f∈fs,Zd4 K C f)/\PySem.W.makesIn K C=true/\PySem.W.keepIn K (.ref C)=true:=by
 unfold Zdz at h
 split at h
 ·rename_i C e
  simp only[Bool.and_eq_true,Z0Q,beq_iff_eq] at h
  obtain⟨⟨⟨⟨⟨⟨h1,h2⟩,h3⟩,h4⟩,h5⟩,h6⟩,h7⟩:=h
  exact⟨C,e,⟨h1,h2,h3,h6⟩,h7,h4,h5⟩
 ·cases h
theorem Zci {K:W.Frag}{n:Str}{fs:List Str} (h:Zdz K n fs=true):ObC K n fs:=let ⟨C,a,b,c,_⟩:=Zdy h;⟨C,a,b,c⟩
section
variable {P:Program}{w:World}{K:W.Frag}{mg:Str->Option Value}{base:Heap}{k:Nat}{n qual:Str}{st:Stmt}{ps fs:List Str}{sp:Sp}
theorem Zou (h:Zdz K n fs=true) (d:Ze5 K n "__init__" qual st) (hg:∀C,ZbC K n C->mg n=some (.ref C)) (b:∀(kV doc pm:Value) (an:Option Addr) (cdv ct:Value) (us:List Value),us.length=ps.length->bindArgs (PySem.W.fnOf "__init__" qual (Zq st) (Zo st) (Ze st) .none kV doc pm an cdv ct) ⟨us,[]⟩=pure (ps.zip us))
  (hf:∀{f fd},Fun K "__init__" qual st f fd->J5 P w K mg base CX0 k f fd ps sp):OkC P w K mg base k n ps sp:=by
 obtain⟨C,a,c,_,mk,kp⟩:=Zdy h
 obtain⟨C',f,fd,hC,h1,h2,F⟩:=d
 obtain rfl:=a.inj hC
 exact⟨C,f,fd,a,hg C a,⟨mk,h1,by unfold PySem.W.isFn;rw[h2];rfl,kp⟩,hf F,F.binds b⟩
end
noncomputable def ZlM (K:W.Frag) (n m:Str) (sp:Sp) (E:St->XK) (ta:TE):TE:=fun σ H Q=>ta σ H fun x H1=>∃a C dx fs,x=.ref a/\Rd H1 a (.ins C dx fs)/\ZbC K n C/\fs.lookup m=none/\sp [x] H1 Q (E σ)
def ZqF (P:Program) (w:World) (K:W.Frag) (mg:Str->Option Value) (base:Heap) (k:Nat) (n m:Str) (ps:List Str) (sp:Sp):Prop:=
 ∃C f fd,ZbC K n C/\Cls K C/\ZqZ K C m f/\J5 P w K mg base (CX1 P w) k f fd ps sp/\Zck K fd ps []
section
variable {X:Cx}{o:Expr}{n m:Str}{pos apos:Pos}{ta:TE}{k:Nat}{ps:List Str}{sp:Sp}{E:St->XK}
theorem ZiS {pl:Sem Bool} (G:ZqF X.prog X.w X.K X.mg X.base k n m ps sp) (hr:ZbB k X.A) (hx:Zkk X E) (he:PE X o ta)
  (ht:eval (.Call (.Attribute o m apos) [] [] pos) X.env=(do
   let ov <- eval o X.env
   standAt apos.atName
   let (f,first) <- holding [ov] (getMethod ov m pl)
   callWith pos f first (backTo pos (starEach [] X.env)) (backToKw pos (keywordEach [] X.env))):=by rfl) :
  PE X (.Call (.Attribute o m apos) [] [] pos) (ZlM X.K n m sp E ta):=by
 obtain⟨C,f,fd,hC,c,hm,F,hb⟩:=G
 intro pins s σ H Q I h
 refine PySem.W.methodCall_KW (pl:=pl) (thn (he pins s σ H _ I h) fun u s1 ⟨x,H1,I1,rx,a,C',dx,fs,ex,ea,hC',l,q⟩=>?_) ht
 subst ex
 obtain rfl:=hC.inj hC'
 obtain rfl:u=Value.ref a:=rx
 obtain⟨mA,O,r⟩:=Zhl I1 ea
 refine Zlt I1.kIn O (c.get m) hm.at_ hm.fn (Ziq.none_of (by rw[<- l];exact r m)) ?_
 refine PySem.W.callWith_K0 (first:=[.ref a]) I1.kIn hm.kp ?_
 have rv:JD [V.ref a] [Value.ref a]:=.cons rfl .nil
 have hl:(([Value.ref a]:List Value)++[]).length=ps.length:=by rw[Z1d,<- rv.length];exact F.len _ _ _ _ q
 have hb':=hb s1 [.ref a] I1.kIn hl
 rw[Z1d] at hb'
 refine wpAny_call (codeAny_mono (F.run X.A X.stack s1 H1 ⟨[.ref a],[]⟩ [.ref a] [.ref a] Q (E σ) hr I1.env0 hb' rv q) fun r s' hq=>?_)
 cases r with
 |error e=>exact hx pins σ H1 s1 e s' I1 hq
 |ok fl =>
  cases fl with
  |ret u=>exact I1.after hq
  |next=>exact False.elim hq
  |brk=>exact False.elim hq
  |cont=>exact False.elim hq
end
section
variable {K:PySem.W.Frag}{EX:PX->Hp->Prop}{Γ Γ':List Md}{te:TE}{f:List PV->Rr PV}{n m:Str}{W:PX->XK->Hp->Prop}{E:XK}{mm:List PV->Rr PV}
theorem Zl2 (hW:∀e H',EX e H'->W e E H') (he:DE K EX Γ Γ' .A te f):DE K EX Γ Γ' .P (ZlM K n m (spF K 1 .P W mm) (fun _=>E) te) (fun ρ=>(f ρ).bind fun x=>(obG n m x).bind fun _=>mm [unp x]):=fun B H0 H σ ρ F R Q A d=>by
 refine he B H0 H σ ρ F R _ A (d.bind.imp (fun x _ d v H1 s1 r=>?_) fun e q=>q)
 obtain⟨F1,f1,p1,A1⟩:=r
 obtain⟨p,gs,xs,rfl,hm,d⟩:=Dn.obG d.bind
 obtain⟨a,vs,u,rfl,⟨rd,hS⟩,⟨hp,hl,C,dx,rfl,hC⟩,hr⟩:=p1
 refine⟨a,C,dx,_,rfl,rd,hC,Zks hl hm,fun _=>True,[.box none (.ob n gs) xs],⟨_,_,rfl,⟨a,vs,_,rfl,⟨rd,hS⟩,⟨trivial,hl,C,dx,rfl,hC⟩,hr⟩,rfl⟩,rfl, ?_⟩
 exact d.imp (fun x _ d v H2 s2 r=>d v H2 (s1.trans s2) ⟨F1,f1,r.1,r.2,A1.grow s2⟩) fun e q H2 s2=>hW e H2 (q H2 (A1.same.trans s2))
end
section
variable {P:Program}{w:World}{K:W.Frag}{mg:Str->Option Value}{base:Heap}{k:Nat}{n m qual:Str}{st:Stmt}{ps fs:List Str}{sp:Sp}
theorem ZmN (h:Zdz K n fs=true) (d:Ze5 K n m qual st) (b:∀(kV doc pm:Value) (an:Option Addr) (cdv ct:Value) (us:List Value),us.length=ps.length->bindArgs (PySem.W.fnOf m qual (Zq st) (Zo st) (Ze st) .none kV doc pm an cdv ct) ⟨us,[]⟩=pure (ps.zip us))
  (hf:∀{f fd},Fun K m qual st f fd->J5 P w K mg base (CX1 P w) k f fd ps sp):ZqF P w K mg base k n m ps sp:=by
 obtain⟨C,a,c,_,_⟩:=Zdy h
 obtain⟨C',f,fd,hC,h1,h2,F⟩:=d
 obtain rfl:=a.inj hC
 exact⟨C,f,fd,a,c,⟨h1,by unfold PySem.W.isFn;rw[h2];rfl,F.kp⟩,hf F,F.binds b⟩
end
end L2
namespace My
open L2
noncomputable def tab (n:Nat) (f:Nat->Int):List Int:=(List.range n).map f
theorem Jc (n:Nat) (f:Nat->Int):(tab n f).length=n:=by simp[tab]
theorem ZbJ {n:Nat}{f:Nat->Int}{x:Nat} (h:x<n):(tab n f).getD x 0=f x:=by
 rw[Z09,tab,Z0N,Z1z h];rfl
theorem ZcH {n:Nat}{f:Nat->Int}{l:List Int} (hl:l.length=n) (h:∀x,x<n->l.getD x 0=f x):l=tab n f:=by
 apply List.ext_getElem
 ·rw[hl,Jc]
 ·intro i h1 h2
  have:=h i (by omega)
  rw[Z09,Z0B h1] at this
  simp only[tab,List.getElem_map,List.getElem_range]
  exact this
theorem Zli (l:List Int):l=tab l.length fun x=>l.getD x 0:=ZcH rfl fun _ _=>rfl
theorem getD_set {l:List Int}{j x:Nat}{v:Int} (h:j<l.length):(l.set j v).getD x 0=if x=j then v else l.getD x 0:=by
 rw[Z09,Z09]
 by_cases e:x=j
 ·subst e;rw[Z0M h,if_pos rfl];rfl
 ·rw[Z0S (Ne.symm e),if_neg e]
theorem Zi4 {n:Nat}{f:Nat->Int}{j:Nat}{v:Int} (h:j<n):(tab n f).set j v=tab n fun x=>if x=j then v else f x:=by
 refine ZcH (by rw[Z1R,Jc]) fun x hx=>?_
 rw[getD_set (by rw[Jc];exact h)]
 by_cases e:x=j
 ·rw[if_pos e,if_pos e]
 ·rw[if_neg e,if_neg e,ZbJ hx]
theorem ZcI {n:Nat}{f g:Nat->Int} (h:∀x,x<n->f x=g x):tab n f=tab n g:=ZcH (Jc _ _) fun x hx=>by rw[ZbJ hx,h x hx]
theorem Zjz {n:Nat}{f:Nat->Int}{v:Int}:v∈tab n f ↔ ∃x,x<n/\f x=v:=by simp[tab]
theorem ZaN {l:List Int}{x:Nat} (h:x<l.length):l.getD x 0∈l:=by
 rw[Z09,Z0B h];exact Z1P h
theorem Zj0 {l:List Int}{v:Int} (h:v∈l):∃x,x<l.length/\l.getD x 0=v:=by
 obtain⟨x,hx,e⟩:=List.getElem_of_mem h
 exact⟨x,hx,by rw[Z09,Z0B hx,<- e];rfl⟩
theorem Zej:∀{l:List Int}{j:Nat}{v:Int},j<l.length->(l.set j v).sum=l.sum-l.getD j 0+v
 |a::l,0,v,_=>by simp;omega
 |a::l,j+1,v,h=>by
  have:=Zej (l:=l) (j:=j) (v:=v) (by simpa using h)
  simp only[Z1J,Z1C,List.getD_cons_succ,this];omega
theorem ZcL:∀(ns:List Int) (c:Int),(ns.map fun v=>v+c).sum=ns.sum+ns.length*c
 |[],c=>by simp
 |a::l,c=>by
  simp only[Z0R,Z1C,Z0T]
  rw[ZcL l c,Int.natCast_add,Int.add_mul];omega
theorem JJ {n a b:Int} (ha:0<=a) (ha':a<n) (hb:0<=b) (hb':b<n):(a-b)%n=if b<=a then a-b else a-b+n:=by
 by_cases h:b<=a
 ·rw[if_pos h,Z1c (by omega) (by omega)]
 ·rw[if_neg h,<- Int.add_emod_right,Z1c (by omega) (by omega)]
theorem Zcw {n a b:Int} (ha:0<=a) (ha':a<n) (hb:0<=b) (hb':b<n):(a+b)%n=if a+b<n then a+b else a+b-n:=by
 by_cases h:a+b<n
 ·rw[if_pos h,Z1c (by omega) (by omega)]
 ·rw[if_neg h,<- Int.sub_emod_right,Z1c (by omega) (by omega)]
structure Ze6 (ns:List Int):Prop where
 lo:2<=ns.length
 hi:ns.length<=24
 nn:∀x∈ns,0<=x
 sm:ns.sum<=10^60
theorem Ze6.nn' {ns:List Int} (h:Ze6 ns) (x:Nat):0<=ns.getD x 0:=by
 by_cases hx:x<ns.length
 ·exact h.nn _ (ZaN hx)
 ·rw[Z09,Z0I (by omega)];exact Z1L _
theorem sum_nn:∀{l:List Int},(∀x∈l,0<=x)->0<=l.sum
 |[],_=>by simp
 |a::l,h=>by
  have:=sum_nn (l:=l) fun x hx=>h x (by simp[hx])
  have:=h a (by simp)
  simp only[Z1C];omega
theorem Zmh:∀{l:List Int}{v:Int},(∀x∈l,0<=x)->v∈l->v<=l.sum
 |a::l,v,h,hv=>by
  have h1:=sum_nn (l:=l) fun x hx=>h x (by simp[hx])
  have h2:=h a (by simp)
  simp only[Z1C]
  rcases Z0G.mp hv with rfl|hv
  ·omega
  ·have:=Zmh (l:=l) (fun x hx=>h x (by simp[hx])) hv
   omega
noncomputable def Zn5 (ns:List Int) (p:Int) (x:Nat):Int:=(if (x:Int)=p then 0 else ns.getD x 0)+ns.getD p.toNat 0/ns.length
noncomputable def ZnY (n:Int) (p:Int) (i:Int) (x:Nat):Int:=if 1<=((x:Int)-p)%n/\((x:Int)-p)%n<=i then 1 else 0
noncomputable def ZeF (ns:List Int) (p:Int) (i:Int) (x:Nat):Int:=Zn5 ns p x+ZnY ns.length p i x
theorem ZiD (n p i:Int) (x:Nat):0<=ZnY n p i x:=by unfold ZnY;split<;>omega
theorem ZbT {n p i:Int}{x:Nat} (h:1<=((x:Int)-p)%n/\((x:Int)-p)%n<=i):ZnY n p i x=1:=if_pos h
theorem Zct {n p i:Int}{x:Nat} (h:¬(1<=((x:Int)-p)%n/\((x:Int)-p)%n<=i)):ZnY n p i x=0:=if_neg h
theorem ZiF {ns:List Int}{p:Int}{x:Nat} (h:(x:Int)=p):Zn5 ns p x=ns.getD p.toNat 0/ns.length:=by unfold Zn5;rw[if_pos h];omega
theorem ZfF {ns:List Int}{p:Int}{x:Nat} (h:(x:Int)≠p):Zn5 ns p x=ns.getD x 0+ns.getD p.toNat 0/ns.length:=by unfold Zn5;rw[if_neg h]
noncomputable def ZiE (ns:List Int) (p:Int):List Int:=tab ns.length (ZeF ns p (ns.getD p.toNat 0%ns.length))
noncomputable def ZiC (ns:List Int) (p:Int):Int:=(p+ns.getD p.toNat 0%ns.length)%ns.length
theorem V9 (ns:List Int) (p:Int):(ZiE ns p).length=ns.length:=Jc _ _
section
variable {ns:List Int}{p:Int}
theorem Zg7 (h0:0<=p) (h1:p<ns.length):(ns.map fun v=>v+ns.getD p.toNat 0/ns.length).set p.toNat (ns.getD p.toNat 0/ns.length)=tab ns.length (ZeF ns p 0):=by
 refine ZcH (by simp) fun x hx=>?_
 rw[getD_set (by simp;omega)]
 unfold ZeF
 rw[Zct (by omega)]
 by_cases e:x=p.toNat
 ·rw[if_pos e,ZiF (by omega)];omega
 ·rw[if_neg e,ZfF (by omega)]
  simp[Z09,Z0B hx]
theorem Zg8 (h0:0<=p) (h1:p<ns.length) {i:Nat} (hi:(i:Int)+1<ns.length) :
  (tab ns.length (ZeF ns p i)).set ((p+(i+1))%ns.length).toNat (ZeF ns p i ((p+(i+1))%ns.length).toNat+1)=tab ns.length (ZeF ns p ((i+1:Nat):Int)):=by
 have m1:=Zcw h0 h1 (show (0:Int)<=(i:Int)+1 by omega) hi
 have hlt:((p+((i:Int)+1))%ns.length).toNat<ns.length:=by
  rw[m1];split<;>omega
 rw[Zi4 hlt]
 refine ZcI fun x hx=>?_
 have m2:=JJ (n:=ns.length) (show (0:Int)<=(x:Int) by omega) (by omega) h0 h1
 by_cases e:x=((p+((i:Int)+1))%ns.length).toNat
 ·rw[if_pos e,<- e]
  unfold ZeF
  have hd:((x:Int)-p)%ns.length=i+1:=by
   rw[m2]
   rw[m1] at e
   split at e<;>split<;>omega
  rw[Zct (by omega),ZbT (by omega)];omega
 ·rw[if_neg e]
  unfold ZeF
  have hd:((x:Int)-p)%ns.length≠i+1:=by
   intro z
   apply e
   rw[m2] at z
   rw[m1]
   split at z<;>split<;>omega
  by_cases q:1<=((x:Int)-p)%ns.length/\((x:Int)-p)%ns.length<=i
  ·rw[ZbT q,ZbT (by omega)]
  ·rw[Zct q,Zct (by omega)]
theorem ZeD (h0:0<=p) (h1:p<ns.length):∀i:Nat,(i:Int)<ns.length->(tab ns.length (ZeF ns p i)).sum=ns.sum+ns.length*(ns.getD p.toNat 0/ns.length)-ns.getD p.toNat 0+i
 |0,_=>by
  have:=Zg7 h0 h1
  rw[Z1A,<- this,Zej (by simp;omega)]
  have e:=ZcL ns (ns.getD p.toNat 0/ns.length)
  rw[e]
  have e2:(ns.map fun v=>v+ns.getD p.toNat 0/ns.length).getD p.toNat 0=ns.getD p.toNat 0+ns.getD p.toNat 0/ns.length:=by
   have hx:p.toNat<ns.length:=by omega
   rw[Z09,Z0N,Z0B hx]
   simp[hx]
  rw[e2];omega
 |i+1,hi=>by
  have ih:=ZeD h0 h1 i (by omega)
  have m1:=Zcw h0 h1 (show (0:Int)<=(i:Int)+1 by omega) (by omega)
  have hlt:((p+((i:Int)+1))%ns.length).toNat<ns.length:=by rw[m1];split<;>omega
  rw[<- Zg8 h0 h1 (by omega),Zej (by rw[Jc];exact hlt),ih,ZbJ hlt];omega
theorem Zg9 (h0:0<=p) (h1:p<ns.length) (hs:0<=ns.getD p.toNat 0):(ZiE ns p).sum=ns.sum:=by
 have b1:=Z1g (ns.getD p.toNat 0) (show (ns.length:Int)≠0 by omega)
 have b2:=Z1h (ns.getD p.toNat 0) (show (0:Int)<ns.length by omega)
 have:=ZeD h0 h1 (ns.getD p.toNat 0%ns.length).toNat (by omega)
 rw[Z1k b1] at this
 have e:=Int.mul_ediv_add_emod (ns.getD p.toNat 0) ns.length
 unfold ZiE
 omega
theorem Zm0 (hn:∀x∈ns,0<=x) (i:Int) (x:Nat) (hx:x<ns.length):0<=ZeF ns p i x:=by
 have h1:=hn _ (ZaN hx)
 have h2:0<=ns.getD p.toNat 0:=by
  by_cases hp:p.toNat<ns.length
  ·exact hn _ (ZaN hp)
  ·rw[Z09,Z0I (by omega)];exact Z1L _
 have h3:=Int.ediv_nonneg h2 (show (0:Int)<=ns.length by omega)
 have h4:=ZiD ns.length p i x
 unfold ZeF Zn5
 split<;>omega
end
noncomputable def run (f:Nat->Int):Nat->Nat->Nat
 |0,i=>i
 |k+1,i=>if 0<f i then run f k (i+1) else i
theorem ZgA (f:Nat->Int):∀(k i:Nat),i<=run f k i/\run f k i<=i+k/\(∀j,i<=j->j<run f k i->0<f j)/\(run f k i<i+k->¬0<f (run f k i))
 |0,i=>⟨Z0D _,Z0D _,fun j h1 h2=>by simp only[run] at h2;omega,fun h=>by simp only[run] at h;omega⟩
 |k+1,i=>by
  unfold run
  by_cases h:0<f i
  ·rw[if_pos h]
   obtain⟨a,b,c,d⟩:=ZgA f k (i+1)
   refine⟨by omega,by omega,fun j h1 h2=>?_,fun h=>d (by omega)⟩
   by_cases e:j=i
   ·subst e;assumption
   ·exact c j (by omega) h2
  ·rw[if_neg h]
   exact⟨Z0D _,by omega,fun j h1 h2=>by omega,fun _=>h⟩
noncomputable def tbG (ns:List Int) (q:Int) (i:Nat):Int:=ns.getD ((q-i)%ns.length).toNat 0-Zc5 ns
noncomputable def tbJ (ns:List Int) (q:Int):Nat:=run (tbG ns q) ns.length 0
noncomputable def tbF (ns:List Int) (q:Int) (i:Nat) (x:Nat):Int:=ns.getD x 0-Zc5 ns-(if (q-x)%(ns.length:Int)<i then 1 else 0)
noncomputable def tbP (ns:List Int) (q:Int):Int:=(q-tbJ ns q)%ns.length
noncomputable def tbT (ns:List Int) (q:Int):Int:=Zc5 ns*ns.length+tbJ ns q
noncomputable def tbB (ns:List Int) (q:Int):List Int:=(tab ns.length (tbF ns q (tbJ ns q))).set (tbP ns q).toNat (tbT ns q)
theorem Vw (ns:List Int) (q:Int):(tbB ns q).length=ns.length:=by simp[tbB,Jc]
section
variable {ns:List Int}{q:Int}
theorem Zei (h0:0<=q) (h1:q<ns.length):tbJ ns q<ns.length/\(∀i,i<tbJ ns q->0<tbG ns q i)/\tbG ns q (tbJ ns q)=0:=by
 have hne:ns≠[]:=by intro e;rw[e] at h1;simp at h1;omega
 obtain⟨x,hx,ex⟩:=Zj0 (Zb6 hne)
 have m1:=JJ (n:=ns.length) h0 h1 (show (0:Int)<=x by omega) (by omega)
 have b1:0<=(q-x)%(ns.length:Int)/\(q-x)%(ns.length:Int)<ns.length:=by rw[m1];split<;>omega
 have gx:tbG ns q ((q-x)%(ns.length:Int)).toNat=0:=by
  unfold tbG
  have:((q-(((q-x)%(ns.length:Int)).toNat:Nat))%(ns.length:Int)).toNat=x:=by
   rw[Z1k b1.1,JJ h0 h1 b1.1 b1.2,m1]
   split<;>split<;>omega
  rw[this,ex];omega
 obtain⟨a,b,c,d⟩:=ZgA (tbG ns q) ns.length 0
 have hlt:tbJ ns q<ns.length:=by
  unfold tbJ
  by_cases h:run (tbG ns q) ns.length 0<ns.length
  ·exact h
  ·have:=c ((q-x)%(ns.length:Int)).toNat (by omega) (by omega)
   rw[gx] at this;omega
 refine⟨hlt,fun i hi=>c i (by omega) hi, ?_⟩
 have h3:=d (by unfold tbJ at hlt;omega)
 have h4:0<=tbG ns q (tbJ ns q):=by
  unfold tbG
  have:=Zet (ns:=ns) (ZaN (x:=((q-tbJ ns q)%(ns.length:Int)).toNat) (by
   have:=Z1g (q-tbJ ns q) (show (ns.length:Int)≠0 by omega)
   have:=Z1h (q-tbJ ns q) (show (0:Int)<ns.length by omega)
   omega))
  omega
 have h5:¬0<tbG ns q (tbJ ns q):=h3
 omega
theorem Zmz (h0:0<=q) (h1:q<ns.length) {i:Nat} (hi:i<ns.length):(tab ns.length (tbF ns q i)).set ((q-i)%ns.length).toNat (tbF ns q i ((q-i)%ns.length).toNat-1)=tab ns.length (tbF ns q (i+1)):=by
 have m1:=JJ (n:=ns.length) h0 h1 (show (0:Int)<=i by omega) (by omega)
 have hlt:((q-(i:Int))%ns.length).toNat<ns.length:=by rw[m1];split<;>omega
 rw[Zi4 hlt]
 refine ZcI fun x hx=>?_
 have m2:=JJ (n:=ns.length) h0 h1 (show (0:Int)<=(x:Int) by omega) (by omega)
 by_cases e:x=((q-(i:Int))%ns.length).toNat
 ·rw[if_pos e,<- e]
  unfold tbF
  have hd:(q-(x:Int))%ns.length=i:=by
   rw[m2];rw[m1] at e
   split at e<;>split<;>omega
  rw[hd,if_neg (by omega),if_pos (by omega)];omega
 ·rw[if_neg e]
  unfold tbF
  have hd:(q-(x:Int))%ns.length≠i:=by
   intro z;apply e
   rw[m2] at z;rw[m1]
   split at z<;>split<;>omega
  by_cases h:(q-(x:Int))%ns.length<i
  ·rw[if_pos h,if_pos (by omega)]
  ·rw[if_neg h,if_neg (by omega)]
theorem ZlH (h0:0<=q) (h1:q<ns.length) {i:Nat} (hi:i<ns.length):tbF ns q i ((q-i)%ns.length).toNat=tbG ns q i:=by
 have m1:=JJ (n:=ns.length) h0 h1 (show (0:Int)<=i by omega) (by omega)
 have hb:0<=(q-(i:Int))%ns.length/\(q-(i:Int))%ns.length<ns.length:=by rw[m1];split<;>omega
 unfold tbF tbG
 rw[Z1k hb.1,JJ h0 h1 hb.1 hb.2,m1]
 have:¬((if (if (i:Int)<=q then q-i else q-i+ns.length)<=q then q-(if (i:Int)<=q then q-i else q-i+ns.length) else q-(if (i:Int)<=q then q-i else q-i+ns.length)+ns.length)<(i:Int)):=by
  split<;>split<;>omega
 rw[if_neg this];omega
end
theorem Zk8 {ns:List Int}{q:Int} (h0:0<=q) (h1:q<ns.length) (hn:∀x∈ns,0<=x):ZiE (tbB ns q) (tbP ns q)=ns/\ZiC (tbB ns q) (tbP ns q)=q:=by
 have len:=Vw ns q
 obtain⟨j1,j2,j3⟩:=Zei h0 h1
 have hne:ns≠[]:=by intro e;rw[e] at h1;simp at h1;omega
 have hm:=hn _ (Zb6 hne)
 have m0:=JJ (n:=ns.length) h0 h1 (show (0:Int)<=(tbJ ns q:Nat) by omega) (by omega)
 have eP:tbP ns q=if ((tbJ ns q:Nat):Int)<=q then q-tbJ ns q else q-tbJ ns q+ns.length:=m0
 have hP:0<=tbP ns q/\tbP ns q<ns.length:=by rw[eP];split<;>omega
 have hp:(tbP ns q).toNat<ns.length:=by omega
 have get:∀x,x<ns.length->(tbB ns q).getD x 0=if x=(tbP ns q).toNat then tbT ns q else tbF ns q (tbJ ns q) x:=fun x hx=>by
  unfold tbB
  rw[getD_set (by rw[Jc];exact hp),ZbJ hx]
 have gp:(tbB ns q).getD (tbP ns q).toNat 0=tbT ns q:=by rw[get _ hp,if_pos rfl]
 have et:tbT ns q/ns.length=Zc5 ns/\tbT ns q%ns.length=tbJ ns q:=by
  unfold tbT
  constructor
  ·rw[Int.add_comm,Int.add_mul_ediv_right _ _ (by omega),Int.ediv_eq_zero_of_lt (by omega) (by omega)];omega
  ·rw[Int.add_comm,Int.add_mul_emod_self_right,Z1c (by omega) (by omega)]
 constructor
 ·unfold ZiE
  rw[len]
  refine((Zli ns).trans (ZcI fun x hx=>?_)).symm
  unfold ZeF
  rw[gp,len,et.2]
  have m1:=JJ (n:=ns.length) (show (0:Int)<=x by omega) (by omega) hP.1 hP.2
  have m2:=JJ (n:=ns.length) h0 h1 (show (0:Int)<=x by omega) (by omega)
  by_cases e:(x:Int)=tbP ns q
  ·rw[ZiF e,gp,len,et.1,Zct (by rw[e,Int.sub_self,Int.zero_emod];omega)]
   have:x=((q-(tbJ ns q:Nat))%(ns.length:Int)).toNat:=by
    show x=(tbP ns q).toNat
    omega
   unfold tbG at j3
   rw[<- this] at j3;omega
  ·rw[ZfF e,gp,len,et.1,get x hx,if_neg (by omega)]
   unfold tbF
   have key:(1<=((x:Int)-tbP ns q)%ns.length/\((x:Int)-tbP ns q)%ns.length<=(tbJ ns q:Int)) ↔ (q-x)%(ns.length:Int)<(tbJ ns q:Int):=by
    rw[m1,m2]
    rw[eP] at e ⊢
    split<;>split<;>split at *<;>omega
   by_cases c:(q-x)%(ns.length:Int)<(tbJ ns q:Int)
   ·rw[if_pos c,ZbT (key.mpr c)];omega
   ·rw[if_neg c,Zct (fun z=>c (key.mp z))];omega
 ·unfold ZiC
  rw[gp,len,et.2,Zcw hP.1 hP.2 (by omega) (by omega),eP]
  split<;>split<;>omega
structure Zbs (ns:List Int) (p:Int):Prop where
 bd:Ze6 ns
 lo:0<=p
 hi:p<ns.length
 pos:0<ns.getD p.toNat 0
noncomputable def ZbO (a:List Int×Int):List Int×Int:=(ZiE a.1 a.2,ZiC a.1 a.2)
noncomputable def tbS (a:List Int×Int):List Int×Int:=(tbB a.1 a.2,tbP a.1 a.2)
theorem ZeE {ns:List Int}{p:Int} (h:Zbs ns p):Ze6 (ZiE ns p):=by
 have:=h.lo;have:=h.hi
 refine⟨by rw[V9];exact h.bd.lo,by rw[V9];exact h.bd.hi,fun x hx=>?_, ?_⟩
 ·obtain⟨y,hy,rfl⟩:=Zjz.mp hx
  exact Zm0 h.bd.nn _ y hy
 ·rw[Zg9 h.lo h.hi (h.bd.nn' _)];exact h.bd.sm
theorem Zh6 {ns:List Int}{p:Int} (h0:0<=p) (h1:p<ns.length):0<=ZiC ns p/\ZiC ns p<ns.length:=
 ⟨Z1g _ (by omega),Z1h _ (by omega)⟩
theorem ZiB {ns:List Int}{p:Int} (h:Zbs ns p):Zbs (ZiE ns p) (ZiC ns p):=by
 have h0:=h.lo
 have h1:=h.hi
 have hs:=h.pos
 obtain⟨l0,l1⟩:=Zh6 h0 h1
 refine⟨ZeE h,l0,by rw[V9];exact l1, ?_⟩
 have o0:=Z1g (ns.getD p.toNat 0) (show (ns.length:Int)≠0 by omega)
 have o1:=Z1h (ns.getD p.toNat 0) (show (0:Int)<ns.length by omega)
 have es:=Int.mul_ediv_add_emod (ns.getD p.toNat 0) ns.length
 have dn:=Int.ediv_nonneg (show 0<=ns.getD p.toNat 0 by omega) (show (0:Int)<=ns.length by omega)
 have hx:(ZiC ns p).toNat<ns.length:=by omega
 have hv:=h.bd.nn' (ZiC ns p).toNat
 unfold ZiE
 rw[ZbJ hx]
 unfold ZeF
 have mL:ZiC ns p=if p+ns.getD p.toNat 0%ns.length<ns.length then p+ns.getD p.toNat 0%ns.length else p+ns.getD p.toNat 0%ns.length-ns.length:=Zcw h0 h1 o0 o1
 by_cases c:ns.getD p.toNat 0%ns.length=0
 ·rw[ZiF (by rw[c] at mL;split at mL<;>omega)]
  have:=ZiD ns.length p (ns.getD p.toNat 0%ns.length) (ZiC ns p).toNat
  have:ns.getD p.toNat 0/ns.length≠0:=fun z=>by rw[z] at es;omega
  omega
 ·have m2:=JJ (n:=ns.length) l0 l1 h0 h1
  rw[ZbT (by rw[Z1k l0,m2];split at mL<;>split<;>omega),ZfF (by split at mL<;>omega)]
  omega
theorem Ze9 {ns:List Int}{q:Int} (h1:0<ns.length):0<=tbP ns q/\tbP ns q<ns.length:=
 ⟨Z1g _ (by omega),Z1h _ (by omega)⟩
theorem Zk5 {ns:List Int}{q:Int} (h:Zbs ns q):Zbs (tbB ns q) (tbP ns q):=by
 have h0:=h.lo
 have h1:=h.hi
 have hs:=h.pos
 obtain⟨p0,p1⟩:=Ze9 (ns:=ns) (q:=q) (by omega)
 obtain⟨j1,j2,j3⟩:=Zei h0 h1
 have hne:ns≠[]:=by intro e;rw[e] at h1;simp at h1;omega
 have hm:=h.bd.nn _ (Zb6 hne)
 have hT:0<tbT ns q:=by
  unfold tbT
  by_cases c:tbJ ns q=0
  ·unfold tbG at j3
   rw[c,Z1A,Int.sub_zero,Z1c h0 h1] at j3
   have:0<Zc5 ns:=by omega
   have:=Int.mul_pos this (show (0:Int)<ns.length by omega)
   omega
  ·have:=Int.mul_nonneg hm (show (0:Int)<=ns.length by omega)
   omega
 have hpl:(tbP ns q).toNat<ns.length:=by omega
 have nn:∀x∈tbB ns q,0<=x:=fun x hx=>by
  unfold tbB at hx
  rcases List.mem_or_eq_of_mem_set hx with z|z
  ·obtain⟨y,hy,rfl⟩:=Zjz.mp z
   have ml:=Zet (ns:=ns) (ZaN hy)
   unfold tbF
   split
   ·rename_i c
    have m:=JJ (n:=ns.length) h0 h1 (show (0:Int)<=y by omega) (by omega)
    have g:=j2 ((q-(y:Int))%ns.length).toNat (by have:=Z1g (q-(y:Int)) (show (ns.length:Int)≠0 by omega);omega)
    unfold tbG at g
    have e:((q-(((q-(y:Int))%ns.length).toNat:Nat))%(ns.length:Int)).toNat=y:=by
     have b:0<=(q-(y:Int))%ns.length/\(q-(y:Int))%ns.length<ns.length:=by rw[m];split<;>omega
     rw[Z1k b.1,JJ h0 h1 b.1 b.2,m]
     split<;>split<;>omega
    rw[e] at g;omega
   ·omega
  ·omega
 have hsum:(tbB ns q).sum=ns.sum:=by
  have e:=(Zk8 h0 h1 h.bd.nn).1
  have:=Zg9 (ns:=tbB ns q) (p:=tbP ns q) p0 (by rw[Vw];exact p1) (by
   by_cases hx:(tbP ns q).toNat<(tbB ns q).length
   ·exact nn _ (ZaN hx)
   ·rw[Z09,Z0I (by omega)];exact Z1L _)
  rw[e] at this
  exact this.symm
 refine⟨⟨by rw[Vw];exact h.bd.lo,by rw[Vw];exact h.bd.hi,nn,by rw[hsum];exact h.bd.sm⟩,p0,by rw[Vw];exact p1, ?_⟩
 unfold tbB
 rw[getD_set (by rw[Jc];exact hpl),if_pos rfl]
 exact hT
noncomputable def its {α:Type} (f:α->α):Nat->α->α
 |0,a=>a
 |n+1,a=>f (its f n a)
section
end
end My
namespace My
open PySem L2
noncomputable abbrev ZbY (a:List Int×Int):PV:=.tup [.lst (a.1.map PV.int),.int a.2]
noncomputable def Jh (ns:List Int):Bool:=decide (2<=ns.length/\ns.length<=24/\(∀x∈ns,0<=x)/\ns.sum<=10^60)
theorem V7 {ns:List Int}:Jh ns=true ↔ Ze6 ns:=by
 unfold Jh
 rw[decide_eq_true_iff]
 exact⟨fun⟨a,b,c,d⟩=>⟨a,b,c,d⟩,fun h=>⟨h.lo,h.hi,h.nn,h.sm⟩⟩
theorem Zbs.sowOk {ns:List Int}{p:Int} (h:Zbs ns p):0<=p/\p<ns.length/\ns.length<=1000:=⟨h.lo,h.hi,by have:=h.bd.hi;omega⟩
noncomputable def Zn6 (ns:List Int) (p:Int):Option Str:=if 0<=p/\p<ns.length then none else some "BadPit"
noncomputable def stX (ns:List Int) (p:Int):Option Str:=if Jh ns=true then (if 0<=p/\p<ns.length then (if ns.getD p.toNat 0=0 then some "NoSeeds" else none) else some "BadPit") else some "BadBoard"
theorem Zg6 {ns:List Int}{p:Int}:stX ns p=none ↔ Zbs ns p:=by
 unfold stX
 by_cases h:Jh ns=true
 ·have hB:=V7.mp h
  rw[if_pos h]
  by_cases h1:0<=p/\p<ns.length
  ·rw[if_pos h1]
   by_cases h2:ns.getD p.toNat 0=0
   ·rw[if_pos h2];exact⟨fun z=>(by cases z),fun z=>(by have:=z.pos;omega)⟩
   ·rw[if_neg h2];exact⟨fun _=>⟨hB,h1.1,h1.2,by have:=hB.nn' p.toNat;omega⟩,fun _=>rfl⟩
  ·rw[if_neg h1];exact⟨fun z=>(by cases z),fun z=>(h1 ⟨z.lo,z.hi⟩).elim⟩
 ·rw[if_neg h];exact⟨fun z=>(by cases z),fun z=>(h (V7.mpr z.bd)).elim⟩
theorem Zbs.tbOk {ns:List Int}{p:Int} (h:Zbs ns p):0<=p/\p<ns.length/\ns.length<=1000/\∀x∈ns,0<=x/\x<=10^60:=⟨h.lo,h.hi,by have:=h.bd.hi;omega,fun x hx=>⟨h.bd.nn x hx,by have:=Zmh h.bd.nn hx;have:=h.bd.sm;omega⟩⟩
end My
namespace L2
open PySem
noncomputable def fzI (ns:List Int):PV:=.fz (ns.map PV.int)
noncomputable abbrev Dd:=Str×Int×Int
noncomputable def dd3 (d:Dd):PV:=.tup [.str d.1,.int d.2.1,.int d.2.2]
noncomputable def ZqJ (u:Dd×List Int):PV:=.tup [dd3 u.1,fzI u.2]
structure Bk where
 bs:List (List Int)
 ds:List Dd
 us:List (Dd×List Int)
noncomputable def Zl9 (p:Option Addr) (b d u:List PV):PV:=.box p (.ob "RingBook" ["boards", "deeds", "undone"]) [.lst b,.lst d,.lst u]
noncomputable def bkP (p:Option Addr) (k:Bk):PV:=Zl9 p (k.bs.map fzI) (k.ds.map dd3) (k.us.map ZqJ)
theorem Zlw (ns:List Int):(fzI ns).flat=true:=PV.flats_ints ns
theorem ix1:(["boards", "deeds", "undone"]:List Str).idxOf ("deeds":Str)=1:=by decide +kernel
section
variable {p:Option Addr}{k:Bk}{b d u:List PV}
theorem Zqi:pFld "RingBook" "deeds" (Zl9 p b d u)=.ok (.lst d):=by simp only[pFld,Zl9,ix1,if_pos];rfl
theorem ZqW:pFld "RingBook" "deeds" (bkP p k)=.ok (.lst (k.ds.map dd3)):=Zqi
theorem ZqV {m:Str} (h:m ∉ (["boards", "deeds", "undone"]:List Str)):obG "RingBook" m (bkP p k)=.ok .non:=by
 unfold bkP Zl9 obG
 exact if_pos ⟨rfl,h⟩
theorem Zqh:obG "RingBook" "undo" (bkP p k)=.ok .non:=ZqV (by decide +kernel)
theorem Zqg {y:PV}:pSetF "RingBook" "boards" (.box p (.ob "RingBook" []) []) y=.ok (.box p (.ob "RingBook" ["boards"]) [y]):=by
 simp only[pSetF]
 rw[if_pos ⟨trivial,by decide⟩,show Zkp ("boards":Str) ([]:List Str)=(["boards"]:List Str) by decide +kernel]
 unfold ZgG
 rw[if_neg (by decide +kernel)];rfl
theorem Zqf {x y:PV}:pSetF "RingBook" "deeds" (.box p (.ob "RingBook" ["boards"]) [x]) y=.ok (.box p (.ob "RingBook" ["boards", "deeds"]) [x,y]):=by
 simp only[pSetF]
 rw[if_pos ⟨trivial,by decide⟩,show Zkp ("deeds":Str) (["boards"]:List Str)=(["boards", "deeds"]:List Str) by decide +kernel]
 unfold ZgG
 rw[if_neg (by decide +kernel)];rfl
theorem Zqe {x y z:PV}:pSetF "RingBook" "undone" (.box p (.ob "RingBook" ["boards", "deeds"]) [x,y]) z=.ok (.box p (.ob "RingBook" ["boards", "deeds", "undone"]) [x,y,z]):=by
 simp only[pSetF]
 rw[if_pos ⟨trivial,by decide⟩,show Zkp ("undone":Str) (["boards", "deeds"]:List Str)=(["boards", "deeds", "undone"]:List Str) by decide +kernel]
 unfold ZgG
 rw[if_neg (by decide +kernel)];rfl
end
theorem ZoM {ns:List Int}:grd (fzI ns)=.ok (fzI ns):=by unfold grd;rw[if_pos (Zlw ns)]
theorem ZnI {p:Option Addr}{k:Bk}:unp (bkP p k)=bkP none k:=rfl
theorem Zlx {ns:List Int}:Zf8 (.lst (ns.map PV.int))=fzI ns:=by simp only[Zf8,ZdZ];rfl
end L2
namespace L2
noncomputable def ZoK (p s:Int):Int:=p*s%(p+1)
noncomputable def ZqB (p s:Int):Int:=p*s/(p+1)
noncomputable def Zm1 (s:Int):Nat->Int
 |0=>s
 |k+1=>ZqB (k+1) (Zm1 s k)
noncomputable def ZoP (s:Int) (n:Nat):List Int:=(List.range n).map fun(k:Nat)=>ZoK (k+1) (Zm1 s k)
noncomputable def ZnE (s:Int):Nat->Nat->Nat
 |0,k=>k
 |n+1,k=>if 0<Zm1 s k then ZnE s n (k+1) else k
noncomputable def ZqI (s:Int):Nat:=ZnE s s.toNat 0
noncomputable def Zp1 (s:Int):List Int:=ZoP s (ZqI s)
theorem ZnW:∀{ns:List Int},(∀x∈ns,0<=x)->0<=ns.sum
 |[],_=>by simp
 |n::ns,h=>by
  have h1:=h n (by simp)
  have h2:=ZnW (ns:=ns) fun x hx=>h x (by simp[hx])
  simp only[Z1C];omega
def Zed (ns:List Int):Prop:=(∀x∈ns,0<=x)/\ns.length<=200/\ns.sum<=10000/\(ns=[]\/ns.getD (ns.length-1) 0≠0)
noncomputable instance (ns:List Int):Decidable (Zed ns):=by unfold Zed;infer_instance
def Zmt (ns:List Int):Prop:=Zed ns/\ns=Zp1 ns.sum
noncomputable instance (ns:List Int):Decidable (Zmt ns):=by unfold Zmt;infer_instance
noncomputable def s2 (ns:List Int) (r:Nat):Nat->Int
 |0=>0
 |i+1=>s2 ns r i+if i%2=r then ns.getD i 0 else 0
noncomputable def hs:Nat->Nat->Int->List Int
 |_,0,_=>[]
 |k,m+1,l=>ZoK (k+1) l::hs (k+1) m (ZqB (k+1) l)
noncomputable def s3 (ns:List Int) (r:Nat):Nat->Int
 |0=>0
 |i+1=>s3 ns r i+if i%3=r then ns.getD i 0 else 0
def Zbr (ns:List Int):Prop:=(∀x∈ns,0<=x)/\ns.length<=100/\ns.sum<=100/\(ns=[]\/(ns.getD 0 0≠0/\ns.getD (ns.length-1) 0≠0))
noncomputable instance (ns:List Int):Decidable (Zbr ns):=by unfold Zbr;infer_instance
theorem Zhn {ns:List Int}{i:Nat} (h:ns.length<=i):ns.getD i 0=0:=by
 rw[Z09,Z0I h];rfl
theorem sum_nn:∀{ns:List Int},(∀x∈ns,0<=x)->0<=ns.sum
 |[],_=>by simp
 |x::xs,h=>by
  have:=h x (by simp)
  have:=sum_nn (ns:=xs) (fun y hy=>h y (by simp[hy]))
  simp;omega
theorem getD_set {l:List Int}{i j:Nat}{v:Int} (h:i<l.length):(l.set i v).getD j 0=if i=j then v else l.getD j 0:=by
 simp only[Z09,List.getElem?_set,if_pos h]
 split<;>rfl
theorem mem_getD {l:List Int}{x:Int} (h:x∈l):∃i,i<l.length/\x=l.getD i 0:=by
 obtain⟨i,hi,rfl⟩:=List.getElem_of_mem h
 exact⟨i,hi,by rw[Z09,Z0B hi];rfl⟩
end L2
namespace My
open L2
theorem Zqx {a:List Int×Int} (h:Zbs a.1 a.2):∀n,Zbs (its ZbO n a).1 (its ZbO n a).2
 |0=>h
 |n+1=>ZiB (Zqx h n)
noncomputable def ZbU (a:List Int×Int) (most:Nat):Option Nat:=(List.range most).find? fun i=>decide (its ZbO (i+1) a=a)
theorem ZfQ {a:List Int×Int}{m:Nat} (h:ZbU a m=none):∀i,i<m->its ZbO (i+1) a≠a:=fun i hi e=>by
 have:=List.find?_eq_none.mp h i (Z1a.mpr hi)
 simp[e] at this
theorem ZfP {a:List Int×Int}{m i:Nat} (h:ZbU a m=some i):i<m/\its ZbO (i+1) a=a/\∀j,j<i->its ZbO (j+1) a≠a:=by
 unfold ZbU at h
 have h1:=Z1n.mp h
 refine⟨Z1a.mp h1.2.1,by simpa using h1.1,fun j hj=>?_⟩
 have:=h1.2.2 j hj
 simpa using this
noncomputable def Zeh (a:List Int×Int) (n:Nat):List (List Int×Int):=(List.range n).map fun j=>its ZbO j a
@[simp] theorem Zbu (a:List Int×Int) (n:Nat):(Zeh a n).length=n:=by simp[Zeh]
theorem Zh1 (a:List Int×Int) (n:Nat):Zeh a (n+1)=Zeh a n++[its ZbO n a]:=by simp[Zeh,List.range_succ]
theorem Zj7 (a:List Int×Int):∀n,(its ZbO n a).1.length=a.1.length
 |0=>rfl
 |n+1=>by
  show (ZiE (its ZbO n a).1 (its ZbO n a).2).length=_
  rw[V9,Zj7 a n]
noncomputable def Zp4 (ns:List Int) (k:Int):List Int:=tab ns.length fun x=>ns.getD (((x:Int)-k)%ns.length).toNat 0
noncomputable def Zp3 (a:List Int×Int) (s:Nat):Int:=((its ZbO s a).2-a.2)%a.1.length
def isT (a:List Int×Int) (s:Nat):Prop:=(its ZbO s a).1=Zp4 a.1 (Zp3 a s)
noncomputable instance (a:List Int×Int) (s:Nat):Decidable (isT a s):=by unfold isT;infer_instance
noncomputable abbrev Zc2:=PySem.Str×Int
noncomputable def JC (d:Zc2):PV:=.tup [.str d.1,.int d.2]
noncomputable def Zl5 (w:PySem.Str):Bool:=w==("sow":PySem.Str) || w==("back":PySem.Str)
noncomputable def Zf9 (b:List Int) (d:Zc2):Bool:=Zl5 d.1&&(decide (0<=d.2/\d.2<(b.length:Int))&&decide (0<b.getD d.2.toNat 0))
noncomputable def Zey (b:List Int) (d:Zc2):List Int×Int:=if d.1=("sow":PySem.Str) then ZbO (b,d.2) else tbS (b,d.2)
theorem Zc0 {b:List Int}{d:Zc2} (B:Ze6 b) (h:Zf9 b d=true):Zbs b d.2:=by
 unfold Zf9 at h
 simp only[Bool.and_eq_true,decide_eq_true_eq] at h
 exact⟨B,h.2.1.1,h.2.1.2,h.2.2⟩
theorem Zgm {b:List Int}{d:Zc2} (h:Zbs b d.2):Ze6 (Zey b d).1:=by
 unfold Zey
 split
 ·exact ZeE h
 ·exact(Zk5 h).bd
theorem Zfr (b:List Int) (d:Zc2):(Zey b d).1.length=b.length:=by
 unfold Zey
 split
 ·exact V9 _ _
 ·exact Vw _ _
noncomputable def Zit (b:List Int) (ds:List Zc2):Nat->List Int
 |0=>b
 |i+1=>(Zey (Zit b ds i) (ds.getD i ("",0))).1
noncomputable def Zfv (b:List Int) (ds:List Zc2) (i:Nat):Bool:=Zf9 (Zit b ds i) (ds.getD i ("",0))
noncomputable def wkF (b:List Int) (ds:List Zc2):Option Nat:=(List.range ds.length).find? fun i=>!Zfv b ds i
theorem Zkx {b:List Int}{ds:List Zc2}{k:Nat} (h:wkF b ds=some k):k<ds.length/\Zfv b ds k=false/\∀j,j<k->Zfv b ds j=true:=by
 obtain⟨h1,h2,h3⟩:=Z1n.mp h
 exact⟨Z1a.mp h2,by simpa using h1,fun j hj=>by simpa using h3 j hj⟩
theorem Zky {b:List Int}{ds:List Zc2} (h:wkF b ds=none):∀j,j<ds.length->Zfv b ds j=true:=fun j hj=>by
 have:=List.find?_range_eq_none.mp h j hj
 simpa using this
theorem V8 {b:List Int}{ds:List Zc2}{k:Nat} (h1:k<ds.length) (h2:Zfv b ds k=false) (h3:∀j,j<k->Zfv b ds j=true):wkF b ds=some k:=
 Z1n.mpr ⟨by simp[h2],Z1a.mpr h1,fun j hj=>by simp[h3 j hj]⟩
theorem ZfA (b:List Int) (ds:List Zc2) (i:Nat):(Zit b ds i).length=b.length:=by
 induction i with
 |zero=>rfl
 |succ i ih=>simp only[Zit];rw[Zfr,ih]
theorem Zcl {b:List Int}{ds:List Zc2} (B:Ze6 b):∀{i:Nat},(∀j,j<i->Zfv b ds j=true)->Ze6 (Zit b ds i)
 |0,_=>B
 |i+1,h=>Zgm (Zc0 (Zcl B fun j hj=>h j (by omega)) (h i (by omega)))
end My
namespace L2
open PySem PySem.NumText PyProof.Rows
noncomputable def Zf6 (n:Int):Str:=Str.ofString (toString n)
noncomputable def spS:Str:=⟨#[32]⟩
theorem ZnX:Str.ofString " "=spS:=by decide
theorem ZgU {n:Int} (h:0<=n):(Zf6 n).cps.toList=(Nat.toDigits 10 n.toNat).map Char.toNat:=by
 obtain⟨m,rfl⟩:=Int.eq_ofNat_of_zero_le h
 exact PySem.W.KIN.signs_num m
theorem Zid (m:Nat):AllDigits ((Nat.toDigits 10 m).map Char.toNat):=fun c hc=>by
 obtain⟨ch,hch,e⟩:=Z1e.mp hc
 have r:=PyProof.Rows.digit_range (Nat.isDigit_of_mem_toDigits (by decide) (by decide) hch)
 rw[<- e]
 exact r
theorem ZoU (m:Nat):(Nat.toDigits 10 m).map Char.toNat≠[]:=fun e=>by
 have h:=toDigits_len_ge 10 m
 rw[List.map_eq_nil_iff.mp e] at h
 exact absurd h (by decide)
theorem ZkZ {n:Int}:(Zf6 n).length=(Zf6 n).cps.toList.length:=by simp[Str.length]
theorem ZmQ {n:Int}{k:Nat} (h0:0<=n) (hk:0<k) (h:n<10^k):(Zf6 n).length<=k:=PyProof.Rows.toString_length_le h0 hk h
theorem ZgT {n:Int} (h0:0<=n):∀c∈(Zf6 n).cps.toList,48<=c/\c<=57:=by rw[ZgU h0];exact Zid _
theorem ZmP {n:Int} (h0:0<=n):PyData.canLay0 (.str (Zf6 n))=true:=by
 unfold PyData.canLay0 PyData.strOk
 rw[<- Z1w,Z0Q]
 intro c hc
 have:=ZgT h0 c hc
 exact decide_eq_true (by omega)
noncomputable def Zn9:Str := "0123456789"
theorem ZoQ {c:Nat} (h:48<=c/\c<=57):inS ⟨#[c]⟩ Zn9=true:=by
 unfold inS
 rw[StrLaws.found_one]
 refine decide_eq_true ?_
 have e:Zn9.cps.toList=[48,49,50,51,52,53,54,55,56,57]:=by decide
 rw[e]
 simp only[Z0G,Z1B,or_false]
 omega
theorem Zix {c:Nat}:∀{x y A B:List Nat},c ∉ x->c ∉ y->x++c::A=y++c::B->x=y/\A=B
 |[],[],_,_,_,_,h=>⟨rfl,(List.cons.inj h).2⟩
 |[],b::y,_,_,_,hy,h=>by
  have:=(List.cons.inj h).1
  exact absurd (by simp[this]) hy
 |a::x,[],_,_,hx,_,h=>by
  have:=(List.cons.inj h).1
  exact absurd (by simp[this]) hx
 |a::x,b::y,A,B,hx,hy,h=>by
  obtain⟨h1,h2⟩:=List.cons.inj h
  obtain⟨e1,e2⟩:=Zix (c:=c) (x:=x) (y:=y) (fun z=>hx (by simp[z])) (fun z=>hy (by simp[z])) h2
  exact⟨by rw[h1,e1],e2⟩
theorem ZaM (c:Nat) (x y:Str) (r:List Str):(Str.join ⟨#[c]⟩ (x::y::r)).cps.toList=x.cps.toList++c::(Str.join ⟨#[c]⟩ (y::r)).cps.toList:=by
 show (x++⟨#[c]⟩++Str.join ⟨#[c]⟩ (y::r)).cps.toList=_
 simp[Str.cps_append]
theorem Zfc (c:Nat):∀{ws vs:List Str},ws≠[]->vs≠[]->(∀w∈ws,c ∉ w.cps.toList)->(∀w∈vs,c ∉ w.cps.toList)->Str.join ⟨#[c]⟩ ws=Str.join ⟨#[c]⟩ vs->ws=vs
 |[],_,h,_,_,_,_=>absurd rfl h
 |_,[],_,h,_,_,_=>absurd rfl h
 |[x],[y],_,_,_,_,h=>by rw[show x=y from h]
 |[x],y::y'::r,_,_,hx,_,h=>by
  have e:(Str.join _ _).cps.toList=(Str.join _ _).cps.toList:=congrArg (fun z:Str=>z.cps.toList) h
  rw[ZaM] at e
  exact absurd (show c∈x.cps.toList by rw[show x.cps.toList=_ from e];simp) (hx x (by simp))
 |x::x'::r,[y],_,_,_,hy,h=>by
  have e:(Str.join _ _).cps.toList=(Str.join _ _).cps.toList:=congrArg (fun z:Str=>z.cps.toList) h
  rw[ZaM] at e
  exact absurd (show c∈y.cps.toList by rw[show y.cps.toList=_ from e.symm];simp) (hy y (by simp))
 |x::x'::r,y::y'::q,_,_,hx,hy,h=>by
  have e:(Str.join _ _).cps.toList=(Str.join _ _).cps.toList:=congrArg (fun z:Str=>z.cps.toList) h
  rw[ZaM,ZaM] at e
  obtain⟨e1,e2⟩:=Zix (hx x (by simp)) (hy y (by simp)) e
  have e3:Str.join ⟨#[c]⟩ (x'::r)=Str.join ⟨#[c]⟩ (y'::q):=Str.ext' (Z1x.mp e2)
  have ih:=Zfc c (by simp) (by simp) (fun w hw=>hx w (by simp at hw ⊢;exact .inr hw)) (fun w hw=>hy w (by simp at hw ⊢;exact .inr hw)) e3
  rw[ih,Str.ext' (Z1x.mp e1)]
theorem Zk7 (x y:Str):Txt.split x y≠[]:=by
 unfold Txt.split
 split
 ·simp
 ·split
  ·simp
  ·rw[StrLaws.partsBetween_eq]
   obtain⟨p,r,e⟩:=StrLaws.partsFrom_ne x y.length 0 (Builtin.Str.occurrences x y 0 x.length (x.length+1))
   rw[e];simp
theorem ZmW {n:Int} (h0:0<=n) (h:n<10^110):n.natAbs.log2<1920:=by
 by_cases c:n.natAbs=0
 ·rw[c];decide
 ·refine(Nat.log2_lt c).mpr ?_
  have h1:n.natAbs<10^110:=by
   have:((n.natAbs:Nat):Int)<((10^110:Nat):Int):=by
    rw[Int.natCast_pow]
    have e:((n.natAbs:Nat):Int)=n:=by omega
    rw[e];exact h
   exact Int.ofNat_lt.mp this
  exact Z0E h1 (by decide +kernel)
theorem ZkL {n:Int} (h0:0<=n) (h:n<10^110):ZkM [.int n]=.ok (.str (Zf6 n)):=if_pos (ZmW h0 h)
theorem ZkV {a b:Str} (h:a.length+b.length<=1000000):ZmM (.str a) (.str b)=.ok (.str (a++b)):=if_pos h
def Zgb (s:Str):Prop:=PyData.canLay0 (.str s)=true
theorem Zb9 {s:Str}:Zgb s ↔ ∀c∈s.cps.toList,c<1114112:=by
 unfold Zgb PyData.canLay0 PyData.strOk
 rw[<- Z1w,Z0Q]
 constructor
 ·intro h c hc
  have:=h c hc
  simpa using this
 ·intro h c hc
  have:=h c hc
  simpa using this
theorem Zdf (s:Str):s.length=s.cps.toList.length:=by simp[Str.length]
theorem Zhf (c:Nat):∀{ws:List Str}{w:Str},w∈ws->(∀d∈w.cps.toList,d∈(Str.join ⟨#[c]⟩ ws).cps.toList)/\w.length<=(Str.join ⟨#[c]⟩ ws).length
 |[],w,h=>by simp at h
 |[x],w,h=>by
  rw[Z1r.mp h]
  exact⟨fun d hd=>hd,Z0D _⟩
 |x::y::r,w,h=>by
  rw[Zdf,Zdf,ZaM]
  rcases Z0G.mp h with h|h
  ·rw[h]
   exact⟨fun d hd=>Z0C _ hd,by simp⟩
  ·obtain⟨h1,h2⟩:=Zhf c (ws:=y::r) h
   rw[Zdf,Zdf] at h2
   exact⟨fun d hd=>Z0A _ (Z0P _ (h1 d hd)),by rw[Z0Z,Z0T];omega⟩
theorem ZdC {s w:Str}{c:Nat} (h:w∈Txt.split s ⟨#[c]⟩):(Zgb s->Zgb w)/\w.length<=s.length:=by
 have e:=StrLaws.join_split s ⟨#[c]⟩
 obtain⟨h1,h2⟩:=Zhf c h
 rw[e] at h1 h2
 exact⟨fun hs=>Zb9.mpr fun d hd=>Zb9.mp hs d (h1 d hd),h2⟩
theorem Zh5 {c:Nat}{ws:List Str} (hn:ws≠[]) (h:∀w∈ws,c ∉ w.cps.toList):Txt.split (Str.join ⟨#[c]⟩ ws) ⟨#[c]⟩=ws:=
 Zfc c (Zk7 _ _) hn (StrLaws.split_free _ c) h (StrLaws.join_split _ _)
noncomputable def Zgg (c:Nat):Bool:=decide (48<=c/\c<=57)
theorem ZoR (c:Nat):inS ⟨#[c]⟩ Zn9=Zgg c:=by
 by_cases h:48<=c/\c<=57
 ·rw[ZoQ h];exact(decide_eq_true h).symm
 ·unfold inS Zgg
  rw[StrLaws.found_one,decide_eq_false h]
  refine decide_eq_false fun z=>h ?_
  have e:Zn9.cps.toList=[48,49,50,51,52,53,54,55,56,57]:=by decide
  rw[e] at z
  simp only[Z0G,Z1B,or_false] at z
  omega
noncomputable def ZpQ (cs:List Nat):Bool:=!cs.isEmpty&&(cs.all Zgg&&(decide (cs=[48]) || !decide (cs.head?=some 48)))
noncomputable def ZhL (w:Str):Bool:=ZpQ w.cps.toList
noncomputable def ZbE (s:Str):List Str:=Txt.split s spS
theorem ZhF {s:Str}{c:Nat} (h:s.length<=100000) (hc:(Txt.split s ⟨#[c]⟩).length<=1000000):ZgK s [.str ⟨#[c]⟩]=.ok (.lst ((Txt.split s ⟨#[c]⟩).map PV.str)):=if_pos ⟨Z0D 1,h,hc⟩
structure OkW (w:Str):Prop where
 lay:Zgb w
 len:w.length<=100
 sp:32 ∉ w.cps.toList
 nl:10 ∉ w.cps.toList
structure Zrb (ws:List Str):Prop where
 ne:ws≠[]
 len:ws.length<=60
 ok:∀w∈ws,OkW w
section
end
theorem ZmX {a b:Str} (ha:Zgb a) (hb:Zgb b):Zgb (a++b):=Zb9.mpr fun c hc=>by
 rw[Str.cps_append,Array.toList_append] at hc
 rcases Z0F.mp hc with z|z
 ·exact Zb9.mp ha c z
 ·exact Zb9.mp hb c z
end L2
namespace L2
noncomputable def tri:Nat->Int
 |0=>0
 |k+1=>tri k+(k+1)
theorem Zi2:∀k:Nat,2*tri k=(k:Int)*(k+1)
 |0=>by simp[tri]
 |k+1=>by
  rw[tri,Int.mul_add,Zi2 k,show ((k+1:Nat):Int)=(k:Int)+1 by omega]
  simp only[Int.mul_add,Int.add_mul,Int.mul_one,Int.one_mul]
  omega
theorem Zi3 (k:Nat):((k:Int)+1)*((k:Int)+2)/2=tri (k+1):=by
 have:=Zi2 (k+1)
 rw[show ((k+1:Nat):Int)=(k:Int)+1 by omega,show (k:Int)+1+1=(k:Int)+2 by omega] at this
 rw[<- this]
 omega
theorem Zg3 {a b:Nat} (h:a<=b):tri a<=tri b:=by
 obtain⟨d,rfl⟩:∃d,b=a+d:=⟨b-a,by omega⟩
 clear h
 induction d with
 |zero=>exact Z1L _
 |succ d ih=>rw[<- Nat.add_assoc,tri];omega
theorem ZlG:∀k:Nat,(k:Int)<=tri k
 |0=>by simp[tri]
 |k+1=>by have:=ZlG k;have:=Zg3 (Z16 k);rw[tri];simp[tri] at this;omega
noncomputable def kN (s:Int):Nat:=((List.range (s.toNat+1)).find? fun(k:Nat)=>decide (s<tri (k+1))).getD 0
theorem Zgf {s:Int} (h:0<=s):tri (kN s)<=s/\s<tri (kN s+1)/\(kN s:Int)<=s:=by
 cases hf:(List.range (s.toNat+1)).find? fun(k:Nat)=>decide (s<tri (k+1)) with
 |none =>
  have:=List.find?_eq_none.mp hf s.toNat (Z1a.mpr (by omega))
  have h2:=ZlG (s.toNat+1)
  simp at this
  omega
 |some k =>
  have h1:=Z1n.mp hf
  have e:kN s=k:=by unfold kN;rw[hf];rfl
  rw[e]
  have hk:=of_decide_eq_true h1.1
  have hm:=Z1a.mp h1.2.1
  refine⟨?_,hk,by omega⟩
  cases k with
  |zero=>exact h
  |succ k =>
   have:=h1.2.2 k (by omega)
   simp at this
   exact this
noncomputable def adI (l:List Int) (k i:Nat):Int:=l.getD i 0-((k:Int)-i)
structure ZqY (l:List Int) (k:Nat):Prop where
 lo:tri k<=l.sum
 hi:l.sum<tri (k+1)
 ad:∀i,i<=k->0<=adI l k i/\adI l k i<=1
 z:∀i,k<i->l.getD i 0=0
def Row (l:List Int):Prop:=ZqY l (kN l.sum)
theorem Zo1 {l:List Int} (h:Zbr l) {n:Nat} (hz:∀i,n<=i->l.getD i 0=0):l.length<=n:=by
 rcases h.2.2.2 with c|c
 ·subst c;simp
 ·by_cases e:l.length<=n
  ·exact e
  ·exact absurd (hz (l.length-1) (by omega)) c.2
end L2
namespace My
open PySem L2
set_option hygiene false
local macro_rules | `(tactic| walk_at "pu")=>`(tactic| try simp -implicitDefEqProofs only[Zgi,Zgj,List.set_cons_zero,Z1J,List.cons_append,Z1G,Z0V,List.replicate_zero,Z13,Rr.bind_ok,Rr.bind_exc,Rr.bind_bad,Rr.thenS_ok,Rr.thenS_exc,RS.seq_next,RS.seq_ret,RS.seq_exc,RS.out_next,RS.out_ret,RS.out_exc,
 Zjh,ZiW,ZlT,ZlV,Zmb,Zmc,ZjF,Zmr,Zke,Zma,ZlZ,ZlY,ZiZ,ZlX,ZlW,Zhj,Zhk,Zhi,Zhh,Zje,ZgN,ZeP,ZcR,Z0T,Z14,Bool.not_true,Bool.not_false,Bool.false_eq_true,if_true,if_false,Nat.reduceAdd,Nat.reduceSub,id,Z0R,Z1I,Int.reduceToNat,ZdE,ZcS,Zoq,Zmg,Zmf,Zhm,ZgV,Nat.reduceLeDiff,Z0D,Int.reduceLT,Int.reduceLE,Int.reduceEq,decide_true,decide_false])
set_option hygiene true
seal PE PT PA PS PSs DE DT DAA DAF DS
noncomputable abbrev JX:List Str:=["boards", "deeds", "undone"]
noncomputable def top (i:Nat):Stmt:=PySem.Challenge.pw_sowring_k70_refusals_stand_alone.main.body.getD i (.Pass ⟨0,0,0,0⟩)
noncomputable abbrev ZsT:Stmt:=top 25
theorem Zzx:Zs ["value"] ["value"] (Ze ZsT):=⟨rfl,rfl,rfl,by decide +kernel,rfl,by decide +kernel,by decide +kernel⟩
theorem Zz9:Zt "is_whole" ZsT ["value"]:=fun _ _ _ _ _ _ us hl=>by obtain⟨_,rfl⟩:=us1 hl;rfl
noncomputable abbrev Zrz:Stmt:=top 26
theorem ZwT:Zs ["value", "least"] ["value", "least"] (Ze Zrz):=⟨rfl,rfl,rfl,by decide +kernel,rfl,by decide +kernel,by decide +kernel⟩
theorem ZtF:Zt "is_whole_from" Zrz ["value", "least"]:=fun _ _ _ _ _ _ us hl=>by obtain⟨_,_,rfl⟩:=us2 hl;rfl
noncomputable abbrev Zre:Stmt:=top 27
theorem Ztg:Zs ["values"] ["values"] (Ze Zre):=⟨rfl,rfl,rfl,by decide +kernel,rfl,by decide +kernel,by decide +kernel⟩
theorem ZrP:Zt "is_list_from_nought" Zre ["values"]:=fun _ _ _ _ _ _ us hl=>by obtain⟨_,rfl⟩:=us1 hl;rfl
noncomputable abbrev Zsm:Stmt:=top 24
theorem Zyw:Zs [] [] (Ze Zsm):=⟨rfl,rfl,rfl,by decide +kernel,rfl,by decide +kernel,by decide +kernel⟩
theorem Zwq:Zt "most_seeds" Zsm []:=fun _ _ _ _ _ _ us hl=>match us,hl with | [],_=>rfl
noncomputable abbrev ZsU:Stmt:=top 28
theorem Zzy:Zs ["board"] ["board"] (Ze ZsU):=⟨rfl,rfl,rfl,by decide +kernel,rfl,by decide +kernel,by decide +kernel⟩
theorem ZzA:Zt "is_board" ZsU ["board"]:=fun _ _ _ _ _ _ us hl=>by obtain⟨_,rfl⟩:=us1 hl;rfl
noncomputable abbrev ZrV:Stmt:=top 29
theorem ZxR:Zs ["board"] ["board"] (Ze ZrV):=⟨rfl,rfl,rfl,by decide +kernel,rfl,by decide +kernel,by decide +kernel⟩
theorem Zsj:Zt "check_board" ZrV ["board"]:=fun _ _ _ _ _ _ us hl=>by obtain⟨_,rfl⟩:=us1 hl;rfl
noncomputable abbrev ZrW:Stmt:=top 33
theorem ZxS:Zs ["board", "other"] ["board", "other"] (Ze ZrW):=⟨rfl,rfl,rfl,by decide +kernel,rfl,by decide +kernel,by decide +kernel⟩
theorem Zyk:Zt "check_alike" ZrW ["board", "other"]:=fun _ _ _ _ _ _ us hl=>by obtain⟨_,_,rfl⟩:=us2 hl;rfl
noncomputable abbrev Zrn:Stmt:=top 101
theorem Zwk:Zs ["board"] ["board"] (Ze Zrn):=⟨rfl,rfl,rfl,by decide +kernel,rfl,by decide +kernel,by decide +kernel⟩
theorem Zug:Zt "check_few_seeds" Zrn ["board"]:=fun _ _ _ _ _ _ us hl=>by obtain⟨_,rfl⟩:=us1 hl;rfl
noncomputable abbrev Ztr:Stmt:=top 46
theorem ZsQ:Zs ["board", "pit", "pits", "rounds", "over", "other", "last", "step"] ["board", "pit"] (Ze Ztr):=⟨rfl,rfl,rfl,by decide +kernel,rfl,by decide +kernel,by decide +kernel⟩
theorem ZwE:Zt "sow_pit" Ztr ["board", "pit"]:=fun _ _ _ _ _ _ us hl=>by obtain⟨_,_,rfl⟩:=us2 hl;rfl
noncomputable abbrev Zuc:Stmt:=top 105
theorem ZzZ:Zs ["board", "other", "plan", "standing"] ["board", "other"] (Ze Zuc):=⟨rfl,rfl,rfl,by decide +kernel,rfl,by decide +kernel,by decide +kernel⟩
theorem Z0l:Zt "way_to" Zuc ["board", "other"]:=fun _ _ _ _ _ _ us hl=>by obtain⟨_,_,rfl⟩:=us2 hl;rfl
noncomputable abbrev Zue:Stmt:=top 30
theorem Z0b:Zs ["board", "pit"] ["board", "pit"] (Ze Zue):=⟨rfl,rfl,rfl,by decide +kernel,rfl,by decide +kernel,by decide +kernel⟩
theorem ZxB:Zt "is_pit" Zue ["board", "pit"]:=fun _ _ _ _ _ _ us hl=>by obtain⟨_,_,rfl⟩:=us2 hl;rfl
noncomputable abbrev Zs9:Stmt:=top 31
theorem Zzf:Zs ["board", "pit"] ["board", "pit"] (Ze Zs9):=⟨rfl,rfl,rfl,by decide +kernel,rfl,by decide +kernel,by decide +kernel⟩
theorem ZwR:Zt "check_pit" Zs9 ["board", "pit"]:=fun _ _ _ _ _ _ us hl=>by obtain⟨_,_,rfl⟩:=us2 hl;rfl
noncomputable abbrev Zrt:Stmt:=top 32
theorem Zws:Zs ["board", "pit"] ["board", "pit"] (Ze Zrt):=⟨rfl,rfl,rfl,by decide +kernel,rfl,by decide +kernel,by decide +kernel⟩
theorem Zu8:Zt "check_standing" Zrt ["board", "pit"]:=fun _ _ _ _ _ _ us hl=>by obtain⟨_,_,rfl⟩:=us2 hl;rfl
noncomputable abbrev ZwO:Stmt:=top 44
theorem Z0x:Zs ["board", "pit"] ["board", "pit"] (Ze ZwO):=⟨rfl,rfl,rfl,by decide +kernel,rfl,by decide +kernel,by decide +kernel⟩
theorem Z03:Zt "sown" ZwO ["board", "pit"]:=fun _ _ _ _ _ _ us hl=>by obtain⟨_,_,rfl⟩:=us2 hl;rfl
noncomputable abbrev Zs7:Stmt:=top 34
theorem ZwM:Zs ["numbers"] ["numbers"] (Ze Zs7):=⟨rfl,rfl,rfl,by decide +kernel,rfl,by decide +kernel,by decide +kernel⟩
theorem Zzq:Zt "is_rising" Zs7 ["numbers"]:=fun _ _ _ _ _ _ us hl=>by obtain⟨_,rfl⟩:=us1 hl;rfl
noncomputable abbrev ZrA:Stmt:=top 35
theorem Zvr:Zs ["board", "barred"] ["board", "barred"] (Ze ZrA):=⟨rfl,rfl,rfl,by decide +kernel,rfl,by decide +kernel,by decide +kernel⟩
theorem ZxD:Zt "check_barred" ZrA ["board", "barred"]:=fun _ _ _ _ _ _ us hl=>by obtain⟨_,_,rfl⟩:=us2 hl;rfl
noncomputable abbrev Zso:Stmt:=top 56
theorem Zyy:Zs ["board", "barred"] ["board", "barred"] (Ze Zso):=⟨rfl,rfl,rfl,by decide +kernel,rfl,by decide +kernel,by decide +kernel⟩
theorem ZyQ:Zt "check_play" Zso ["board", "barred"]:=fun _ _ _ _ _ _ us hl=>by obtain⟨_,_,rfl⟩:=us2 hl;rfl
noncomputable abbrev Ztv:Stmt:=top 55
theorem ZzG:Zs ["board", "barred"] ["board", "barred"] (Ze Ztv):=⟨rfl,rfl,rfl,by decide +kernel,rfl,by decide +kernel,by decide +kernel⟩
theorem ZzT:Zt "come_to" Ztv ["board", "barred"]:=fun _ _ _ _ _ _ us hl=>by obtain⟨_,_,rfl⟩:=us2 hl;rfl
noncomputable abbrev Ztt:Stmt:=top 59
theorem Zyv:Zs ["board", "barred", "boards", "pits"] ["board", "barred"] (Ze Ztt):=⟨rfl,rfl,rfl,by decide +kernel,rfl,by decide +kernel,by decide +kernel⟩
theorem ZzR:Zt "ends_of" Ztt ["board", "barred"]:=fun _ _ _ _ _ _ us hl=>by obtain⟨_,_,rfl⟩:=us2 hl;rfl
noncomputable abbrev ZrU:Stmt:=top 38
theorem ZxQ:Zs ["number", "least", "most"] ["number", "least", "most"] (Ze ZrU):=⟨rfl,rfl,rfl,by decide +kernel,rfl,by decide +kernel,by decide +kernel⟩
theorem ZvT:Zt "check_count" ZrU ["number", "least", "most"]:=fun _ _ _ _ _ _ us hl=>by obtain⟨_,_,_,rfl⟩:=us3 hl;rfl
noncomputable abbrev ZrS:Stmt:=top 39
theorem ZxO:Zs ["pits", "seeds"] ["pits", "seeds"] (Ze ZrS):=⟨rfl,rfl,rfl,by decide +kernel,rfl,by decide +kernel,by decide +kernel⟩
theorem Zyi:Zt "check_sizes" ZrS ["pits", "seeds"]:=fun _ _ _ _ _ _ us hl=>by obtain⟨_,_,rfl⟩:=us2 hl;rfl
noncomputable abbrev ZrY:Stmt:=top 41
theorem ZxU:Zs ["pits", "seeds"] ["pits", "seeds"] (Ze ZrY):=⟨rfl,rfl,rfl,by decide +kernel,rfl,by decide +kernel,by decide +kernel⟩
theorem Zym:Zt "board_count" ZrY ["pits", "seeds"]:=fun _ _ _ _ _ _ us hl=>by obtain⟨_,_,rfl⟩:=us2 hl;rfl
noncomputable abbrev ZrX:Stmt:=top 98
theorem ZxT:Zs ["board", "deed"] ["board", "deed"] (Ze ZrX):=⟨rfl,rfl,rfl,by decide +kernel,rfl,by decide +kernel,by decide +kernel⟩
theorem Zyl:Zt "can_be_done" ZrX ["board", "deed"]:=fun _ _ _ _ _ _ us hl=>by obtain⟨_,_,rfl⟩:=us2 hl;rfl
noncomputable abbrev Zr8:Stmt:=top 47
theorem Zrx:Zs ["board", "pit", "pits", "rounds", "other", "taken", "place"] ["board", "pit"] (Ze Zr8):=⟨rfl,rfl,rfl,by decide +kernel,rfl,by decide +kernel,by decide +kernel⟩
theorem ZxA:Zt "take_back_at" Zr8 ["board", "pit"]:=fun _ _ _ _ _ _ us hl=>by obtain⟨_,_,rfl⟩:=us2 hl;rfl
noncomputable abbrev Ztu:Stmt:=top 99
theorem ZzF:Zs ["board", "deed"] ["board", "deed"] (Ze Ztu):=⟨rfl,rfl,rfl,by decide +kernel,rfl,by decide +kernel,by decide +kernel⟩
theorem ZzS:Zt "do_deed" Ztu ["board", "deed"]:=fun _ _ _ _ _ _ us hl=>by obtain⟨_,_,rfl⟩:=us2 hl;rfl
noncomputable abbrev Zud:Stmt:=top 97
theorem Zvq:Zs ["board", "plan", "now", "place", "deed"] ["board", "plan"] (Ze Zud):=⟨rfl,rfl,rfl,by decide +kernel,rfl,by decide +kernel,by decide +kernel⟩
theorem Z0m:Zt "walked" Zud ["board", "plan"]:=fun _ _ _ _ _ _ us hl=>by obtain⟨_,_,rfl⟩:=us2 hl;rfl
noncomputable abbrev Zrv:Stmt:=top 107
theorem Zwu:Zs ["way", "far"] ["way", "far"] (Ze Zrv):=⟨rfl,rfl,rfl,by decide +kernel,rfl,by decide +kernel,by decide +kernel⟩
theorem ZwG:Zt "_law_of_boards" Zrv ["way", "far"]:=fun _ _ _ _ _ _ us hl=>by obtain⟨_,_,rfl⟩:=us2 hl;rfl
noncomputable abbrev Zs8:Stmt:=top 93
theorem ZwN:Zs ["word"] ["word"] (Ze Zs8):=⟨rfl,rfl,rfl,by decide +kernel,rfl,by decide +kernel,by decide +kernel⟩
theorem Zzr:Zt "is_number" Zs8 ["word"]:=fun _ _ _ _ _ _ us hl=>by obtain⟨_,rfl⟩:=us1 hl;rfl
noncomputable abbrev Zsl:Stmt:=top 92
theorem ZtK:Zs ["text", "words", "board"] ["text"] (Ze Zsl):=⟨rfl,rfl,rfl,by decide +kernel,rfl,by decide +kernel,by decide +kernel⟩
theorem ZyO:Zt "read_board" Zsl ["text"]:=fun _ _ _ _ _ _ us hl=>by obtain⟨_,rfl⟩:=us1 hl;rfl
noncomputable abbrev ZrT:Stmt:=top 87
theorem ZxP:Zs ["board", "pit", "most"] ["board", "pit", "most"] (Ze ZrT):=⟨rfl,rfl,rfl,by decide +kernel,rfl,by decide +kernel,by decide +kernel⟩
theorem Zyj:Zt "check_round" ZrT ["board", "pit", "most"]:=fun _ _ _ _ _ _ us hl=>by obtain⟨_,_,_,rfl⟩:=us3 hl;rfl
noncomputable abbrev Zr9:Stmt:=top 88
theorem Zxg:Zs ["length", "most"] ["length", "most"] (Ze Zr9):=⟨rfl,rfl,rfl,by decide +kernel,rfl,by decide +kernel,by decide +kernel⟩
theorem ZxC:Zt "check_length" Zr9 ["length", "most"]:=fun _ _ _ _ _ _ us hl=>by obtain⟨_,_,rfl⟩:=us2 hl;rfl
noncomputable abbrev ZsS:Stmt:=top 86
theorem ZtM:Zs ["board", "pit", "most", "first", "standings", "standing"] ["board", "pit", "most"] (Ze ZsS):=⟨rfl,rfl,rfl,by decide +kernel,rfl,by decide +kernel,by decide +kernel⟩
theorem Zz8:Zt "round_of" ZsS ["board", "pit", "most"]:=fun _ _ _ _ _ _ us hl=>by obtain⟨_,_,_,rfl⟩:=us3 hl;rfl
noncomputable abbrev ZsV:Stmt:=top 100
theorem Zzz:Zs ["board", "pit"] ["board", "pit"] (Ze ZsV):=⟨rfl,rfl,rfl,by decide +kernel,rfl,by decide +kernel,by decide +kernel⟩
theorem ZzB:Zt "gathered" ZsV ["board", "pit"]:=fun _ _ _ _ _ _ us hl=>by obtain⟨_,_,rfl⟩:=us2 hl;rfl
noncomputable abbrev Zsp:Stmt:=top 36
theorem Zyz:Zs ["line"] ["line"] (Ze Zsp):=⟨rfl,rfl,rfl,by decide +kernel,rfl,by decide +kernel,by decide +kernel⟩
theorem ZyR:Zt "check_line" Zsp ["line"]:=fun _ _ _ _ _ _ us hl=>by obtain⟨_,rfl⟩:=us1 hl;rfl
noncomputable abbrev Zts:Stmt:=top 64
theorem ZzE:Zs ["line"] ["line"] (Ze Zts):=⟨rfl,rfl,rfl,by decide +kernel,rfl,by decide +kernel,by decide +kernel⟩
theorem ZzQ:Zt "marched" Zts ["line"]:=fun _ _ _ _ _ _ us hl=>by obtain⟨_,rfl⟩:=us1 hl;rfl
noncomputable abbrev Zr0:Stmt:=top 68
theorem Zt3:Zs ["seeds", "k"] ["seeds"] (Ze Zr0):=⟨rfl,rfl,rfl,by decide +kernel,rfl,by decide +kernel,by decide +kernel⟩
theorem Zxb:Zt "greatest_step" Zr0 ["seeds"]:=fun _ _ _ _ _ _ us hl=>by obtain⟨_,rfl⟩:=us1 hl;rfl
noncomputable abbrev ZrZ:Stmt:=top 67
theorem Zs3:Zs ["line", "k", "pits", "added"] ["line"] (Ze ZrZ):=⟨rfl,rfl,rfl,by decide +kernel,rfl,by decide +kernel,by decide +kernel⟩
theorem Zyn:Zt "added_seeds" ZrZ ["line"]:=fun _ _ _ _ _ _ us hl=>by obtain⟨_,rfl⟩:=us1 hl;rfl
noncomputable abbrev ZsR:Stmt:=top 69
theorem Zxf:Zs ["added", "k"] ["added"] (Ze ZsR):=⟨rfl,rfl,rfl,by decide +kernel,rfl,by decide +kernel,by decide +kernel⟩
theorem Zz7:Zt "row_with" ZsR ["added"]:=fun _ _ _ _ _ _ us hl=>by obtain⟨_,rfl⟩:=us1 hl;rfl
noncomputable abbrev ZrC:Stmt:=top 83
theorem Zvs:Zs ["row", "added"] ["row"] (Ze ZrC):=⟨rfl,rfl,rfl,by decide +kernel,rfl,by decide +kernel,by decide +kernel⟩
theorem ZxF:Zt "added_in_row" ZrC ["row"]:=fun _ _ _ _ _ _ us hl=>by obtain⟨_,rfl⟩:=us1 hl;rfl
noncomputable abbrev Zry:Stmt:=top 82
theorem ZrQ:Zs ["row", "added", "left", "number", "place", "more"] ["row"] (Ze Zry):=⟨rfl,rfl,rfl,by decide +kernel,rfl,by decide +kernel,by decide +kernel⟩
theorem Zxa:Zt "number_of_row" Zry ["row"]:=fun _ _ _ _ _ _ us hl=>by obtain⟨_,rfl⟩:=us1 hl;rfl
noncomputable abbrev Zsn:Stmt:=top 37
theorem Zyx:Zs ["yard"] ["yard"] (Ze Zsn):=⟨rfl,rfl,rfl,by decide +kernel,rfl,by decide +kernel,by decide +kernel⟩
theorem ZyP:Zt "check_yard" Zsn ["yard"]:=fun _ _ _ _ _ _ us hl=>by obtain⟨_,rfl⟩:=us1 hl;rfl
noncomputable abbrev ZrB:Stmt:=top 75
theorem Zxh:Zs ["yard", "due", "pit"] ["yard"] (Ze ZrB):=⟨rfl,rfl,rfl,by decide +kernel,rfl,by decide +kernel,by decide +kernel⟩
theorem ZxE:Zt "brought_home" ZrB ["yard"]:=fun _ _ _ _ _ _ us hl=>by obtain⟨_,rfl⟩:=us1 hl;rfl
noncomputable abbrev Zrl:Stmt:=J4 (top 62) 4
theorem ZwU:Zs ["self"] ["self"] (Ze Zrl):=⟨rfl,rfl,rfl,by decide +kernel,rfl,by decide +kernel,by decide +kernel⟩
theorem Zxc:∀(kV doc pm:Value) (an:Option Addr) (cdv ct:Value) (us:List Value),us.length=(["self"]:List Str).length->bindArgs (PySem.W.fnOf "undo" "RingBook.undo" (Zq Zrl) (Zo Zrl) (Ze Zrl) .none kV doc pm an cdv ct) ⟨us,[]⟩=pure ((["self"]:List Str).zip us):=fun _ _ _ _ _ _ us hl=>by obtain⟨_,rfl⟩:=us1 hl;rfl
noncomputable abbrev Zrd:Stmt:=J4 (top 62) 0
theorem ZvP:Zs ["self", "board"] ["self", "board"] (Ze Zrd):=⟨rfl,rfl,rfl,by decide +kernel,rfl,by decide +kernel,by decide +kernel⟩
theorem ZvR:∀(kV doc pm:Value) (an:Option Addr) (cdv ct:Value) (us:List Value),us.length=(["self", "board"]:List Str).length->bindArgs (PySem.W.fnOf "__init__" "RingBook.__init__" (Zq Zrd) (Zo Zrd) (Ze Zrd) .none kV doc pm an cdv ct) ⟨us,[]⟩=pure ((["self", "board"]:List Str).zip us):=fun _ _ _ _ _ _ us hl=>by obtain⟨_,_,rfl⟩:=us2 hl;rfl
noncomputable abbrev Zru:Stmt:=top 108
theorem Zwt:Zs ["way", "far"] ["way", "far"] (Ze Zru):=⟨rfl,rfl,rfl,by decide +kernel,rfl,by decide +kernel,by decide +kernel⟩
theorem ZwF:Zt "_law_of_others" Zru ["way", "far"]:=fun _ _ _ _ _ _ us hl=>by obtain⟨_,_,rfl⟩:=us2 hl;rfl
noncomputable abbrev Zsb:Stmt:=top 109
theorem Ztq:Zs ["way", "far", "caught", "e"] ["way", "far"] (Ze Zsb):=⟨rfl,rfl,rfl,by decide +kernel,rfl,by decide +kernel,by decide +kernel⟩
theorem Zyp:Zt "_law_caught" Zsb ["way", "far"]:=fun _ _ _ _ _ _ us hl=>by obtain⟨_,_,rfl⟩:=us2 hl;rfl
noncomputable abbrev Zsa:Stmt:=top 110
theorem ZsI:Zs ["caught", "some"] ["caught"] (Ze Zsa):=⟨rfl,rfl,rfl,by decide +kernel,rfl,by decide +kernel,by decide +kernel⟩
theorem Zyo:Zt "_law_takers" Zsa ["caught"]:=fun _ _ _ _ _ _ us hl=>by obtain⟨_,rfl⟩:=us1 hl;rfl
noncomputable abbrev Zsr:Stmt:=top 111
theorem Zwl:Zs ["far", "place"] ["far"] (Ze Zsr):=⟨rfl,rfl,rfl,by decide +kernel,rfl,by decide +kernel,by decide +kernel⟩
theorem ZyT:Zt "_law_place" Zsr ["far"]:=fun _ _ _ _ _ _ us hl=>by obtain⟨_,rfl⟩:=us1 hl;rfl
noncomputable abbrev Zsq:Stmt:=top 112
theorem Zst:Zs ["cell", "way", "far", "caught", "some"] ["cell"] (Ze Zsq):=⟨rfl,rfl,rfl,by decide +kernel,rfl,by decide +kernel,by decide +kernel⟩
theorem ZyS:Zt "_law_right" Zsq ["cell"]:=fun _ _ _ _ _ _ us hl=>by obtain⟨_,rfl⟩:=us1 hl;rfl
noncomputable abbrev Zzg:Stmt:=top 113
theorem Z0a:Zs ["script", "cell"] ["script"] (Ze Zzg):=⟨rfl,rfl,rfl,by decide +kernel,rfl,by decide +kernel,by decide +kernel⟩
theorem Z07:Zt "law" Zzg ["script"]:=fun _ _ _ _ _ _ us hl=>by obtain⟨_,rfl⟩:=us1 hl;rfl
noncomputable abbrev XN:List Str:=["SowError", "BadBoard", "BadPit", "BadPits", "BadCount", "NoSeeds", "BadPlan", "Unlike", "TooLong", "TooMany", "BadLine", "BadRow", "BadYard", "NoDeed", "BadText"]
noncomputable abbrev Zgv:List (Str×Str×Bool):=[("SowError", "SowError",true),("BadBoard", "SowError",true),("BadPit", "SowError",true),("BadPits", "SowError",true),("BadCount", "SowError",true),("NoSeeds", "SowError",true),("BadPlan", "SowError",true),("Unlike", "SowError",true),("TooLong", "SowError",true),("TooMany", "SowError",true),("BadLine", "SowError",true),("BadRow", "SowError",true),("BadYard", "SowError",true),("NoDeed", "SowError",true),("BadText", "SowError",true)]
noncomputable abbrev Zgx:List (Str×Str×Bool):=[("SowError", "BadBoard",false),("BadBoard", "BadBoard",true),("BadPit", "BadBoard",false),("BadPits", "BadBoard",false),("BadCount", "BadBoard",false),("NoSeeds", "BadBoard",false),("BadPlan", "BadBoard",false),("Unlike", "BadBoard",false),("TooLong", "BadBoard",false),("TooMany", "BadBoard",false),("BadLine", "BadBoard",false),("BadRow", "BadBoard",false),("BadYard", "BadBoard",false),("NoDeed", "BadBoard",false),("BadText", "BadBoard",false)]
noncomputable abbrev Zkj:List (Str×Str×Bool):=[("SowError", "BadPit",false),("BadBoard", "BadPit",false),("BadPit", "BadPit",true),("BadPits", "BadPit",false),("BadCount", "BadPit",false),("NoSeeds", "BadPit",false),("BadPlan", "BadPit",false),("Unlike", "BadPit",false),("TooLong", "BadPit",false),("TooMany", "BadPit",false),("BadLine", "BadPit",false),("BadRow", "BadPit",false),("BadYard", "BadPit",false),("NoDeed", "BadPit",false),("BadText", "BadPit",false)]
noncomputable abbrev Zio:List (Str×Str×Bool):=[("SowError", "BadPits",false),("BadBoard", "BadPits",false),("BadPit", "BadPits",false),("BadPits", "BadPits",true),("BadCount", "BadPits",false),("NoSeeds", "BadPits",false),("BadPlan", "BadPits",false),("Unlike", "BadPits",false),("TooLong", "BadPits",false),("TooMany", "BadPits",false),("BadLine", "BadPits",false),("BadRow", "BadPits",false),("BadYard", "BadPits",false),("NoDeed", "BadPits",false),("BadText", "BadPits",false)]
noncomputable abbrev Zgw:List (Str×Str×Bool):=[("SowError", "BadCount",false),("BadBoard", "BadCount",false),("BadPit", "BadCount",false),("BadPits", "BadCount",false),("BadCount", "BadCount",true),("NoSeeds", "BadCount",false),("BadPlan", "BadCount",false),("Unlike", "BadCount",false),("TooLong", "BadCount",false),("TooMany", "BadCount",false),("BadLine", "BadCount",false),("BadRow", "BadCount",false),("BadYard", "BadCount",false),("NoDeed", "BadCount",false),("BadText", "BadCount",false)]
noncomputable abbrev Zik:List (Str×Str×Bool):=[("SowError", "NoSeeds",false),("BadBoard", "NoSeeds",false),("BadPit", "NoSeeds",false),("BadPits", "NoSeeds",false),("BadCount", "NoSeeds",false),("NoSeeds", "NoSeeds",true),("BadPlan", "NoSeeds",false),("Unlike", "NoSeeds",false),("TooLong", "NoSeeds",false),("TooMany", "NoSeeds",false),("BadLine", "NoSeeds",false),("BadRow", "NoSeeds",false),("BadYard", "NoSeeds",false),("NoDeed", "NoSeeds",false),("BadText", "NoSeeds",false)]
noncomputable abbrev Zin:List (Str×Str×Bool):=[("SowError", "BadPlan",false),("BadBoard", "BadPlan",false),("BadPit", "BadPlan",false),("BadPits", "BadPlan",false),("BadCount", "BadPlan",false),("NoSeeds", "BadPlan",false),("BadPlan", "BadPlan",true),("Unlike", "BadPlan",false),("TooLong", "BadPlan",false),("TooMany", "BadPlan",false),("BadLine", "BadPlan",false),("BadRow", "BadPlan",false),("BadYard", "BadPlan",false),("NoDeed", "BadPlan",false),("BadText", "BadPlan",false)]
noncomputable abbrev Zkg:List (Str×Str×Bool):=[("SowError", "Unlike",false),("BadBoard", "Unlike",false),("BadPit", "Unlike",false),("BadPits", "Unlike",false),("BadCount", "Unlike",false),("NoSeeds", "Unlike",false),("BadPlan", "Unlike",false),("Unlike", "Unlike",true),("TooLong", "Unlike",false),("TooMany", "Unlike",false),("BadLine", "Unlike",false),("BadRow", "Unlike",false),("BadYard", "Unlike",false),("NoDeed", "Unlike",false),("BadText", "Unlike",false)]
noncomputable abbrev Zij:List (Str×Str×Bool):=[("SowError", "TooLong",false),("BadBoard", "TooLong",false),("BadPit", "TooLong",false),("BadPits", "TooLong",false),("BadCount", "TooLong",false),("NoSeeds", "TooLong",false),("BadPlan", "TooLong",false),("Unlike", "TooLong",false),("TooLong", "TooLong",true),("TooMany", "TooLong",false),("BadLine", "TooLong",false),("BadRow", "TooLong",false),("BadYard", "TooLong",false),("NoDeed", "TooLong",false),("BadText", "TooLong",false)]
noncomputable abbrev Zii:List (Str×Str×Bool):=[("SowError", "TooMany",false),("BadBoard", "TooMany",false),("BadPit", "TooMany",false),("BadPits", "TooMany",false),("BadCount", "TooMany",false),("NoSeeds", "TooMany",false),("BadPlan", "TooMany",false),("Unlike", "TooMany",false),("TooLong", "TooMany",false),("TooMany", "TooMany",true),("BadLine", "TooMany",false),("BadRow", "TooMany",false),("BadYard", "TooMany",false),("NoDeed", "TooMany",false),("BadText", "TooMany",false)]
noncomputable abbrev Zip:List (Str×Str×Bool):=[("SowError", "BadLine",false),("BadBoard", "BadLine",false),("BadPit", "BadLine",false),("BadPits", "BadLine",false),("BadCount", "BadLine",false),("NoSeeds", "BadLine",false),("BadPlan", "BadLine",false),("Unlike", "BadLine",false),("TooLong", "BadLine",false),("TooMany", "BadLine",false),("BadLine", "BadLine",true),("BadRow", "BadLine",false),("BadYard", "BadLine",false),("NoDeed", "BadLine",false),("BadText", "BadLine",false)]
noncomputable abbrev Zki:List (Str×Str×Bool):=[("SowError", "BadRow",false),("BadBoard", "BadRow",false),("BadPit", "BadRow",false),("BadPits", "BadRow",false),("BadCount", "BadRow",false),("NoSeeds", "BadRow",false),("BadPlan", "BadRow",false),("Unlike", "BadRow",false),("TooLong", "BadRow",false),("TooMany", "BadRow",false),("BadLine", "BadRow",false),("BadRow", "BadRow",true),("BadYard", "BadRow",false),("NoDeed", "BadRow",false),("BadText", "BadRow",false)]
noncomputable abbrev Zil:List (Str×Str×Bool):=[("SowError", "BadYard",false),("BadBoard", "BadYard",false),("BadPit", "BadYard",false),("BadPits", "BadYard",false),("BadCount", "BadYard",false),("NoSeeds", "BadYard",false),("BadPlan", "BadYard",false),("Unlike", "BadYard",false),("TooLong", "BadYard",false),("TooMany", "BadYard",false),("BadLine", "BadYard",false),("BadRow", "BadYard",false),("BadYard", "BadYard",true),("NoDeed", "BadYard",false),("BadText", "BadYard",false)]
noncomputable abbrev Zkh:List (Str×Str×Bool):=[("SowError", "NoDeed",false),("BadBoard", "NoDeed",false),("BadPit", "NoDeed",false),("BadPits", "NoDeed",false),("BadCount", "NoDeed",false),("NoSeeds", "NoDeed",false),("BadPlan", "NoDeed",false),("Unlike", "NoDeed",false),("TooLong", "NoDeed",false),("TooMany", "NoDeed",false),("BadLine", "NoDeed",false),("BadRow", "NoDeed",false),("BadYard", "NoDeed",false),("NoDeed", "NoDeed",true),("BadText", "NoDeed",false)]
noncomputable abbrev Zim:List (Str×Str×Bool):=[("SowError", "BadText",false),("BadBoard", "BadText",false),("BadPit", "BadText",false),("BadPits", "BadText",false),("BadCount", "BadText",false),("NoSeeds", "BadText",false),("BadPlan", "BadText",false),("Unlike", "BadText",false),("TooLong", "BadText",false),("TooMany", "BadText",false),("BadLine", "BadText",false),("BadRow", "BadText",false),("BadYard", "BadText",false),("NoDeed", "BadText",false),("BadText", "BadText",true)]
noncomputable abbrev XS:List (Str×Str×Bool):=Zgv++Zgx++Zkj++Zio++Zgw++Zik++Zin++Zkg++Zij++Zii++Zip++Zki++Zil++Zkh++Zim
noncomputable abbrev XR:List Str:=["SowError", "BadBoard", "BadPit", "BadPits", "BadCount", "NoSeeds", "Unlike", "TooLong", "TooMany", "BadLine", "BadRow", "BadYard", "NoDeed", "BadText"]
noncomputable abbrev XA:List Str:=["BadPlan"]
noncomputable abbrev V5:Stmt:=J4 (top 8) 0
theorem ZfO:Zs ["self", "words", "at"] ["self", "words", "at"] (Ze V5):=⟨rfl,rfl,rfl,by decide +kernel,rfl,by decide +kernel,by decide +kernel⟩
noncomputable abbrev ZH:List (Str×Bool):=[("SowError",false),("BadBoard",true),("BadPit",false),("BadPits",false),("BadCount",false),("NoSeeds",false),("BadPlan",false),("Unlike",false),("TooLong",false),("TooMany",false),("BadLine",false),("BadRow",false),("BadYard",false),("NoDeed",false),("BadText",false)]
noncomputable abbrev Jg:List (Str×Bool):=[("SowError",false),("BadBoard",false),("BadPit",true),("BadPits",false),("BadCount",false),("NoSeeds",false),("BadPlan",false),("Unlike",false),("TooLong",false),("TooMany",false),("BadLine",false),("BadRow",false),("BadYard",false),("NoDeed",false),("BadText",false)]
noncomputable abbrev ZU:List (Str×Bool):=[("SowError",false),("BadBoard",false),("BadPit",false),("BadPits",true),("BadCount",false),("NoSeeds",false),("BadPlan",false),("Unlike",false),("TooLong",false),("TooMany",false),("BadLine",false),("BadRow",false),("BadYard",false),("NoDeed",false),("BadText",false)]
noncomputable abbrev ZG:List (Str×Bool):=[("SowError",false),("BadBoard",false),("BadPit",false),("BadPits",false),("BadCount",true),("NoSeeds",false),("BadPlan",false),("Unlike",false),("TooLong",false),("TooMany",false),("BadLine",false),("BadRow",false),("BadYard",false),("NoDeed",false),("BadText",false)]
noncomputable abbrev ZR:List (Str×Bool):=[("SowError",false),("BadBoard",false),("BadPit",false),("BadPits",false),("BadCount",false),("NoSeeds",true),("BadPlan",false),("Unlike",false),("TooLong",false),("TooMany",false),("BadLine",false),("BadRow",false),("BadYard",false),("NoDeed",false),("BadText",false)]
noncomputable abbrev ZI:List (Str×Bool):=[("SowError",false),("BadBoard",false),("BadPit",false),("BadPits",false),("BadCount",false),("NoSeeds",false),("BadPlan",true),("Unlike",false),("TooLong",false),("TooMany",false),("BadLine",false),("BadRow",false),("BadYard",false),("NoDeed",false),("BadText",false)]
noncomputable abbrev Jd:List (Str×Bool):=[("SowError",false),("BadBoard",false),("BadPit",false),("BadPits",false),("BadCount",false),("NoSeeds",false),("BadPlan",false),("Unlike",true),("TooLong",false),("TooMany",false),("BadLine",false),("BadRow",false),("BadYard",false),("NoDeed",false),("BadText",false)]
noncomputable abbrev ZQ:List (Str×Bool):=[("SowError",false),("BadBoard",false),("BadPit",false),("BadPits",false),("BadCount",false),("NoSeeds",false),("BadPlan",false),("Unlike",false),("TooLong",true),("TooMany",false),("BadLine",false),("BadRow",false),("BadYard",false),("NoDeed",false),("BadText",false)]
noncomputable abbrev ZP:List (Str×Bool):=[("SowError",false),("BadBoard",false),("BadPit",false),("BadPits",false),("BadCount",false),("NoSeeds",false),("BadPlan",false),("Unlike",false),("TooLong",false),("TooMany",true),("BadLine",false),("BadRow",false),("BadYard",false),("NoDeed",false),("BadText",false)]
noncomputable abbrev ZV:List (Str×Bool):=[("SowError",false),("BadBoard",false),("BadPit",false),("BadPits",false),("BadCount",false),("NoSeeds",false),("BadPlan",false),("Unlike",false),("TooLong",false),("TooMany",false),("BadLine",true),("BadRow",false),("BadYard",false),("NoDeed",false),("BadText",false)]
noncomputable abbrev Jf:List (Str×Bool):=[("SowError",false),("BadBoard",false),("BadPit",false),("BadPits",false),("BadCount",false),("NoSeeds",false),("BadPlan",false),("Unlike",false),("TooLong",false),("TooMany",false),("BadLine",false),("BadRow",true),("BadYard",false),("NoDeed",false),("BadText",false)]
noncomputable abbrev ZS:List (Str×Bool):=[("SowError",false),("BadBoard",false),("BadPit",false),("BadPits",false),("BadCount",false),("NoSeeds",false),("BadPlan",false),("Unlike",false),("TooLong",false),("TooMany",false),("BadLine",false),("BadRow",false),("BadYard",true),("NoDeed",false),("BadText",false)]
noncomputable abbrev Je:List (Str×Bool):=[("SowError",false),("BadBoard",false),("BadPit",false),("BadPits",false),("BadCount",false),("NoSeeds",false),("BadPlan",false),("Unlike",false),("TooLong",false),("TooMany",false),("BadLine",false),("BadRow",false),("BadYard",false),("NoDeed",true),("BadText",false)]
noncomputable abbrev ZT:List (Str×Bool):=[("SowError",false),("BadBoard",false),("BadPit",false),("BadPits",false),("BadCount",false),("NoSeeds",false),("BadPlan",false),("Unlike",false),("TooLong",false),("TooMany",false),("BadLine",false),("BadRow",false),("BadYard",false),("NoDeed",false),("BadText",true)]
noncomputable abbrev ZA:List (Str×Bool):=[("SowError",true),("BadBoard",true),("BadPit",true),("BadPits",true),("BadCount",true),("NoSeeds",true),("BadPlan",true),("Unlike",true),("TooLong",true),("TooMany",true),("BadLine",true),("BadRow",true),("BadYard",true),("NoDeed",true),("BadText",true)]
noncomputable abbrev JS:Stmt:=J4 (top 2) 0
theorem ZeG:Zs ["self"] ["self"] (Ze JS):=⟨rfl,rfl,rfl,by decide +kernel,rfl,by decide +kernel,by decide +kernel⟩
noncomputable abbrev JU:Stmt:=J4 (top 3) 0
theorem ZeI:Zs ["self"] ["self"] (Ze JU):=⟨rfl,rfl,rfl,by decide +kernel,rfl,by decide +kernel,by decide +kernel⟩
noncomputable abbrev QJ:Stmt:=J4 (top 4) 0
theorem ZhB:Zs ["self"] ["self"] (Ze QJ):=⟨rfl,rfl,rfl,by decide +kernel,rfl,by decide +kernel,by decide +kernel⟩
noncomputable abbrev V3:Stmt:=J4 (top 5) 0
theorem ZfM:Zs ["self"] ["self"] (Ze V3):=⟨rfl,rfl,rfl,by decide +kernel,rfl,by decide +kernel,by decide +kernel⟩
noncomputable abbrev JT:Stmt:=J4 (top 6) 0
theorem ZeH:Zs ["self"] ["self"] (Ze JT):=⟨rfl,rfl,rfl,by decide +kernel,rfl,by decide +kernel,by decide +kernel⟩
noncomputable abbrev Vz:Stmt:=J4 (top 7) 0
theorem ZfI:Zs ["self"] ["self"] (Ze Vz):=⟨rfl,rfl,rfl,by decide +kernel,rfl,by decide +kernel,by decide +kernel⟩
noncomputable abbrev V2:Stmt:=J4 (top 8) 1
theorem ZfL:Zs ["self"] ["self"] (Ze V2):=⟨rfl,rfl,rfl,by decide +kernel,rfl,by decide +kernel,by decide +kernel⟩
noncomputable abbrev QG:Stmt:=J4 (top 9) 0
theorem Zh8:Zs ["self"] ["self"] (Ze QG):=⟨rfl,rfl,rfl,by decide +kernel,rfl,by decide +kernel,by decide +kernel⟩
noncomputable abbrev Vy:Stmt:=J4 (top 10) 0
theorem ZfH:Zs ["self"] ["self"] (Ze Vy):=⟨rfl,rfl,rfl,by decide +kernel,rfl,by decide +kernel,by decide +kernel⟩
noncomputable abbrev Vx:Stmt:=J4 (top 11) 0
theorem ZfG:Zs ["self"] ["self"] (Ze Vx):=⟨rfl,rfl,rfl,by decide +kernel,rfl,by decide +kernel,by decide +kernel⟩
noncomputable abbrev V4:Stmt:=J4 (top 12) 0
theorem ZfN:Zs ["self"] ["self"] (Ze V4):=⟨rfl,rfl,rfl,by decide +kernel,rfl,by decide +kernel,by decide +kernel⟩
noncomputable abbrev QI:Stmt:=J4 (top 13) 0
theorem ZhA:Zs ["self"] ["self"] (Ze QI):=⟨rfl,rfl,rfl,by decide +kernel,rfl,by decide +kernel,by decide +kernel⟩
noncomputable abbrev V0:Stmt:=J4 (top 14) 0
theorem ZfJ:Zs ["self"] ["self"] (Ze V0):=⟨rfl,rfl,rfl,by decide +kernel,rfl,by decide +kernel,by decide +kernel⟩
noncomputable abbrev QH:Stmt:=J4 (top 15) 0
theorem Zh9:Zs ["self"] ["self"] (Ze QH):=⟨rfl,rfl,rfl,by decide +kernel,rfl,by decide +kernel,by decide +kernel⟩
noncomputable abbrev V1:Stmt:=J4 (top 16) 0
theorem ZfK:Zs ["self"] ["self"] (Ze V1):=⟨rfl,rfl,rfl,by decide +kernel,rfl,by decide +kernel,by decide +kernel⟩
structure Txt (K:PySem.W.Frag) (mg:Str->Option Value):Prop where
 ZzN:Dfn K mg "is_whole" ZsT
 ZtW:Dfn K mg "is_whole_from" Zrz
 Zse:Dfn K mg "is_list_from_nought" Zre
 ZwQ:Dfn K mg "most_seeds" Zsm
 ZzO:Dfn K mg "is_board" ZsU
 Zsx:Dfn K mg "check_board" ZrV
 ZyI:Dfn K mg "check_alike" ZrW
 Zu2:Dfn K mg "check_few_seeds" Zrn
 Zx4:Dfn K mg "sow_pit" Ztr
 Z0t:Dfn K mg "way_to" Zuc
 ZyF:Dfn K mg "is_pit" Zue
 Zx7:Dfn K mg "check_pit" Zs9
 Zvp:Dfn K mg "check_standing" Zrt
 Z06:Dfn K mg "sown" ZwO
 Zz5:Dfn K mg "is_rising" Zs7
 Zyf:Dfn K mg "check_barred" ZrA
 Zzl:Dfn K mg "check_play" Zso
 Z0k:Dfn K mg "come_to" Ztv
 Z0i:Dfn K mg "ends_of" Ztt
 Zwn:Dfn K mg "check_count" ZrU
 ZyG:Dfn K mg "check_sizes" ZrS
 ZyK:Dfn K mg "board_count" ZrY
 ZyJ:Dfn K mg "can_be_done" ZrX
 Zyd:Dfn K mg "take_back_at" Zr8
 Z0j:Dfn K mg "do_deed" Ztu
 Z0u:Dfn K mg "walked" Zud
 ZwZ:Dfn K mg "_law_of_boards" Zrv
 Zz6:Dfn K mg "is_number" Zs8
 Zzj:Dfn K mg "read_board" Zsl
 ZyH:Dfn K mg "check_round" ZrT
 Zye:Dfn K mg "check_length" Zr9
 ZzM:Dfn K mg "round_of" ZsS
 ZzP:Dfn K mg "gathered" ZsV
 Zzm:Dfn K mg "check_line" Zsp
 Z0h:Dfn K mg "marched" Zts
 Zx6:Dfn K mg "greatest_step" Zr0
 ZyL:Dfn K mg "added_seeds" ZrZ
 ZzL:Dfn K mg "row_with" ZsR
 Zyh:Dfn K mg "added_in_row" ZrC
 Zx5:Dfn K mg "number_of_row" Zry
 Zzk:Dfn K mg "check_yard" Zsn
 Zyg:Dfn K mg "brought_home" ZrB
 ZwY:Dfn K mg "_law_of_others" Zru
 ZyN:Dfn K mg "_law_caught" Zsb
 ZyM:Dfn K mg "_law_takers" Zsa
 Zzo:Dfn K mg "_law_place" Zsr
 Zzn:Dfn K mg "_law_right" Zsq
 Z08:Dfn K mg "law" Zzg
 c_FEWEST_PITS:∃t,mg "FEWEST_PITS"=some (.int 2 t)
 c_FIGURES:∃t,mg "FIGURES"=some (.str "0123456789" t)
 c_LONGEST:∃t,mg "LONGEST"=some (.int 20000 t)
 c_MOST_GATHERED:∃t,mg "MOST_GATHERED"=some (.int 60 t)
 c_MOST_LINE_PITS:∃t,mg "MOST_LINE_PITS"=some (.int 100 t)
 c_MOST_LINE_SEEDS:∃t,mg "MOST_LINE_SEEDS"=some (.int 100 t)
 c_MOST_PITS:∃t,mg "MOST_PITS"=some (.int 24 t)
 c_MOST_ROW_SEEDS:∃t,mg "MOST_ROW_SEEDS"=some (.int 2000 t)
 c_MOST_YARD_PITS:∃t,mg "MOST_YARD_PITS"=some (.int 200 t)
 c_MOST_YARD_SEEDS:∃t,mg "MOST_YARD_SEEDS"=some (.int 10000 t)
 z_ValueError:mg "ValueError"=none
 z_all:mg "all"=none
 z_bool:mg "bool"=none
 z_enumerate:mg "enumerate"=none
 z_int:mg "int"=none
 z_isinstance:mg "isinstance"=none
 z_len:mg "len"=none
 z_list:mg "list"=none
 z_min:mg "min"=none
 z_range:mg "range"=none
 z_str:mg "str"=none
 z_sum:mg "sum"=none
 z_tuple:mg "tuple"=none
 x_tab:Zkn K XN XS=true
 x_exc:Zmu K XR=true
 x_at:(XA.all (ZlA K))=true
 x_mg:∀n C,ZbC K n C->mg n=some (.ref C)
 m_SowError:Ze5 K "SowError" "called" "SowError.called" JS
 m_BadBoard:Ze5 K "BadBoard" "called" "BadBoard.called" JU
 m_BadPit:Ze5 K "BadPit" "called" "BadPit.called" QJ
 m_BadPits:Ze5 K "BadPits" "called" "BadPits.called" V3
 m_BadCount:Ze5 K "BadCount" "called" "BadCount.called" JT
 m_NoSeeds:Ze5 K "NoSeeds" "called" "NoSeeds.called" Vz
 m_BadPlan:Ze5 K "BadPlan" "called" "BadPlan.called" V2
 m_Unlike:Ze5 K "Unlike" "called" "Unlike.called" QG
 m_TooLong:Ze5 K "TooLong" "called" "TooLong.called" Vy
 m_TooMany:Ze5 K "TooMany" "called" "TooMany.called" Vx
 m_BadLine:Ze5 K "BadLine" "called" "BadLine.called" V4
 m_BadRow:Ze5 K "BadRow" "called" "BadRow.called" QI
 m_BadYard:Ze5 K "BadYard" "called" "BadYard.called" V0
 m_NoDeed:Ze5 K "NoDeed" "called" "NoDeed.called" QH
 m_BadText:Ze5 K "BadText" "called" "BadText.called" V1
 i_BadPlan:ZqD K "BadPlan" "SowError" "BadPlan.__init__" V5
 Zx8:Ze5 K "RingBook" "undo" "RingBook.undo" Zrl
 Zwd:Ze5 K "RingBook" "__init__" "RingBook.__init__" Zrd
 o_RingBook:Zdz K "RingBook" JX=true
section
variable {P:Program}{w:World}{K:W.Frag}{mg:Str->Option Value}{base:Heap}
theorem ZfX (T:Txt K mg):MOk P w K mg base 1 "called" "SowError":=by
 obtain⟨C,f,fd,h1,h2,h3,F⟩:=T.m_SowError
 obtain⟨C2,c1,_,c2,_⟩:=Ji T.x_tab (n := "SowError") (by decide)
 obtain rfl:=c1.inj h1
 refine⟨C2,f,fd,h1,c2,h2,h3,F.kp,F.binds (fun _ _ _ _ _ _ us hl=>match us,hl with | [_],_=>rfl), ?_⟩
 exact F.okP ZeG rfl rfl (fun cdv A outer s H E hr=>⟨_,_,⟨[],[],[],.P⟩,rfl,Zj (Zz Z6),ZC Z5,fun xs=>.inr rfl⟩)
theorem ZfZ (T:Txt K mg):MOk P w K mg base 1 "called" "BadBoard":=by
 obtain⟨C,f,fd,h1,h2,h3,F⟩:=T.m_BadBoard
 obtain⟨C2,c1,_,c2,_⟩:=Ji T.x_tab (n := "BadBoard") (by decide)
 obtain rfl:=c1.inj h1
 refine⟨C2,f,fd,h1,c2,h2,h3,F.kp,F.binds (fun _ _ _ _ _ _ us hl=>match us,hl with | [_],_=>rfl), ?_⟩
 exact F.okP ZeI rfl rfl (fun cdv A outer s H E hr=>⟨_,_,⟨[],[],[],.P⟩,rfl,Zj (Zz Z6),ZC Z5,fun xs=>.inr rfl⟩)
theorem Zjx (T:Txt K mg):MOk P w K mg base 1 "called" "BadPit":=by
 obtain⟨C,f,fd,h1,h2,h3,F⟩:=T.m_BadPit
 obtain⟨C2,c1,_,c2,_⟩:=Ji T.x_tab (n := "BadPit") (by decide)
 obtain rfl:=c1.inj h1
 refine⟨C2,f,fd,h1,c2,h2,h3,F.kp,F.binds (fun _ _ _ _ _ _ us hl=>match us,hl with | [_],_=>rfl), ?_⟩
 exact F.okP ZhB rfl rfl (fun cdv A outer s H E hr=>⟨_,_,⟨[],[],[],.P⟩,rfl,Zj (Zz Z6),ZC Z5,fun xs=>.inr rfl⟩)
theorem ZhS (T:Txt K mg):MOk P w K mg base 1 "called" "BadPits":=by
 obtain⟨C,f,fd,h1,h2,h3,F⟩:=T.m_BadPits
 obtain⟨C2,c1,_,c2,_⟩:=Ji T.x_tab (n := "BadPits") (by decide)
 obtain rfl:=c1.inj h1
 refine⟨C2,f,fd,h1,c2,h2,h3,F.kp,F.binds (fun _ _ _ _ _ _ us hl=>match us,hl with | [_],_=>rfl), ?_⟩
 exact F.okP ZfM rfl rfl (fun cdv A outer s H E hr=>⟨_,_,⟨[],[],[],.P⟩,rfl,Zj (Zz Z6),ZC Z5,fun xs=>.inr rfl⟩)
theorem ZfY (T:Txt K mg):MOk P w K mg base 1 "called" "BadCount":=by
 obtain⟨C,f,fd,h1,h2,h3,F⟩:=T.m_BadCount
 obtain⟨C2,c1,_,c2,_⟩:=Ji T.x_tab (n := "BadCount") (by decide)
 obtain rfl:=c1.inj h1
 refine⟨C2,f,fd,h1,c2,h2,h3,F.kp,F.binds (fun _ _ _ _ _ _ us hl=>match us,hl with | [_],_=>rfl), ?_⟩
 exact F.okP ZeH rfl rfl (fun cdv A outer s H E hr=>⟨_,_,⟨[],[],[],.P⟩,rfl,Zj (Zz Z6),ZC Z5,fun xs=>.inr rfl⟩)
theorem ZhO (T:Txt K mg):MOk P w K mg base 1 "called" "NoSeeds":=by
 obtain⟨C,f,fd,h1,h2,h3,F⟩:=T.m_NoSeeds
 obtain⟨C2,c1,_,c2,_⟩:=Ji T.x_tab (n := "NoSeeds") (by decide)
 obtain rfl:=c1.inj h1
 refine⟨C2,f,fd,h1,c2,h2,h3,F.kp,F.binds (fun _ _ _ _ _ _ us hl=>match us,hl with | [_],_=>rfl), ?_⟩
 exact F.okP ZfI rfl rfl (fun cdv A outer s H E hr=>⟨_,_,⟨[],[],[],.P⟩,rfl,Zj (Zz Z6),ZC Z5,fun xs=>.inr rfl⟩)
theorem ZhR (T:Txt K mg):MOk P w K mg base 1 "called" "BadPlan":=by
 obtain⟨C,f,fd,h1,h2,h3,F⟩:=T.m_BadPlan
 obtain⟨C2,c1,_,c2,_⟩:=Ji T.x_tab (n := "BadPlan") (by decide)
 obtain rfl:=c1.inj h1
 refine⟨C2,f,fd,h1,c2,h2,h3,F.kp,F.binds (fun _ _ _ _ _ _ us hl=>match us,hl with | [_],_=>rfl), ?_⟩
 exact F.okP ZfL rfl rfl (fun cdv A outer s H E hr=>⟨_,_,⟨[],[],[],.P⟩,rfl,Zj (Zz Z6),ZC Z5,fun xs=>.inr rfl⟩)
theorem Zju (T:Txt K mg):MOk P w K mg base 1 "called" "Unlike":=by
 obtain⟨C,f,fd,h1,h2,h3,F⟩:=T.m_Unlike
 obtain⟨C2,c1,_,c2,_⟩:=Ji T.x_tab (n := "Unlike") (by decide)
 obtain rfl:=c1.inj h1
 refine⟨C2,f,fd,h1,c2,h2,h3,F.kp,F.binds (fun _ _ _ _ _ _ us hl=>match us,hl with | [_],_=>rfl), ?_⟩
 exact F.okP Zh8 rfl rfl (fun cdv A outer s H E hr=>⟨_,_,⟨[],[],[],.P⟩,rfl,Zj (Zz Z6),ZC Z5,fun xs=>.inr rfl⟩)
theorem ZhN (T:Txt K mg):MOk P w K mg base 1 "called" "TooLong":=by
 obtain⟨C,f,fd,h1,h2,h3,F⟩:=T.m_TooLong
 obtain⟨C2,c1,_,c2,_⟩:=Ji T.x_tab (n := "TooLong") (by decide)
 obtain rfl:=c1.inj h1
 refine⟨C2,f,fd,h1,c2,h2,h3,F.kp,F.binds (fun _ _ _ _ _ _ us hl=>match us,hl with | [_],_=>rfl), ?_⟩
 exact F.okP ZfH rfl rfl (fun cdv A outer s H E hr=>⟨_,_,⟨[],[],[],.P⟩,rfl,Zj (Zz Z6),ZC Z5,fun xs=>.inr rfl⟩)
theorem ZhM (T:Txt K mg):MOk P w K mg base 1 "called" "TooMany":=by
 obtain⟨C,f,fd,h1,h2,h3,F⟩:=T.m_TooMany
 obtain⟨C2,c1,_,c2,_⟩:=Ji T.x_tab (n := "TooMany") (by decide)
 obtain rfl:=c1.inj h1
 refine⟨C2,f,fd,h1,c2,h2,h3,F.kp,F.binds (fun _ _ _ _ _ _ us hl=>match us,hl with | [_],_=>rfl), ?_⟩
 exact F.okP ZfG rfl rfl (fun cdv A outer s H E hr=>⟨_,_,⟨[],[],[],.P⟩,rfl,Zj (Zz Z6),ZC Z5,fun xs=>.inr rfl⟩)
theorem ZhT (T:Txt K mg):MOk P w K mg base 1 "called" "BadLine":=by
 obtain⟨C,f,fd,h1,h2,h3,F⟩:=T.m_BadLine
 obtain⟨C2,c1,_,c2,_⟩:=Ji T.x_tab (n := "BadLine") (by decide)
 obtain rfl:=c1.inj h1
 refine⟨C2,f,fd,h1,c2,h2,h3,F.kp,F.binds (fun _ _ _ _ _ _ us hl=>match us,hl with | [_],_=>rfl), ?_⟩
 exact F.okP ZfN rfl rfl (fun cdv A outer s H E hr=>⟨_,_,⟨[],[],[],.P⟩,rfl,Zj (Zz Z6),ZC Z5,fun xs=>.inr rfl⟩)
theorem Zjw (T:Txt K mg):MOk P w K mg base 1 "called" "BadRow":=by
 obtain⟨C,f,fd,h1,h2,h3,F⟩:=T.m_BadRow
 obtain⟨C2,c1,_,c2,_⟩:=Ji T.x_tab (n := "BadRow") (by decide)
 obtain rfl:=c1.inj h1
 refine⟨C2,f,fd,h1,c2,h2,h3,F.kp,F.binds (fun _ _ _ _ _ _ us hl=>match us,hl with | [_],_=>rfl), ?_⟩
 exact F.okP ZhA rfl rfl (fun cdv A outer s H E hr=>⟨_,_,⟨[],[],[],.P⟩,rfl,Zj (Zz Z6),ZC Z5,fun xs=>.inr rfl⟩)
theorem ZhP (T:Txt K mg):MOk P w K mg base 1 "called" "BadYard":=by
 obtain⟨C,f,fd,h1,h2,h3,F⟩:=T.m_BadYard
 obtain⟨C2,c1,_,c2,_⟩:=Ji T.x_tab (n := "BadYard") (by decide)
 obtain rfl:=c1.inj h1
 refine⟨C2,f,fd,h1,c2,h2,h3,F.kp,F.binds (fun _ _ _ _ _ _ us hl=>match us,hl with | [_],_=>rfl), ?_⟩
 exact F.okP ZfJ rfl rfl (fun cdv A outer s H E hr=>⟨_,_,⟨[],[],[],.P⟩,rfl,Zj (Zz Z6),ZC Z5,fun xs=>.inr rfl⟩)
theorem Zjv (T:Txt K mg):MOk P w K mg base 1 "called" "NoDeed":=by
 obtain⟨C,f,fd,h1,h2,h3,F⟩:=T.m_NoDeed
 obtain⟨C2,c1,_,c2,_⟩:=Ji T.x_tab (n := "NoDeed") (by decide)
 obtain rfl:=c1.inj h1
 refine⟨C2,f,fd,h1,c2,h2,h3,F.kp,F.binds (fun _ _ _ _ _ _ us hl=>match us,hl with | [_],_=>rfl), ?_⟩
 exact F.okP Zh9 rfl rfl (fun cdv A outer s H E hr=>⟨_,_,⟨[],[],[],.P⟩,rfl,Zj (Zz Z6),ZC Z5,fun xs=>.inr rfl⟩)
theorem ZhQ (T:Txt K mg):MOk P w K mg base 1 "called" "BadText":=by
 obtain⟨C,f,fd,h1,h2,h3,F⟩:=T.m_BadText
 obtain⟨C2,c1,_,c2,_⟩:=Ji T.x_tab (n := "BadText") (by decide)
 obtain rfl:=c1.inj h1
 refine⟨C2,f,fd,h1,c2,h2,h3,F.kp,F.binds (fun _ _ _ _ _ _ us hl=>match us,hl with | [_],_=>rfl), ?_⟩
 exact F.okP ZfK rfl rfl (fun cdv A outer s H E hr=>⟨_,_,⟨[],[],[],.P⟩,rfl,Zj (Zz Z6),ZC Z5,fun xs=>.inr rfl⟩)
theorem Zoz (T:Txt K mg):∀n∈XN,MOk P w K mg base 1 "called" n:=fun n hn=>by
 simp only[XN,Z0G,Z1B,or_false] at hn
 rcases hn with rfl|rfl|rfl|rfl|rfl|rfl|rfl|rfl|rfl|rfl|rfl|rfl|rfl|rfl|rfl
 ·exact ZfX T
 ·exact ZfZ T
 ·exact Zjx T
 ·exact ZhS T
 ·exact ZfY T
 ·exact ZhO T
 ·exact ZhR T
 ·exact Zju T
 ·exact ZhN T
 ·exact ZhM T
 ·exact ZhT T
 ·exact Zjw T
 ·exact ZhP T
 ·exact Zjv T
 ·exact ZhQ T
theorem Zgh (T:Txt K mg):Zqn P w K mg base 1 "BadPlan":=by
 obtain⟨C,f,fd,S,h1,h2,h3,h4,h5,F,h7,h8⟩:=T.i_BadPlan
 obtain⟨oI,k1,k2⟩:=ZfD h5
 refine⟨C,f,fd,oI,h1,h2,h3,k1,k2,Znd (k:=0) F ZfO (fun cdv A outer s H E hr=>?_),F.binds (fun _ _ _ _ _ _ us hl=>match us,hl with | [_,_,_],_=>rfl)⟩
 exact Zi (ZM (ZkE h2 h8 rfl (T.x_mg _ _ h7) (Za (pv 0) (Za (pv 1) Zg)))) (Zj (Zm5 rfl h4 (pv 0) (pv 2)))
theorem Vr:Zv ZH (.exc "BadBoard")=.ok (.bl true):=Zb (by decide)
theorem Q6:Zv ZH (.exc "BadPit")=.ok (.bl false):=Zb (by decide)
theorem Uf:Zv ZH (.exc "BadPits")=.ok (.bl false):=Zb (by decide)
theorem Vq:Zv ZH (.exc "BadCount")=.ok (.bl false):=Zb (by decide)
theorem Ub:Zv ZH (.exc "NoSeeds")=.ok (.bl false):=Zb (by decide)
theorem Ue {i:Int}:Zv ZH (.exa "BadPlan" i)=.ok (.bl false):=Jv (by decide)
theorem Q3:Zv ZH (.exc "Unlike")=.ok (.bl false):=Zb (by decide)
theorem Ua:Zv ZH (.exc "TooLong")=.ok (.bl false):=Zb (by decide)
theorem VZ:Zv ZH (.exc "TooMany")=.ok (.bl false):=Zb (by decide)
theorem Ug:Zv ZH (.exc "BadLine")=.ok (.bl false):=Zb (by decide)
theorem Q5:Zv ZH (.exc "BadRow")=.ok (.bl false):=Zb (by decide)
theorem Uc:Zv ZH (.exc "BadYard")=.ok (.bl false):=Zb (by decide)
theorem Q4:Zv ZH (.exc "NoDeed")=.ok (.bl false):=Zb (by decide)
theorem Ud:Zv ZH (.exc "BadText")=.ok (.bl false):=Zb (by decide)
theorem Qq:Zv Jg (.exc "BadBoard")=.ok (.bl false):=Zb (by decide)
theorem Zbm:Zv Jg (.exc "BadPit")=.ok (.bl true):=Zb (by decide)
theorem ZaG:Zv Jg (.exc "BadPits")=.ok (.bl false):=Zb (by decide)
theorem Qp:Zv Jg (.exc "BadCount")=.ok (.bl false):=Zb (by decide)
theorem ZaC:Zv Jg (.exc "NoSeeds")=.ok (.bl false):=Zb (by decide)
theorem ZaF {i:Int}:Zv Jg (.exa "BadPlan" i)=.ok (.bl false):=Jv (by decide)
theorem Zbj:Zv Jg (.exc "Unlike")=.ok (.bl false):=Zb (by decide)
theorem ZaB:Zv Jg (.exc "TooLong")=.ok (.bl false):=Zb (by decide)
theorem ZaA:Zv Jg (.exc "TooMany")=.ok (.bl false):=Zb (by decide)
theorem ZaH:Zv Jg (.exc "BadLine")=.ok (.bl false):=Zb (by decide)
theorem Zbl:Zv Jg (.exc "BadRow")=.ok (.bl false):=Zb (by decide)
theorem ZaD:Zv Jg (.exc "BadYard")=.ok (.bl false):=Zb (by decide)
theorem Zbk:Zv Jg (.exc "NoDeed")=.ok (.bl false):=Zb (by decide)
theorem ZaE:Zv Jg (.exc "BadText")=.ok (.bl false):=Zb (by decide)
theorem VO:Zv ZU (.exc "BadBoard")=.ok (.bl false):=Zb (by decide)
theorem Za9:Zv ZU (.exc "BadPit")=.ok (.bl false):=Zb (by decide)
theorem Qn:Zv ZU (.exc "BadPits")=.ok (.bl true):=Zb (by decide)
theorem VN:Zv ZU (.exc "BadCount")=.ok (.bl false):=Zb (by decide)
theorem Qj:Zv ZU (.exc "NoSeeds")=.ok (.bl false):=Zb (by decide)
theorem Qm {i:Int}:Zv ZU (.exa "BadPlan" i)=.ok (.bl false):=Jv (by decide)
theorem Za6:Zv ZU (.exc "Unlike")=.ok (.bl false):=Zb (by decide)
theorem Qi:Zv ZU (.exc "TooLong")=.ok (.bl false):=Zb (by decide)
theorem Qh:Zv ZU (.exc "TooMany")=.ok (.bl false):=Zb (by decide)
theorem Qo:Zv ZU (.exc "BadLine")=.ok (.bl false):=Zb (by decide)
theorem Za8:Zv ZU (.exc "BadRow")=.ok (.bl false):=Zb (by decide)
theorem Qk:Zv ZU (.exc "BadYard")=.ok (.bl false):=Zb (by decide)
theorem Za7:Zv ZU (.exc "NoDeed")=.ok (.bl false):=Zb (by decide)
theorem Ql:Zv ZU (.exc "BadText")=.ok (.bl false):=Zb (by decide)
theorem Vp:Zv ZG (.exc "BadBoard")=.ok (.bl false):=Zb (by decide)
theorem Q2:Zv ZG (.exc "BadPit")=.ok (.bl false):=Zb (by decide)
theorem VX:Zv ZG (.exc "BadPits")=.ok (.bl false):=Zb (by decide)
theorem Vo:Zv ZG (.exc "BadCount")=.ok (.bl true):=Zb (by decide)
theorem VT:Zv ZG (.exc "NoSeeds")=.ok (.bl false):=Zb (by decide)
theorem VW {i:Int}:Zv ZG (.exa "BadPlan" i)=.ok (.bl false):=Jv (by decide)
theorem Qz:Zv ZG (.exc "Unlike")=.ok (.bl false):=Zb (by decide)
theorem VS:Zv ZG (.exc "TooLong")=.ok (.bl false):=Zb (by decide)
theorem VR:Zv ZG (.exc "TooMany")=.ok (.bl false):=Zb (by decide)
theorem VY:Zv ZG (.exc "BadLine")=.ok (.bl false):=Zb (by decide)
theorem Q1:Zv ZG (.exc "BadRow")=.ok (.bl false):=Zb (by decide)
theorem VU:Zv ZG (.exc "BadYard")=.ok (.bl false):=Zb (by decide)
theorem Q0:Zv ZG (.exc "NoDeed")=.ok (.bl false):=Zb (by decide)
theorem VV:Zv ZG (.exc "BadText")=.ok (.bl false):=Zb (by decide)
theorem VF:Zv ZR (.exc "BadBoard")=.ok (.bl false):=Zb (by decide)
theorem Zad:Zv ZR (.exc "BadPit")=.ok (.bl false):=Zb (by decide)
theorem UD:Zv ZR (.exc "BadPits")=.ok (.bl false):=Zb (by decide)
theorem VE:Zv ZR (.exc "BadCount")=.ok (.bl false):=Zb (by decide)
theorem U9:Zv ZR (.exc "NoSeeds")=.ok (.bl true):=Zb (by decide)
theorem UC {i:Int}:Zv ZR (.exa "BadPlan" i)=.ok (.bl false):=Jv (by decide)
theorem Zaa:Zv ZR (.exc "Unlike")=.ok (.bl false):=Zb (by decide)
theorem U8:Zv ZR (.exc "TooLong")=.ok (.bl false):=Zb (by decide)
theorem U7:Zv ZR (.exc "TooMany")=.ok (.bl false):=Zb (by decide)
theorem UE:Zv ZR (.exc "BadLine")=.ok (.bl false):=Zb (by decide)
theorem Zac:Zv ZR (.exc "BadRow")=.ok (.bl false):=Zb (by decide)
theorem UA:Zv ZR (.exc "BadYard")=.ok (.bl false):=Zb (by decide)
theorem Zab:Zv ZR (.exc "NoDeed")=.ok (.bl false):=Zb (by decide)
theorem UB:Zv ZR (.exc "BadText")=.ok (.bl false):=Zb (by decide)
theorem VM:Zv ZI (.exc "BadBoard")=.ok (.bl false):=Zb (by decide)
theorem Za5:Zv ZI (.exc "BadPit")=.ok (.bl false):=Zb (by decide)
theorem Qf:Zv ZI (.exc "BadPits")=.ok (.bl false):=Zb (by decide)
theorem VL:Zv ZI (.exc "BadCount")=.ok (.bl false):=Zb (by decide)
theorem Qb:Zv ZI (.exc "NoSeeds")=.ok (.bl false):=Zb (by decide)
theorem Qe {i:Int}:Zv ZI (.exa "BadPlan" i)=.ok (.bl true):=Jv (by decide)
theorem Za2:Zv ZI (.exc "Unlike")=.ok (.bl false):=Zb (by decide)
theorem Qa:Zv ZI (.exc "TooLong")=.ok (.bl false):=Zb (by decide)
theorem UZ:Zv ZI (.exc "TooMany")=.ok (.bl false):=Zb (by decide)
theorem Qg:Zv ZI (.exc "BadLine")=.ok (.bl false):=Zb (by decide)
theorem Za4:Zv ZI (.exc "BadRow")=.ok (.bl false):=Zb (by decide)
theorem Qc:Zv ZI (.exc "BadYard")=.ok (.bl false):=Zb (by decide)
theorem Za3:Zv ZI (.exc "NoDeed")=.ok (.bl false):=Zb (by decide)
theorem Qd:Zv ZI (.exc "BadText")=.ok (.bl false):=Zb (by decide)
theorem Uq:Zv Jd (.exc "BadBoard")=.ok (.bl false):=Zb (by decide)
theorem Zba:Zv Jd (.exc "BadPit")=.ok (.bl false):=Zb (by decide)
theorem QQ:Zv Jd (.exc "BadPits")=.ok (.bl false):=Zb (by decide)
theorem Up:Zv Jd (.exc "BadCount")=.ok (.bl false):=Zb (by decide)
theorem QM:Zv Jd (.exc "NoSeeds")=.ok (.bl false):=Zb (by decide)
theorem QP {i:Int}:Zv Jd (.exa "BadPlan" i)=.ok (.bl false):=Jv (by decide)
theorem ZaX:Zv Jd (.exc "Unlike")=.ok (.bl true):=Zb (by decide)
theorem QL:Zv Jd (.exc "TooLong")=.ok (.bl false):=Zb (by decide)
theorem QK:Zv Jd (.exc "TooMany")=.ok (.bl false):=Zb (by decide)
theorem QR:Zv Jd (.exc "BadLine")=.ok (.bl false):=Zb (by decide)
theorem ZaZ:Zv Jd (.exc "BadRow")=.ok (.bl false):=Zb (by decide)
theorem QN:Zv Jd (.exc "BadYard")=.ok (.bl false):=Zb (by decide)
theorem ZaY:Zv Jd (.exc "NoDeed")=.ok (.bl false):=Zb (by decide)
theorem QO:Zv Jd (.exc "BadText")=.ok (.bl false):=Zb (by decide)
theorem VD:Zv ZQ (.exc "BadBoard")=.ok (.bl false):=Zb (by decide)
theorem QZ:Zv ZQ (.exc "BadPit")=.ok (.bl false):=Zb (by decide)
theorem U5:Zv ZQ (.exc "BadPits")=.ok (.bl false):=Zb (by decide)
theorem VC:Zv ZQ (.exc "BadCount")=.ok (.bl false):=Zb (by decide)
theorem U1:Zv ZQ (.exc "NoSeeds")=.ok (.bl false):=Zb (by decide)
theorem U4 {i:Int}:Zv ZQ (.exa "BadPlan" i)=.ok (.bl false):=Jv (by decide)
theorem QW:Zv ZQ (.exc "Unlike")=.ok (.bl false):=Zb (by decide)
theorem U0:Zv ZQ (.exc "TooLong")=.ok (.bl true):=Zb (by decide)
theorem Uz:Zv ZQ (.exc "TooMany")=.ok (.bl false):=Zb (by decide)
theorem U6:Zv ZQ (.exc "BadLine")=.ok (.bl false):=Zb (by decide)
theorem QY:Zv ZQ (.exc "BadRow")=.ok (.bl false):=Zb (by decide)
theorem U2:Zv ZQ (.exc "BadYard")=.ok (.bl false):=Zb (by decide)
theorem QX:Zv ZQ (.exc "NoDeed")=.ok (.bl false):=Zb (by decide)
theorem U3:Zv ZQ (.exc "BadText")=.ok (.bl false):=Zb (by decide)
theorem VB:Zv ZP (.exc "BadBoard")=.ok (.bl false):=Zb (by decide)
theorem QV:Zv ZP (.exc "BadPit")=.ok (.bl false):=Zb (by decide)
theorem Ux:Zv ZP (.exc "BadPits")=.ok (.bl false):=Zb (by decide)
theorem VA:Zv ZP (.exc "BadCount")=.ok (.bl false):=Zb (by decide)
theorem Ut:Zv ZP (.exc "NoSeeds")=.ok (.bl false):=Zb (by decide)
theorem Uw {i:Int}:Zv ZP (.exa "BadPlan" i)=.ok (.bl false):=Jv (by decide)
theorem QS:Zv ZP (.exc "Unlike")=.ok (.bl false):=Zb (by decide)
theorem Us:Zv ZP (.exc "TooLong")=.ok (.bl false):=Zb (by decide)
theorem Ur:Zv ZP (.exc "TooMany")=.ok (.bl true):=Zb (by decide)
theorem Uy:Zv ZP (.exc "BadLine")=.ok (.bl false):=Zb (by decide)
theorem QU:Zv ZP (.exc "BadRow")=.ok (.bl false):=Zb (by decide)
theorem Uu:Zv ZP (.exc "BadYard")=.ok (.bl false):=Zb (by decide)
theorem QT:Zv ZP (.exc "NoDeed")=.ok (.bl false):=Zb (by decide)
theorem Uv:Zv ZP (.exc "BadText")=.ok (.bl false):=Zb (by decide)
theorem VQ:Zv ZV (.exc "BadBoard")=.ok (.bl false):=Zb (by decide)
theorem ZaL:Zv ZV (.exc "BadPit")=.ok (.bl false):=Zb (by decide)
theorem Qx:Zv ZV (.exc "BadPits")=.ok (.bl false):=Zb (by decide)
theorem VP:Zv ZV (.exc "BadCount")=.ok (.bl false):=Zb (by decide)
theorem Qt:Zv ZV (.exc "NoSeeds")=.ok (.bl false):=Zb (by decide)
theorem Qw {i:Int}:Zv ZV (.exa "BadPlan" i)=.ok (.bl false):=Jv (by decide)
theorem ZaI:Zv ZV (.exc "Unlike")=.ok (.bl false):=Zb (by decide)
theorem Qs:Zv ZV (.exc "TooLong")=.ok (.bl false):=Zb (by decide)
theorem Qr:Zv ZV (.exc "TooMany")=.ok (.bl false):=Zb (by decide)
theorem Qy:Zv ZV (.exc "BadLine")=.ok (.bl true):=Zb (by decide)
theorem ZaK:Zv ZV (.exc "BadRow")=.ok (.bl false):=Zb (by decide)
theorem Qu:Zv ZV (.exc "BadYard")=.ok (.bl false):=Zb (by decide)
theorem ZaJ:Zv ZV (.exc "NoDeed")=.ok (.bl false):=Zb (by decide)
theorem Qv:Zv ZV (.exc "BadText")=.ok (.bl false):=Zb (by decide)
theorem UY:Zv Jf (.exc "BadBoard")=.ok (.bl false):=Zb (by decide)
theorem Zbi:Zv Jf (.exc "BadPit")=.ok (.bl false):=Zb (by decide)
theorem Za0:Zv Jf (.exc "BadPits")=.ok (.bl false):=Zb (by decide)
theorem UX:Zv Jf (.exc "BadCount")=.ok (.bl false):=Zb (by decide)
theorem Zaw:Zv Jf (.exc "NoSeeds")=.ok (.bl false):=Zb (by decide)
theorem Zaz {i:Int}:Zv Jf (.exa "BadPlan" i)=.ok (.bl false):=Jv (by decide)
theorem Zbf:Zv Jf (.exc "Unlike")=.ok (.bl false):=Zb (by decide)
theorem Zav:Zv Jf (.exc "TooLong")=.ok (.bl false):=Zb (by decide)
theorem Zau:Zv Jf (.exc "TooMany")=.ok (.bl false):=Zb (by decide)
theorem Za1:Zv Jf (.exc "BadLine")=.ok (.bl false):=Zb (by decide)
theorem Zbh:Zv Jf (.exc "BadRow")=.ok (.bl true):=Zb (by decide)
theorem Zax:Zv Jf (.exc "BadYard")=.ok (.bl false):=Zb (by decide)
theorem Zbg:Zv Jf (.exc "NoDeed")=.ok (.bl false):=Zb (by decide)
theorem Zay:Zv Jf (.exc "BadText")=.ok (.bl false):=Zb (by decide)
theorem VH:Zv ZS (.exc "BadBoard")=.ok (.bl false):=Zb (by decide)
theorem Zap:Zv ZS (.exc "BadPit")=.ok (.bl false):=Zb (by decide)
theorem UN:Zv ZS (.exc "BadPits")=.ok (.bl false):=Zb (by decide)
theorem VG:Zv ZS (.exc "BadCount")=.ok (.bl false):=Zb (by decide)
theorem UJ:Zv ZS (.exc "NoSeeds")=.ok (.bl false):=Zb (by decide)
theorem UM {i:Int}:Zv ZS (.exa "BadPlan" i)=.ok (.bl false):=Jv (by decide)
theorem Zam:Zv ZS (.exc "Unlike")=.ok (.bl false):=Zb (by decide)
theorem UI:Zv ZS (.exc "TooLong")=.ok (.bl false):=Zb (by decide)
theorem UH:Zv ZS (.exc "TooMany")=.ok (.bl false):=Zb (by decide)
theorem UO:Zv ZS (.exc "BadLine")=.ok (.bl false):=Zb (by decide)
theorem Zao:Zv ZS (.exc "BadRow")=.ok (.bl false):=Zb (by decide)
theorem UK:Zv ZS (.exc "BadYard")=.ok (.bl true):=Zb (by decide)
theorem Zan:Zv ZS (.exc "NoDeed")=.ok (.bl false):=Zb (by decide)
theorem UL:Zv ZS (.exc "BadText")=.ok (.bl false):=Zb (by decide)
theorem UG:Zv Je (.exc "BadBoard")=.ok (.bl false):=Zb (by decide)
theorem Zbe:Zv Je (.exc "BadPit")=.ok (.bl false):=Zb (by decide)
theorem Zak:Zv Je (.exc "BadPits")=.ok (.bl false):=Zb (by decide)
theorem UF:Zv Je (.exc "BadCount")=.ok (.bl false):=Zb (by decide)
theorem Zag:Zv Je (.exc "NoSeeds")=.ok (.bl false):=Zb (by decide)
theorem Zaj {i:Int}:Zv Je (.exa "BadPlan" i)=.ok (.bl false):=Jv (by decide)
theorem Zbb:Zv Je (.exc "Unlike")=.ok (.bl false):=Zb (by decide)
theorem Zaf:Zv Je (.exc "TooLong")=.ok (.bl false):=Zb (by decide)
theorem Zae:Zv Je (.exc "TooMany")=.ok (.bl false):=Zb (by decide)
theorem Zal:Zv Je (.exc "BadLine")=.ok (.bl false):=Zb (by decide)
theorem Zbd:Zv Je (.exc "BadRow")=.ok (.bl false):=Zb (by decide)
theorem Zah:Zv Je (.exc "BadYard")=.ok (.bl false):=Zb (by decide)
theorem Zbc:Zv Je (.exc "NoDeed")=.ok (.bl true):=Zb (by decide)
theorem Zai:Zv Je (.exc "BadText")=.ok (.bl false):=Zb (by decide)
theorem VJ:Zv ZT (.exc "BadBoard")=.ok (.bl false):=Zb (by decide)
theorem Zat:Zv ZT (.exc "BadPit")=.ok (.bl false):=Zb (by decide)
theorem UV:Zv ZT (.exc "BadPits")=.ok (.bl false):=Zb (by decide)
theorem VI:Zv ZT (.exc "BadCount")=.ok (.bl false):=Zb (by decide)
theorem UR:Zv ZT (.exc "NoSeeds")=.ok (.bl false):=Zb (by decide)
theorem UU {i:Int}:Zv ZT (.exa "BadPlan" i)=.ok (.bl false):=Jv (by decide)
theorem Zaq:Zv ZT (.exc "Unlike")=.ok (.bl false):=Zb (by decide)
theorem UQ:Zv ZT (.exc "TooLong")=.ok (.bl false):=Zb (by decide)
theorem UP:Zv ZT (.exc "TooMany")=.ok (.bl false):=Zb (by decide)
theorem UW:Zv ZT (.exc "BadLine")=.ok (.bl false):=Zb (by decide)
theorem Zas:Zv ZT (.exc "BadRow")=.ok (.bl false):=Zb (by decide)
theorem US:Zv ZT (.exc "BadYard")=.ok (.bl false):=Zb (by decide)
theorem Zar:Zv ZT (.exc "NoDeed")=.ok (.bl false):=Zb (by decide)
theorem UT:Zv ZT (.exc "BadText")=.ok (.bl true):=Zb (by decide)
theorem JQ:Zv ZA (.exc "BadBoard")=.ok (.bl true):=Zb (by decide)
theorem Vn:Zv ZA (.exc "BadPit")=.ok (.bl true):=Zb (by decide)
theorem Vg:Zv ZA (.exc "BadPits")=.ok (.bl true):=Zb (by decide)
theorem JP:Zv ZA (.exc "BadCount")=.ok (.bl true):=Zb (by decide)
theorem Vc:Zv ZA (.exc "NoSeeds")=.ok (.bl true):=Zb (by decide)
theorem Vf {i:Int}:Zv ZA (.exa "BadPlan" i)=.ok (.bl true):=Jv (by decide)
theorem Vk:Zv ZA (.exc "Unlike")=.ok (.bl true):=Zb (by decide)
theorem Vb:Zv ZA (.exc "TooLong")=.ok (.bl true):=Zb (by decide)
theorem Va:Zv ZA (.exc "TooMany")=.ok (.bl true):=Zb (by decide)
theorem Vh:Zv ZA (.exc "BadLine")=.ok (.bl true):=Zb (by decide)
theorem Vm:Zv ZA (.exc "BadRow")=.ok (.bl true):=Zb (by decide)
theorem Vd:Zv ZA (.exc "BadYard")=.ok (.bl true):=Zb (by decide)
theorem Vl:Zv ZA (.exc "NoDeed")=.ok (.bl true):=Zb (by decide)
theorem Ve:Zv ZA (.exc "BadText")=.ok (.bl true):=Zb (by decide)
theorem Zdh:Jm XN (.exc "BadBoard")=.ok (.str "BadBoard"):=ZX (by decide)
theorem Zfa:Jm XN (.exc "BadPit")=.ok (.str "BadPit"):=ZX (by decide)
theorem ZdU:Jm XN (.exc "BadPits")=.ok (.str "BadPits"):=ZX (by decide)
theorem Zdg:Jm XN (.exc "BadCount")=.ok (.str "BadCount"):=ZX (by decide)
theorem ZdQ:Jm XN (.exc "NoSeeds")=.ok (.str "NoSeeds"):=ZX (by decide)
theorem ZdT {i:Int}:Jm XN (.exa "BadPlan" i)=.ok (.str "BadPlan"):=ZfW (by decide)
theorem ZdW {i:Int}:pAt XA (.exa "BadPlan" i)=.ok (.int i):=ZmL (by decide)
theorem ZeX:Jm XN (.exc "Unlike")=.ok (.str "Unlike"):=ZX (by decide)
theorem ZdP:Jm XN (.exc "TooLong")=.ok (.str "TooLong"):=ZX (by decide)
theorem ZdO:Jm XN (.exc "TooMany")=.ok (.str "TooMany"):=ZX (by decide)
theorem ZdV:Jm XN (.exc "BadLine")=.ok (.str "BadLine"):=ZX (by decide)
theorem ZeZ:Jm XN (.exc "BadRow")=.ok (.str "BadRow"):=ZX (by decide)
theorem ZdR:Jm XN (.exc "BadYard")=.ok (.str "BadYard"):=ZX (by decide)
theorem ZeY:Jm XN (.exc "NoDeed")=.ok (.str "NoDeed"):=ZX (by decide)
theorem ZdS:Jm XN (.exc "BadText")=.ok (.str "BadText"):=ZX (by decide)
theorem Zdb:PyData.canLay0 (.str "BadBoard")=true:=by rw[PyData.canLay0];decide +kernel
theorem Zda:PyData.canLay0 (.str "BadCount")=true:=by rw[PyData.canLay0];decide +kernel
theorem ZdM:PyData.canLay0 (.str "BadLine")=true:=by rw[PyData.canLay0];decide +kernel
theorem ZeV:PyData.canLay0 (.str "BadPit")=true:=by rw[PyData.canLay0];decide +kernel
theorem ZdL:PyData.canLay0 (.str "BadPits")=true:=by rw[PyData.canLay0];decide +kernel
theorem ZdK:PyData.canLay0 (.str "BadPlan")=true:=by rw[PyData.canLay0];decide +kernel
theorem ZeU:PyData.canLay0 (.str "BadRow")=true:=by rw[PyData.canLay0];decide +kernel
theorem ZdJ:PyData.canLay0 (.str "BadText")=true:=by rw[PyData.canLay0];decide +kernel
theorem ZdI:PyData.canLay0 (.str "BadYard")=true:=by rw[PyData.canLay0];decide +kernel
theorem ZeT:PyData.canLay0 (.str "NoDeed")=true:=by rw[PyData.canLay0];decide +kernel
theorem ZdH:PyData.canLay0 (.str "NoSeeds")=true:=by rw[PyData.canLay0];decide +kernel
theorem ZdG:PyData.canLay0 (.str "TooLong")=true:=by rw[PyData.canLay0];decide +kernel
theorem ZdF:PyData.canLay0 (.str "TooMany")=true:=by rw[PyData.canLay0];decide +kernel
theorem ZeS:PyData.canLay0 (.str "Unlike")=true:=by rw[PyData.canLay0];decide +kernel
theorem Vt {g:Bool->Bool}:ZbP g (.str "BadBoard") (.str "BadBoard")=.ok (.bl (g true)):=J1 Zdb Zdb
theorem Vs {g:Bool->Bool}:ZbP g (.str "BadCount") (.str "BadCount")=.ok (.bl (g true)):=J1 Zda Zda
theorem QE {g:Bool->Bool}:ZbP g (.str "BadLine") (.str "BadLine")=.ok (.bl (g true)):=J1 ZdM ZdM
theorem Zbq {g:Bool->Bool}:ZbP g (.str "BadPit") (.str "BadPit")=.ok (.bl (g true)):=J1 ZeV ZeV
theorem QD {g:Bool->Bool}:ZbP g (.str "BadPits") (.str "BadPits")=.ok (.bl (g true)):=J1 ZdL ZdL
theorem QC {g:Bool->Bool}:ZbP g (.str "BadPlan") (.str "BadPlan")=.ok (.bl (g true)):=J1 ZdK ZdK
theorem Zbp {g:Bool->Bool}:ZbP g (.str "BadRow") (.str "BadRow")=.ok (.bl (g true)):=J1 ZeU ZeU
theorem QB {g:Bool->Bool}:ZbP g (.str "BadText") (.str "BadText")=.ok (.bl (g true)):=J1 ZdJ ZdJ
theorem QA {g:Bool->Bool}:ZbP g (.str "BadYard") (.str "BadYard")=.ok (.bl (g true)):=J1 ZdI ZdI
theorem Zbo {g:Bool->Bool}:ZbP g (.str "NoDeed") (.str "NoDeed")=.ok (.bl (g true)):=J1 ZeT ZeT
theorem Q9 {g:Bool->Bool}:ZbP g (.str "NoSeeds") (.str "NoSeeds")=.ok (.bl (g true)):=J1 ZdH ZdH
theorem Q8 {g:Bool->Bool}:ZbP g (.str "TooLong") (.str "TooLong")=.ok (.bl (g true)):=J1 ZdG ZdG
theorem Q7 {g:Bool->Bool}:ZbP g (.str "TooMany") (.str "TooMany")=.ok (.bl (g true)):=J1 ZdF ZdF
theorem Zbn {g:Bool->Bool}:ZbP g (.str "Unlike") (.str "Unlike")=.ok (.bl (g true)):=J1 ZeS ZeS
set_option hygiene false
local macro_rules | `(tactic| walk_at "pd")=>`(tactic| try simp -implicitDefEqProofs (disch:=first|omega|(simp only[Z0K,Z0Z,Z1R,Z17,Z0T,Z14,List.length_take,List.length_drop,List.length_range,ZaQ];omega)|decide) only[Zgi,Zgj,List.set_cons_zero,Z1J,List.cons_append,Z1G,ZiK,ZiJ,Z13,Rr.bind_ok,Rr.bind_exc,Rr.bind_bad,Rr.thenS_ok,Rr.thenS_exc,RS.seq_next,RS.seq_ret,RS.seq_exc,RS.out_next,RS.out_ret,RS.out_exc,
 Zjh,ZiW,ZlT,ZlV,Zmb,Zmc,ZjF,Zlr,Zmr,Zke,ZlB,Zon,Zma,ZlZ,ZlY,ZkQ,ZiZ,ZlX,ZlW,Zhj,Zhk,Zhi,Zhh,Zje,ZgN,ZeP,ZmG,ZpN,ZcR,Z0T,Z14,Bool.not_true,Bool.not_false,Bool.false_eq_true,if_true,if_false,Nat.reduceAdd,Nat.reduceSub,id,Z0R,Z1I,Int.reduceToNat,ZdE,ZcS,Zoq,Zmg,Zmf,ZkS,ZhJ,Zqk,Zhm,ZgV,Nat.reduceLeDiff,Z0D,Int.reduceLT,Int.reduceLE,Int.reduceEq,decide_true,decide_false,
 Uo,Zbw,ZgL,Zeu,ZhG,Zcb,ZgX,ZkO,Zmy,Zmx,Zk0,ZiL,ZkX,ZkW,Zjs,ZkU,beq_self_eq_true,Bool.and_true,Bool.true_and,Bool.and_false,Bool.false_and,Zom,Vr,Q6,Uf,Vq,Ub,Ue,Q3,Ua,VZ,Ug,Q5,Uc,Q4,Ud,Qq,Zbm,ZaG,Qp,ZaC,ZaF,Zbj,ZaB,ZaA,ZaH,Zbl,ZaD,Zbk,ZaE,VO,Za9,Qn,VN,Qj,Qm,Za6,Qi,Qh,Qo,Za8,Qk,Za7,Ql,Vp,Q2,VX,Vo,VT,VW,Qz,VS,VR,VY,Q1,VU,Q0,VV,VF,Zad,UD,VE,U9,UC,Zaa,U8,U7,UE,Zac,UA,Zab,UB,VM,Za5,Qf,VL,Qb,Qe,Za2,Qa,UZ,Qg,Za4,Qc,Za3,Qd,Uq,Zba,QQ,Up,QM,QP,ZaX,QL,QK,QR,ZaZ,QN,ZaY,QO,VD,QZ,U5,VC,U1,U4,QW,U0,Uz,U6,QY,U2,QX,U3,VB,QV,Ux,VA,Ut,Uw,QS,Us,Ur,Uy,QU,Uu,QT,Uv,VQ,ZaL,Qx,VP,Qt,Qw,ZaI,Qs,Qr,Qy,ZaK,Qu,ZaJ,Qv,UY,Zbi,Za0,UX,Zaw,Zaz,Zbf,Zav,Zau,Za1,Zbh,Zax,Zbg,Zay,VH,Zap,UN,VG,UJ,UM,Zam,UI,UH,UO,Zao,UK,Zan,UL,UG,Zbe,Zak,UF,Zag,Zaj,Zbb,Zaf,Zae,Zal,Zbd,Zah,Zbc,Zai,VJ,Zat,UV,VI,UR,UU,Zaq,UQ,UP,UW,Zas,US,Zar,UT,JQ,Vn,Vg,JP,Vc,Vf,Vk,Vb,Va,Vh,Vm,Vd,Vl,Ve,Zdh,Zfa,ZdU,Zdg,ZdQ,ZdW,ZdT,ZeX,ZdP,ZdO,ZdV,ZeZ,ZdR,ZeY,ZdS,Vt,Vs,QE,Zbq,QD,QC,Zbp,QB,QA,Zbo,Q9,Q8,Q7,Zbn])
set_option hygiene true
noncomputable def ZsP:Pm:=⟨Int,fun i=>[.int i],fun _=>True,fun _=>.ok (.bl true)⟩
theorem Zz2 (T:Txt K mg) {f:Addr}{fd:FuncData} (F:Fun K "is_whole" "is_whole" ZsT f fd):J5 P w K mg base CX0 1 f fd ["value"] (spF K 1 .P W0 ZsP.fn):=by
 refine F.okP Zzx rfl rfl (fun cdv A outer s H E hr=>?_)
 have hu:=hr.units
 refine⟨_,_,⟨[],[],[],.P⟩,rfl,(Zj (Zz (ZcQ (Zr (Zb3 (K:=K) (n := "int") rfl) rfl T.z_isinstance Zw (Za (pv 0) (Za (Zcu (v:=.ty "int") rfl T.z_int Zpg rfl) Zg))) (ZcP (Zok (Zr (Zb3 (K:=K) (n := "bool") rfl) rfl T.z_isinstance Zw (Za (pv 0) (Za (Zcu (v:=.ty "bool") rfl T.z_bool Znq rfl) Zg)))))))),
   (ZC (Zdv (DE.toA (Zfs (Zd (i:=0) (m:=.S) rfl (by decide)))) (ZoW (DE.toA (Zfs (Zd (i:=0) (m:=.S) rfl (by decide))))))), ?_⟩
 refine Pm.ref ZsP (g:=fun xs=>_) ?_
 intro (i:Int) _
 simp only[ZsP]
 walk_at "pd"
theorem Zu4 {i:Int}:ZsP.fn [.int i]=.ok (.bl true):=Pm.fn_eq ZsP i trivial fun _ _=>rfl
noncomputable def Zri:Pm:=⟨Int×Int,fun a=>[.int a.1,.int a.2],fun _=>True,fun a=>.ok (.bl (decide (a.2<=a.1)))⟩
theorem ZtB (T:Txt K mg) {f:Addr}{fd:FuncData} (F:Fun K "is_whole_from" "is_whole_from" Zrz f fd):J5 P w K mg base CX0 2 f fd ["value", "least"] (spF K 2 .P W0 Zri.fn):=by
 have ZzW:=Zca (P:=P) (w:=w) (base:=base) T.ZzN Zz9 (fun F=>Zz2 T F)
 refine F.okP ZwT rfl rfl (fun cdv A outer s H E hr=>?_)
 have hu:=hr.units
 refine⟨_,_,⟨[],[],[],.P⟩,rfl,(Zj (Zz (ZcQ (ZE ZzW (hr.mono (by decide)) rfl (Za (pv 0) Zg)) (ZcP (JV ZpO (pv 0) (pv 1) (Z9 _)))))),
   (ZC (Zdv (DE.toA (ZjU (Zf Zm) (Zc (Zd (i:=0) (m:=.S) rfl (by decide)) Zh))) (Zqa (Zd (i:=0) (m:=.S) rfl (by decide)) (Zd (i:=1) (m:=.S) rfl (by decide))))), ?_⟩
 refine Pm.ref Zri (g:=fun xs=>_) ?_
 rintro⟨i,j⟩ _
 simp only[Zri]
 walk_at "pd"
 rw[Zu4]
 walk_at "pd"
theorem ZrN {i j:Int}:Zri.fn [.int i,.int j]=.ok (.bl (decide (j<=i))):=Pm.fn_eq Zri (i,j) trivial fun(a:Int×Int) e=>by (simp only[Zri,List.cons.injEq,PV.lst.injEq,PV.int.injEq,PV.str.injEq,PV.bl.injEq,PV.tup.injEq,ZN,and_true] at e ⊢;first|(simp only[e];done)|(subst e;rfl)|(rw[e]))
theorem Zc7:Zri.calm:=fun a q h=>by (simp only[Zri] at h;cases h)
noncomputable def Zrc:Pm:=⟨List Int,fun ns=>[.lst (ns.map PV.int)],fun ns=>ns.length<=1000000,fun ns=>.ok (.bl (decide (∀x∈ns,0<=x)))⟩
theorem ZrO (T:Txt K mg) {f:Addr}{fd:FuncData} (F:Fun K "is_list_from_nought" "is_list_from_nought" Zre f fd):J5 P w K mg base CX0 3 f fd ["values"] (spF K 1 .P W0 Zrc.fn):=by
 have ZsH:=Zca (P:=P) (w:=w) (base:=base) T.ZtW ZtF (fun F=>ZtB T F)
 refine F.okP Ztg rfl rfl (fun cdv A outer s H E hr=>?_)
 have hu:=hr.units
 refine⟨_,_,⟨[],[],[],.P⟩,rfl,(Zj (Zz (ZcQ (Zr (Zb3 (K:=K) (n := "list") rfl) rfl T.z_isinstance Zw (Za (pv 0) (Za (Zcu (v:=.ty "list") rfl T.z_list Zd0 rfl) Zg))) (ZcP (Zr (Ui (K:=K) rfl) rfl T.z_all Zd2 (Za (Um (Ul (K:=K) (pv 0)) (fun _ _ _ _=>(ZE ZsH (hr.mono (by decide)) rfl (Za (pv 1) (Za Zl Zg)))) Ztg.nd rfl) Zg)))))),
   (ZC (Zdv (DE.toA (Zfs (Zd (i:=0) (m:=.S) rfl (by decide)))) (Zdw (Zc (DE.toA (JL (DI.c (Zdt (Zcy (i:=0) rfl))) (DE.PF (ZjU (Zf (Zf Zm)) (Zc (Zd (i:=1) (m:=.S) rfl (by decide)) (Zc (DE.toA Zk) Zh)))))) Zh)))), ?_⟩
 refine Pm.ref Zrc (g:=fun xs=>_) ?_
 intro (ns:List Int) (hn:ns.length<=1000000)
 simp only[Zrc]
 walk_at "pd"
 rw[Zga (g:=fun z=>decide (0<=z)) (fun z _=>ZrN)]
 walk_at "pd"
 rw[Zgu]
theorem Zrf {ns:List Int} (h:ns.length<=1000000):Zrc.fn [.lst (ns.map PV.int)]=.ok (.bl (decide (∀x∈ns,0<=x))):=Pm.fn_eq Zrc ns h fun(a:List Int) e=>by (simp only[Zrc,List.cons.injEq,PV.lst.injEq,PV.int.injEq,PV.str.injEq,PV.bl.injEq,PV.tup.injEq,ZN,and_true] at e ⊢;first|(simp only[e];done)|(subst e;rfl)|(rw[e]))
theorem J0:Zrc.calm:=fun a q h=>by (simp only[Zrc] at h;cases h)
noncomputable def Zr6:Pm:=⟨Unit,fun _=>[],fun _=>True,fun _=>.ok (.int (10^60))⟩
theorem Zwm (T:Txt K mg) {f:Addr}{fd:FuncData} (F:Fun K "most_seeds" "most_seeds" Zsm f fd):J5 P w K mg base CX0 1 f fd [] (spF K 0 .P W0 Zr6.fn):=by
 refine F.okP Zyw rfl rfl (fun cdv A outer s H E hr=>?_)
 have hu:=hr.units
 refine⟨_,_,⟨[],[],[],.P⟩,rfl,(Zj (Zz (ZF ZgP Zl Zl))),
   (ZC (Zhu (DE.toA Zk) (DE.toA Zk))), ?_⟩
 refine Pm.ref Zr6 (g:=fun xs=>_) ?_
 rintro _ _
 simp only[Zr6]
 walk_at "pd"
theorem ZsX:Zr6.fn []=.ok (.int (10^60)):=Pm.fn_eq Zr6 () trivial fun _ _=>rfl
theorem Zen:Zr6.calm:=fun a q h=>by (simp only[Zr6] at h;cases h)
noncomputable def Zsg:Pm:=⟨List Int,fun ns=>[.lst (ns.map PV.int)],fun ns=>ns.length<=1000,fun ns=>.ok (.bl (Jh ns))⟩
theorem Zz3 (T:Txt K mg) {f:Addr}{fd:FuncData} (F:Fun K "is_board" "is_board" ZsU f fd):J5 P w K mg base CX0 4 f fd ["board"] (spF K 1 .P W0 Zsg.fn):=by
 have Zrh:=Zca (P:=P) (w:=w) (base:=base) T.Zse ZrP (fun F=>ZrO T F)
 have ZvO:=Zca (P:=P) (w:=w) (base:=base) T.ZwQ Zwq (fun F=>Zwm T F)
 refine F.okP Zzy rfl rfl (fun cdv A outer s H E hr=>?_)
 have hu:=hr.units
 refine⟨_,_,⟨[],[],[],.P⟩,rfl,(Zi (Jo (JZ (JN (ZE Zrh (hr.mono (by decide)) rfl (Za (pv 0) Zg)))) (Zj (Zz ZfT)) Z7)
   (Zi (Jo (PW.pt (ZbW (Z2 ZkY (Zr (ZK (K:=K)) rfl T.z_len JG (Za (pv 0) Zg)) (JI T.c_FEWEST_PITS rfl) (Z9 _)) (ZaW (Z2 ZbZ (Zr (ZK (K:=K)) rfl T.z_len JG (Za (pv 0) Zg)) (JI T.c_MOST_PITS rfl) (Z9 _))))) (Zj (Zz ZfT)) Z7)
   (Zj (Zz (JV Zor (Zr (JM (K:=K) rfl) rfl T.z_sum Zcj (Za (pv 0) Zg)) (ZeL ZvO (hr.mono (by decide)) rfl) (Z9 _)))))),
   (Zp (Γm:=[.S]) (Jp (Vi (Ze7 (DE.toA (ZjU (Zf Zm) (Zc (Zd (i:=0) (m:=.S) rfl (by decide)) Zh)))))
   (ZC Zgp)
   Z8)
   (Zp (Γm:=[.S]) (Jp (Zcf (Z1 (DE.toA (Zl3 (DE.toA (JF (Zc (Zd (i:=0) (m:=.S) rfl (by decide)) Zh))) (DE.toA Zk)))) (Z1 (DE.toA (Zch (DE.toA (JF (Zc (Zd (i:=0) (m:=.S) rfl (by decide)) Zh))) (DE.toA Zk)))))
   (ZC Zgp)
   Z8)
   (ZC (ZoY (DE.toA (Zcg (Zc (Zd (i:=0) (m:=.S) rfl (by decide)) Zh))) (DE.toA (ZjU Zm Zh)))))), ?_⟩
 refine Pm.ref Zsg (g:=fun xs=>_) ?_
 intro (ns:List Int) (hn:ns.length<=1000)
 simp only[Zsg]
 walk_at "pd"
 rw[Zrf (by omega)]
 walk_at "pd"
 by_cases h3:∀x∈ns,0<=x
 ·rw[decide_eq_true h3]
  walk_at "pd"
  by_cases h1:(ns.length:Int)<2
  ·rw[decide_eq_true h1]
   walk_at "pd"
   rw[show Jh ns=false from decide_eq_false (by omega)]
  rw[decide_eq_false h1]
  walk_at "pd"
  by_cases h2:(24:Int)<ns.length
  ·rw[decide_eq_true h2]
   walk_at "pd"
   rw[show Jh ns=false from decide_eq_false (by omega)]
  rw[decide_eq_false h2]
  walk_at "pd"
  rw[ZsX]
  walk_at "pd"
  by_cases h4:ns.sum<=10^60
  ·rw[decide_eq_true h4,V7.mpr ⟨by omega,by omega,h3,h4⟩]
  ·rw[decide_eq_false h4,show Jh ns=false from decide_eq_false (fun z=>h4 z.2.2.2)]
 ·rw[decide_eq_false h3]
  walk_at "pd"
  rw[show Jh ns=false from decide_eq_false (fun z=>h3 z.2.2.1)]
theorem Zu5 {ns:List Int} (h:ns.length<=1000):Zsg.fn [.lst (ns.map PV.int)]=.ok (.bl (Jh ns)):=Pm.fn_eq Zsg ns h fun(a:List Int) e=>by (simp only[Zsg,List.cons.injEq,PV.lst.injEq,PV.int.injEq,PV.str.injEq,PV.bl.injEq,PV.tup.injEq,ZN,and_true] at e ⊢;first|(simp only[e];done)|(subst e;rfl)|(rw[e]))
theorem ZfV:Zsg.calm:=fun a q h=>by (simp only[Zsg] at h;cases h)
noncomputable def ZrI:Pm:=⟨List Int,fun ns=>[.lst (ns.map PV.int)],fun ns=>ns.length<=1000,fun ns=>orX (if Jh ns=true then none else some "BadBoard") .non⟩
theorem Zsi (T:Txt K mg) {f:Addr}{fd:FuncData} (F:Fun K "check_board" "check_board" ZrV f fd):J5 P w K mg base (CX1 P w) 5 f fd ["board"] (spF K 1 .P (W1 K) ZrI.fn):=by
 have ZzX:=Zca (P:=P) (w:=w) (base:=base) T.ZzO ZzA (fun F=>Zz3 T F)
 obtain⟨C_BadBoard,hC_BadBoard,hQ_BadBoard⟩:=J6 T.x_exc (n := "BadBoard") (by decide)
 refine F.okX ZxR rfl rfl (fun cdv A outer s H E hr=>?_)
 have hu:=hr.units
 refine⟨_,_,⟨[.S],[],[],.P⟩,rfl,(Zj (Jo (JZ (JN (ZE ZzX (hr.mono (by decide)) rfl (Za (pv 0) Zg)))) (Zj (Jj J3 hQ_BadBoard rfl (T.x_mg _ _ hC_BadBoard) rfl (Za Z6 Zg))) Z7)),
   (Jp (Vi (Ze7 (DE.toA (ZjK (Zf Zm) (Pm.calm_fn ZfV) (Zc (Zd (i:=0) (m:=.S) rfl (by decide)) Zh)))))
   (Jk hC_BadBoard (Zf Zm) (by decide) (Zc (DE.toA Z5) Zh))
   Z8), ?_⟩
 refine Pm.ref ZrI (g:=fun xs=>_) ?_
 intro (ns:List Int) (hn:ns.length<=1000)
 simp only[ZrI]
 walk_at "pu"
 rw[Zu5 hn]
 walk_at "pu"
 by_cases h:Jh ns=true
 ·rw[h];walk_at "pu";rfl
 ·rw[Bool.not_eq_true] at h
  rw[h];walk_at "pu";rfl
theorem Zrs {ns:List Int} (h:ns.length<=1000):ZrI.fn [.lst (ns.map PV.int)]=orX (if Jh ns=true then none else some "BadBoard") .non:=Pm.fn_eq ZrI ns h fun a e=>by
 simp only[ZrI,List.cons.injEq,PV.lst.injEq,and_true] at e ⊢
 rw[JE e]
noncomputable def Zn2 (b o:List Int):Option Str:=if b.length=o.length/\b.sum=o.sum then none else some "Unlike"
noncomputable def ZrJ:Pm:=⟨List Int×List Int,fun a=>[.lst (a.1.map PV.int),.lst (a.2.map PV.int)],fun a=>a.1.length<=1000/\a.2.length<=1000,fun a=>orX (Zn2 a.1 a.2) .non⟩
theorem ZxX (T:Txt K mg) {f:Addr}{fd:FuncData} (F:Fun K "check_alike" "check_alike" ZrW f fd):J5 P w K mg base (CX1 P w) 1 f fd ["board", "other"] (spF K 2 .P (W1 K) ZrJ.fn):=by
 obtain⟨C_Unlike,hC_Unlike,hQ_Unlike⟩:=J6 T.x_exc (n := "Unlike") (by decide)
 refine F.okX ZxS rfl rfl (fun cdv A outer s H E hr=>?_)
 have hu:=hr.units
 refine⟨_,_,⟨[.S,.S],[],[],.P⟩,rfl,(Zj (Jo (PW.pt (ZbW (Z2 (Zc3 (K:=K) hu) (Zr (ZK (K:=K)) rfl T.z_len JG (Za (pv 0) Zg)) (Zr (ZK (K:=K)) rfl T.z_len JG (Za (pv 1) Zg)) (Z9 _)) (ZaW (Z2 (Zc3 (K:=K) hu) (Zr (JM (K:=K) rfl) rfl T.z_sum Zcj (Za (pv 0) Zg)) (Zr (JM (K:=K) rfl) rfl T.z_sum Zcj (Za (pv 1) Zg)) (Z9 _))))) (Zj (Jj J3 hQ_Unlike rfl (T.x_mg _ _ hC_Unlike) rfl (Za Z6 Zg))) Z7)),
   (Jp (Zcf (Z1 (DE.toA (Jb (g:=(!·)) (DE.toA (JF (Zc (Zd (i:=0) (m:=.S) rfl (by decide)) Zh))) (DE.toA (JF (Zc (Zd (i:=1) (m:=.S) rfl (by decide)) Zh)))))) (Z1 (DE.toA (Jb (g:=(!·)) (DE.toA (Zcg (Zc (Zd (i:=0) (m:=.S) rfl (by decide)) Zh))) (DE.toA (Zcg (Zc (Zd (i:=1) (m:=.S) rfl (by decide)) Zh)))))))
   (Jk hC_Unlike (Zf Zm) (by decide) (Zc (DE.toA Z5) Zh))
   Z8), ?_⟩
 refine Pm.ref ZrJ (g:=fun xs=>_) ?_
 rintro⟨b,o⟩ ⟨h1,h2⟩
 simp only at h1 h2
 simp only[ZrJ]
 walk_at "pd"
 by_cases c:(b.length:Int)=o.length
 ·rw[decide_eq_true c]
  walk_at "pd"
  by_cases d:b.sum=o.sum
  ·rw[decide_eq_true d,show Zn2 b o=none from if_pos ⟨by omega,d⟩]
   walk_at "pd"
  ·rw[decide_eq_false d,show Zn2 b o=(some "Unlike":Option Str) from if_neg (fun z=>d z.2)]
   walk_at "pd"
 ·rw[decide_eq_false c,show Zn2 b o=(some "Unlike":Option Str) from if_neg (fun z=>c (by omega))]
  walk_at "pd"
theorem Ztb {b o:List Int} (h:b.length<=1000/\o.length<=1000):ZrJ.fn [.lst (b.map PV.int),.lst (o.map PV.int)]=orX (Zn2 b o) .non:=Pm.fn_eq ZrJ (b,o) h fun(a:List Int×List Int) e=>by (simp only[ZrJ,List.cons.injEq,PV.lst.injEq,PV.int.injEq,PV.str.injEq,PV.bl.injEq,PV.tup.injEq,ZN,and_true] at e ⊢;first|(simp only[e];done)|(subst e;rfl)|(rw[e]))
noncomputable def ZoS (b:List Int):Option Str:=if 60<b.sum then some "TooMany" else none
noncomputable def Zrk:Pm:=⟨List Int,fun a=>[.lst (a.map PV.int)],fun a=>a.length<=1000,fun a=>orX (ZoS a) .non⟩
theorem Zuf (T:Txt K mg) {f:Addr}{fd:FuncData} (F:Fun K "check_few_seeds" "check_few_seeds" Zrn f fd):J5 P w K mg base (CX1 P w) 1 f fd ["board"] (spF K 1 .P (W1 K) Zrk.fn):=by
 obtain⟨C_TooMany,hC_TooMany,hQ_TooMany⟩:=J6 T.x_exc (n := "TooMany") (by decide)
 refine F.okX Zwk rfl rfl (fun cdv A outer s H E hr=>?_)
 have hu:=hr.units
 refine⟨_,_,⟨[.S],[],[],.P⟩,rfl,(Zj (Jo (Z2 ZbZ (Zr (JM (K:=K) rfl) rfl T.z_sum Zcj (Za (pv 0) Zg)) (JI T.c_MOST_GATHERED rfl) (Z9 _)) (Zj (Jj J3 hQ_TooMany rfl (T.x_mg _ _ hC_TooMany) rfl (Za Z6 Zg))) Z7)),
   (Jp (Z1 (DE.toA (Zch (DE.toA (Zcg (Zc (Zd (i:=0) (m:=.S) rfl (by decide)) Zh))) (DE.toA Zk))))
   (Jk hC_TooMany (Zf Zm) (by decide) (Zc (DE.toA Z5) Zh))
   Z8), ?_⟩
 refine Pm.ref Zrk (g:=fun xs=>_) ?_
 rintro(b:List Int) (hb:b.length<=1000)
 simp only[Zrk]
 walk_at "pd"
 by_cases c:60<b.sum
 ·rw[decide_eq_true c,show ZoS b=(some "TooMany":Option Str) from if_pos c]
  walk_at "pd"
 ·rw[decide_eq_false c,show ZoS b=none from if_neg c]
  walk_at "pd"
theorem Zsk {b:List Int} (h:b.length<=1000):Zrk.fn [.lst (b.map PV.int)]=orX (ZoS b) .non:=Pm.fn_eq Zrk b h fun(a:List Int) e=>by (simp only[Zrk,List.cons.injEq,PV.lst.injEq,PV.int.injEq,PV.str.injEq,PV.bl.injEq,PV.tup.injEq,ZN,and_true] at e ⊢;first|(simp only[e];done)|(subst e;rfl)|(rw[e]))
noncomputable def Zs4:Pm:=⟨List Int×Int,fun a=>[.lst (a.1.map PV.int),.int a.2],fun a=>0<=a.2/\a.2<a.1.length/\a.1.length<=1000,fun a=>.ok (ZbY (ZbO a))⟩
theorem Zw5 (T:Txt K mg) {f:Addr}{fd:FuncData} (F:Fun K "sow_pit" "sow_pit" Ztr f fd):J5 P w K mg base CX0 1 f fd ["board", "pit"] (spF K 2 .F W0 Zs4.fn):=by
 refine F.okP ZsQ rfl rfl (fun cdv A outer s H E hr=>?_)
 have hu:=hr.units
 refine⟨_,_,⟨[],[],[],.F⟩,rfl,(Zi (ZW (i:=2) ZsQ.nd rfl (by first|exact Or.inl rfl|exact Or.inr rfl) (Zr (ZK (K:=K)) rfl T.z_len JG (Za (pv 0) Zg)))
   (Zi (ZW (i:=3) ZsQ.nd rfl (by first|exact Or.inl rfl|exact Or.inr rfl) (ZF Zeq (Uk (Jq (K:=K)) (pv 0) (pv 1) (fun _ _=>rfl)) (pv 2)))
   (Zi (ZW (i:=4) ZsQ.nd rfl (by first|exact Or.inl rfl|exact Or.inr rfl) (ZF J9 (Uk (Jq (K:=K)) (pv 0) (pv 1) (fun _ _=>rfl)) (pv 2)))
   (Zi (ZbK (i:=5) ZsQ.nd rfl (Ul (K:=K) (pv 0)) (fun _ _ _ _=>(ZF JO (pv 8) (pv 3))) rfl)
   (Zi (ZlR (pv 3) (ZlS (pv 5) (pv 1) ZcA))
   (Zi (ZW (i:=6) ZsQ.nd rfl (by first|exact Or.inl rfl|exact Or.inr rfl) (pv 1))
   (Zi (ZeK PassesOwn.never rfl (Zbv rfl T.z_range (Za (pv 4) Zg)) (ZaR (i:=7) ZsQ.nd rfl (by first|exact Or.inl rfl|exact Or.inr rfl)) (Zi (ZW (i:=6) ZsQ.nd rfl (by first|exact Or.inl rfl|exact Or.inr rfl) (ZF J9 (ZF JO (pv 6) Zl) (pv 2)))
   (Zj (ZiP (pv 5) (pv 6) (Zfk (K:=K)) Zl ZjA ZcA))))
   (Zj (Zz (ZcO (Za (pv 5) (Za (pv 6) Zg)))))))))))),
   (Zp (Γm:=[.S,.S,.P,.U,.U,.U,.U,.U]) (Jt (i:=2) (JF (Zc (Zd (i:=0) (m:=.S) rfl (by decide)) Zh)) (by decide))
   (Zp (Γm:=[.S,.S,.P,.P,.U,.U,.U,.U]) (Jt (i:=3) (ZjR (JH (te:=tC .non) (Zd (i:=0) (m:=.S) rfl (by decide)) (Zd (i:=1) (m:=.S) rfl (by decide))) (DE.toA (Z3 (i:=2) rfl))) (by decide))
   (Zp (Γm:=[.S,.S,.P,.P,.P,.U,.U,.U]) (Jt (i:=4) (JB (JH (te:=tC .non) (Zd (i:=0) (m:=.S) rfl (by decide)) (Zd (i:=1) (m:=.S) rfl (by decide))) (DE.toA (Z3 (i:=2) rfl))) (by decide))
   (Zp (Γm:=[.S,.S,.P,.P,.P,.O,.U,.U]) (ZaT (i:=5) (JL (DI.c (Zdt (Zcy (i:=0) rfl))) (DE.PF (JR (Zd (i:=8) (m:=.S) rfl (by decide)) (DE.toA (Z3 (i:=3) rfl))))) (by decide))
   (Zp (Γm:=[.S,.S,.P,.P,.P,.O,.U,.U]) (Zfp (i:=5) rfl (Z3 (i:=3) rfl) (Zd (i:=1) (m:=.S) rfl (by decide)))
   (Zp (Γm:=[.S,.S,.P,.P,.P,.O,.P,.U]) (Jt (i:=6) (DE.grd (Zd (i:=1) (m:=.S) rfl (by decide))) (by decide))
   (Zp (Γm:=[.S,.S,.P,.P,.P,.O,.P,.U]) (Zfq (Γl:=[.S,.S,.P,.P,.P,.O,.P,.U]) (Zds (Zc (DE.toA (Z3 (i:=4) rfl)) Zh)) rfl (Znh (i:=7) (by decide))
   (DS.out (Y:=⟨[.S,.S,.P,.P,.P,.O,.P,.P],[.S,.S,.P,.P,.P,.O,.P,.U],[.S,.S,.P,.P,.P,.O,.P,.U],.F⟩) (Y':=⟨[.S,.S,.P,.P,.P,.O,.P,.U],[.S,.S,.P,.P,.P,.O,.P,.U],[.S,.S,.P,.P,.P,.O,.P,.U],.F⟩) (Zp (Γm:=[.S,.S,.P,.P,.P,.O,.P,.P]) (Jt (i:=6) (JB (DE.toA (JR (DE.toA (Z3 (i:=6) rfl)) (DE.toA Zk))) (DE.toA (Z3 (i:=2) rfl))) (by decide))
   (Zht (i:=5) rfl rfl (DE.toA (Z3 (i:=6) rfl)) (DE.toA Zk))) rfl rfl rfl rfl))
   (Jy (Zgn (Zn (Zcz (i:=5) rfl) (Zn (DE.PF (Z3 (i:=6) rfl)) ZO))))))))))), ?_⟩
 refine Pm.ref Zs4 (g:=fun xs=>_) ?_
 rintro⟨ns,p⟩ ⟨h0,h1,h2⟩
 simp only at h0 h1 h2
 simp only[Zs4]
 walk_at "pu"
 rw[Uo h0 h1]
 walk_at "pu"
 rw[Zjg (ZjY 3 (by omega) (by omega))]
 walk_at "pu"
 rw[Uo h0 h1]
 walk_at "pu"
 rw[ZcS (show (0:Int)<ns.length by omega)]
 walk_at "pu"
 rw[Zeu (by simp;omega)]
 walk_at "pu"
 have hc:Zf7 (fun x=>ZpM x (.int (ns.getD p.toNat 0/ns.length))) (ns.map PV.int)=.ok ((ns.map fun z=>z+ns.getD p.toNat 0/ns.length).map PV.int):=by
  rw[ZcZ (g:=fun x=>match x with|.int z=>PV.int (z+ns.getD p.toNat 0/ns.length)|_=>.non)]
  ·simp[Function.comp_def]
  ·intro x hx
   obtain⟨z,_,rfl⟩:=Z1e.mp hx
   rfl
 rw[hc]
 walk_at "pu"
 rw[Zbw h0 (by simp;omega),Zg7 h0 h1]
 walk_at "pu"
 have o0:=Z1g (ns.getD p.toNat 0) (show (ns.length:Int)≠0 by omega)
 have o1:=Z1h (ns.getD p.toNat 0) (show (0:Int)<ns.length by omega)
 rw[ZgL (by omega)]
 walk_at "pu"
 generalize hs:ns.getD p.toNat 0/ns.length=rounds
 generalize ho:ns.getD p.toNat 0%ns.length=over at o0 o1
 generalize hb:(fun(x:PV) (ρ:List PV)=>_)=body
 obtain⟨ρ',e1,e2⟩:=Zho (b:=body) (xs:=ZhC 0 over.toNat) (ρ:=[.lst (ns.map PV.int),.int p,.int ns.length,.int rounds,.int over,.lst ((tab ns.length (ZeF ns p 0)).map PV.int),.int p,.non])
  (fun i ρ=>∃v,ρ=[.lst (ns.map PV.int),.int p,.int ns.length,.int rounds,.int over,.lst ((tab ns.length (ZeF ns p i)).map PV.int),.int ((p+i)%ns.length),v]) ⟨_,by rw[Z1A,Int.add_zero,Z1c h0 h1]⟩ (by
  rintro i x ρ hx ⟨v,rfl⟩
  obtain⟨hi,rfl⟩:=ZbV hx
  subst hb
  have m1:=Zcw h0 h1 (show (0:Int)<=i by omega) (by omega)
  have m2:=Zcw h0 h1 (show (0:Int)<=(i:Int)+1 by omega) (by omega)
  have e:((p+(i:Int))%ns.length+1)%ns.length=(p+((i:Int)+1))%ns.length:=by
   rw[m1,m2]
   split
   ·rw[show p+(i:Int)+1=p+((i:Int)+1) by omega,m2]
   ·rw[Z1c (by omega) (by omega)];split<;>omega
  have b:0<=(p+((i:Int)+1))%ns.length/\(p+((i:Int)+1))%ns.length<ns.length:=by rw[m2];split<;>omega
  walk_at "pu"
  rw[ZcS (by omega)]
  walk_at "pu"
  rw[e,Uo b.1 (by rw[Jc];exact b.2)]
  walk_at "pu"
  rw[ZbJ (by omega)]
  have hst:=Zg8 h0 h1 (i:=i) (by omega)
  have hset:=Zbw (ns:=tab ns.length (ZeF ns p i)) (k:=(p+((i:Int)+1))%ns.length) (y:=ZeF ns p i ((p+((i:Int)+1))%ns.length).toNat+1) b.1 (by rw[Jc];exact b.2)
  rw[hst] at hset
  rw[hset]
  walk_at "pu"
  exact ZeR ⟨_,by rw[show ((i+1:Nat):Int)=(i:Int)+1 by omega]⟩)
 obtain⟨v,rfl⟩:=e2
 rw[e1]
 walk_at "pu"
 rw[ZaQ,Z1k o0]
 show Rr.ok (PV.tup _)=Rr.ok (PV.tup _)
 unfold ZbO ZiE ZiC
 rw[ho]
theorem Ztx {ns:List Int}{p:Int} (h:0<=p/\p<ns.length/\ns.length<=1000):Zs4.fn [.lst (ns.map PV.int),.int p]=.ok (ZbY (ZbO (ns,p))):=
 Pm.fn_eq Zs4 (ns,p) h fun⟨ns',k'⟩ e=>by
  simp only[Zs4,List.cons.injEq,PV.lst.injEq,PV.int.injEq,and_true] at e ⊢
  rw[JE e.1,e.2]
theorem Zcv:Zs4.calm:=fun a q h=>by (simp only[Zs4] at h;cases h)
noncomputable def Ztw:Pm:=⟨List Int×List Int,fun a=>[.lst (a.1.map PV.int),.lst (a.2.map PV.int)],fun a=>(a.1.length<=1000/\a.2.length<=1000)/\Jh a.1=true/\Jh a.2=true/\a.1.sum≠a.2.sum,fun _=>.exc ("Unlike",.non)⟩
theorem Z0e (T:Txt K mg) {f:Addr}{fd:FuncData} (F:Fun K "way_to" "way_to" Zuc f fd):J5 P w K mg base (CX1 P w) 6 f fd ["board", "other"] (spF K 2 .F (W1 K) Ztw.fn):=by
 have Zrg:=Jz (P:=P) (w:=w) (base:=base) T.Zsx Zsj (fun F=>Zsi T F)
 have ZyZ:=Jz (P:=P) (w:=w) (base:=base) T.ZyI Zyk (fun F=>ZxX T F)
 have Ztp:=Jz (P:=P) (w:=w) (base:=base) T.Zu2 Zug (fun F=>Zuf T F)
 refine F.okX ZzZ rfl rfl (fun cdv A outer s H E hr=>?_)
 have hu:=hr.units
 refine⟨_,_,⟨[],[],[],.F⟩,rfl,(Zi (ZM (Zx Zrg (hr.mono (by decide)) rfl ZB (Za (pv 0) Zg)))
   (Zi (ZM (Zx Zrg (hr.mono (by decide)) rfl ZB (Za (pv 1) Zg)))
   (Zi (ZM (Zx ZyZ (hr.mono (by decide)) rfl ZB (Za (pv 0) (Za (pv 1) Zg))))
   (Zi (ZM (Zx Ztp (hr.mono (by decide)) rfl ZB (Za (pv 0) Zg)))
   J7)))),
   (Zp (Γm:=[.S,.S,.U,.U]) (ZY (DE.toA (Zc8 (Zf Zm) (Zc (Zd (i:=0) (m:=.S) rfl (by decide)) Zh))))
   (Zp (Γm:=[.S,.S,.U,.U]) (ZY (DE.toA (Zc8 (Zf Zm) (Zc (Zd (i:=1) (m:=.S) rfl (by decide)) Zh))))
   (Zp (Γm:=[.S,.S,.U,.U]) (ZY (DE.toA (Zc8 (Zf (Zf Zm)) (Zc (Zd (i:=0) (m:=.S) rfl (by decide)) (Zc (Zd (i:=1) (m:=.S) rfl (by decide)) Zh)))))
   (Zp (Γm:=[.S,.S,.U,.U]) (ZY (DE.toA (Zc8 (Zf Zm) (Zc (Zd (i:=0) (m:=.S) rfl (by decide)) Zh))))
   JK)))), ?_⟩
 refine Pm.ref Ztw (g:=fun xs=>_) ?_
 rintro⟨b,o⟩ ⟨⟨hb,ho⟩,h1,h2,hn⟩
 simp only at hb ho hn h1 h2
 simp only[Ztw]
 walk_at "pd"
 rw[Zrs hb,if_pos h1]
 walk_at "pd"
 rw[Zrs ho,if_pos h2]
 walk_at "pd"
 rw[Ztb ⟨hb,ho⟩]
 unfold Zn2
 rw[if_neg (fun z=>hn z.2)]
 walk_at "pd"
theorem Zwo {b o:List Int} (h:(b.length<=1000/\o.length<=1000)/\Jh b=true/\Jh o=true/\b.sum≠o.sum):Ztw.fn [.lst (b.map PV.int),.lst (o.map PV.int)]=.exc ("Unlike",.non):=Pm.fn_eq Ztw (b,o) h fun _ _=>rfl
noncomputable def ZsK:Pm:=⟨List Int×Int,fun a=>[.lst (a.1.map PV.int),.int a.2],fun _=>True,fun a=>.ok (.bl (decide (0<=a.2/\a.2<a.1.length)))⟩
theorem Zxu (T:Txt K mg) {f:Addr}{fd:FuncData} (F:Fun K "is_pit" "is_pit" Zue f fd):J5 P w K mg base CX0 3 f fd ["board", "pit"] (spF K 2 .P W0 ZsK.fn):=by
 have ZsH:=Zca (P:=P) (w:=w) (base:=base) T.ZtW ZtF (fun F=>ZtB T F)
 refine F.okP Z0b rfl rfl (fun cdv A outer s H E hr=>?_)
 have hu:=hr.units
 refine⟨_,_,⟨[],[],[],.P⟩,rfl,(Zj (Zz (ZcQ (ZE ZsH (hr.mono (by decide)) rfl (Za (pv 1) (Za Zl Zg))) (ZcP (JV ZkY (pv 1) (Zr (ZK (K:=K)) rfl T.z_len JG (Za (pv 0) Zg)) (Z9 _)))))),
   (ZC (Zdv (DE.toA (ZjU (Zf (Zf Zm)) (Zc (Zd (i:=1) (m:=.S) rfl (by decide)) (Zc (DE.toA Zk) Zh)))) (Zl3 (Zd (i:=1) (m:=.S) rfl (by decide)) (DE.toA (JF (Zc (Zd (i:=0) (m:=.S) rfl (by decide)) Zh)))))), ?_⟩
 refine Pm.ref ZsK (g:=fun xs=>_) ?_
 rintro⟨ns,p⟩ -
 simp only[ZsK]
 walk_at "pd"
 rw[ZrN]
 walk_at "pd"
 by_cases h0:0<=p
 ·rw[decide_eq_true h0]
  walk_at "pd"
  by_cases h1:p<ns.length
  ·rw[decide_eq_true h1,show decide (0<=p/\p<(ns.length:Int))=true from decide_eq_true ⟨h0,h1⟩]
  ·rw[decide_eq_false h1,show decide (0<=p/\p<(ns.length:Int))=false from decide_eq_false (fun z=>h1 z.2)]
 ·rw[decide_eq_false h0,show decide (0<=p/\p<(ns.length:Int))=false from decide_eq_false (fun z=>h0 z.1)]
  walk_at "pd"
theorem Zve {ns:List Int}{p:Int}:ZsK.fn [.lst (ns.map PV.int),.int p]=.ok (.bl (decide (0<=p/\p<ns.length))):=Pm.fn_eq ZsK (ns,p) trivial fun(a:List Int×Int) e=>by (simp only[ZsK,List.cons.injEq,PV.lst.injEq,PV.int.injEq,PV.str.injEq,PV.bl.injEq,PV.tup.injEq,ZN,and_true] at e ⊢;first|(simp only[e];done)|(subst e;rfl)|(rw[e]))
theorem ZeN:ZsK.calm:=fun a q h=>by (simp only[ZsK] at h;cases h)
noncomputable def Zss:Pm:=⟨List Int×Int,fun a=>[.lst (a.1.map PV.int),.int a.2],fun a=>True,fun a=>orX (Zn6 a.1 a.2) .non⟩
theorem ZwP (T:Txt K mg) {f:Addr}{fd:FuncData} (F:Fun K "check_pit" "check_pit" Zs9 f fd):J5 P w K mg base (CX1 P w) 4 f fd ["board", "pit"] (spF K 2 .P (W1 K) Zss.fn):=by
 have Zwr:=Zca (P:=P) (w:=w) (base:=base) T.ZyF ZxB (fun F=>Zxu T F)
 obtain⟨C_BadPit,hC_BadPit,hQ_BadPit⟩:=J6 T.x_exc (n := "BadPit") (by decide)
 refine F.okX Zzf rfl rfl (fun cdv A outer s H E hr=>?_)
 have hu:=hr.units
 refine⟨_,_,⟨[.S,.S],[],[],.P⟩,rfl,(Zj (Jo (JZ (JN (ZE Zwr (hr.mono (by decide)) rfl (Za (pv 0) (Za (pv 1) Zg))))) (Zj (Jj J3 hQ_BadPit rfl (T.x_mg _ _ hC_BadPit) rfl (Za Z6 Zg))) Z7)),
   (Jp (Vi (Ze7 (DE.toA (ZjK (Zf (Zf Zm)) (Pm.calm_fn ZeN) (Zc (Zd (i:=0) (m:=.S) rfl (by decide)) (Zc (Zd (i:=1) (m:=.S) rfl (by decide)) Zh))))))
   (Jk hC_BadPit (Zf Zm) (by decide) (Zc (DE.toA Z5) Zh))
   Z8), ?_⟩
 refine Pm.ref Zss (g:=fun xs=>_) ?_
 rintro⟨ns,p⟩ -
 simp only[Zss]
 walk_at "pd"
 rw[Zve]
 walk_at "pd"
 by_cases h:0<=p/\p<ns.length
 ·rw[decide_eq_true h,show Zn6 ns p=none from if_pos h];walk_at "pd" <;> rfl
 ·rw[decide_eq_false h,show Zn6 ns p=(some "BadPit":Option Str) from if_neg h];walk_at "pd" <;> rfl
theorem Ztn {ns:List Int}{p:Int}:Zss.fn [.lst (ns.map PV.int),.int p]=orX (Zn6 ns p) .non:=Pm.fn_eq Zss (ns,p) trivial fun(a:List Int×Int) e=>by (simp only[Zss,List.cons.injEq,PV.lst.injEq,PV.int.injEq,PV.str.injEq,PV.bl.injEq,PV.tup.injEq,ZN,and_true] at e ⊢;first|(simp only[e];done)|(subst e;rfl)|(rw[e]))
noncomputable def Zro:Pm:=⟨List Int×Int,fun a=>[.lst (a.1.map PV.int),.int a.2],fun a=>a.1.length<=1000,fun a=>orX (stX a.1 a.2) .non⟩
theorem Zu1 (T:Txt K mg) {f:Addr}{fd:FuncData} (F:Fun K "check_standing" "check_standing" Zrt f fd):J5 P w K mg base (CX1 P w) 6 f fd ["board", "pit"] (spF K 2 .P (W1 K) Zro.fn):=by
 have Zrg:=Jz (P:=P) (w:=w) (base:=base) T.Zsx Zsj (fun F=>Zsi T F)
 have Zwi:=Jz (P:=P) (w:=w) (base:=base) T.Zx7 ZwR (fun F=>ZwP T F)
 obtain⟨C_NoSeeds,hC_NoSeeds,hQ_NoSeeds⟩:=J6 T.x_exc (n := "NoSeeds") (by decide)
 refine F.okX Zws rfl rfl (fun cdv A outer s H E hr=>?_)
 have hu:=hr.units
 refine⟨_,_,⟨[.S,.S],[],[],.P⟩,rfl,(Zi (ZM (Zx Zrg (hr.mono (by decide)) rfl ZB (Za (pv 0) Zg)))
   (Zi (ZM (Zx Zwi (hr.mono (by decide)) rfl ZB (Za (pv 0) (Za (pv 1) Zg))))
   (Zj (Jo (Z2 (Js (K:=K) hu) (Uk (Jq (K:=K)) (pv 0) (pv 1) (fun _ _=>rfl)) Zl (Z9 _)) (Zj (Jj J3 hQ_NoSeeds rfl (T.x_mg _ _ hC_NoSeeds) rfl (Za Z6 Zg))) Z7)))),
   (Zp (Γm:=[.S,.S]) (ZY (DE.toA (Zc8 (Zf Zm) (Zc (Zd (i:=0) (m:=.S) rfl (by decide)) Zh))))
   (Zp (Γm:=[.S,.S]) (ZY (DE.toA (Zc8 (Zf (Zf Zm)) (Zc (Zd (i:=0) (m:=.S) rfl (by decide)) (Zc (Zd (i:=1) (m:=.S) rfl (by decide)) Zh)))))
   (Jp (Z1 (DE.toA (Jb (g:=id) (JH (te:=tC .non) (Zd (i:=0) (m:=.S) rfl (by decide)) (Zd (i:=1) (m:=.S) rfl (by decide))) (DE.toA Zk))))
   (Jk hC_NoSeeds (Zf Zm) (by decide) (Zc (DE.toA Z5) Zh))
   Z8))), ?_⟩
 refine Pm.ref Zro (g:=fun xs=>_) ?_
 rintro⟨ns,p⟩ (hn:ns.length<=1000)
 simp only[Zro]
 walk_at "pu"
 rw[Zrs hn,stX]
 by_cases h:Jh ns=true
 ·rw[if_pos h,if_pos h]
  simp only[orX]
  walk_at "pu"
  rw[Ztn,Zn6]
  by_cases h1:0<=p/\p<ns.length
  ·rw[if_pos h1,if_pos h1]
   simp only[orX]
   walk_at "pu"
   rw[Uo h1.1 h1.2]
   walk_at "pu"
   by_cases h2:ns.getD p.toNat 0=0
   ·rw[decide_eq_true h2,if_pos h2];walk_at "pu"
   ·rw[decide_eq_false h2,if_neg h2];walk_at "pu"
  ·rw[if_neg h1,if_neg h1]
   simp only[orX]
   walk_at "pu"
 ·rw[if_neg h,if_neg h]
  simp only[orX]
  walk_at "pu"
theorem ZrR {ns:List Int}{p:Int} (h:ns.length<=1000):Zro.fn [.lst (ns.map PV.int),.int p]=orX (stX ns p) .non:=Pm.fn_eq Zro (ns,p) h fun⟨ns',k'⟩ e=>by
 simp only[Zro,List.cons.injEq,PV.lst.injEq,PV.int.injEq,and_true] at e ⊢
 rw[JE e.1,e.2]
noncomputable def Zt4:Pm:=⟨List Int×Int,fun a=>[.lst (a.1.map PV.int),.int a.2],fun a=>a.1.length<=1000,fun a=>orX (stX a.1 a.2) (ZbY (ZbO a))⟩
theorem Z00 (T:Txt K mg) {f:Addr}{fd:FuncData} (F:Fun K "sown" "sown" ZwO f fd):J5 P w K mg base (CX1 P w) 7 f fd ["board", "pit"] (spF K 2 .F (W1 K) Zt4.fn):=by
 have ZtJ:=Jz (P:=P) (w:=w) (base:=base) T.Zvp Zu8 (fun F=>Zu1 T F)
 have Zu9:=Zca (P:=P) (w:=w) (base:=base) T.Zx4 ZwE (fun F=>Zw5 T F)
 refine F.okX Z0x rfl rfl (fun cdv A outer s H E hr=>?_)
 have hu:=hr.units
 refine⟨_,_,⟨[],[],[],.F⟩,rfl,(Zi (ZM (Zx ZtJ (hr.mono (by decide)) rfl ZB (Za (pv 0) (Za (pv 1) Zg))))
   (Zj (Zz (ZE Zu9 (hr.mono (by decide)) rfl (Za (pv 0) (Za (pv 1) Zg)))))),
   (Zp (Γm:=[.S,.S]) (ZY (DE.toA (Zc8 (Zf (Zf Zm)) (Zc (Zd (i:=0) (m:=.S) rfl (by decide)) (Zc (Zd (i:=1) (m:=.S) rfl (by decide)) Zh)))))
   (Jy (ZnA (Zf (Zf Zm)) (Pm.calm_fn Zcv) (Zc (Zd (i:=0) (m:=.S) rfl (by decide)) (Zc (Zd (i:=1) (m:=.S) rfl (by decide)) Zh))))), ?_⟩
 refine Pm.ref Zt4 (g:=fun xs=>_) ?_
 rintro⟨ns,p⟩ (hn:ns.length<=1000)
 simp only[Zt4]
 walk_at "pu"
 rw[ZrR hn]
 cases h:stX ns p with
 |some n=>simp only[orX];walk_at "pu"
 |none =>
  simp only[orX]
  walk_at "pu"
  rw[Ztx (Zg6.mp h).sowOk]
  rfl
theorem Zzp {ns:List Int}{p:Int} (h:ns.length<=1000):Zt4.fn [.lst (ns.map PV.int),.int p]=orX (stX ns p) (ZbY (ZbO (ns,p))):=
 Pm.fn_eq Zt4 (ns,p) h fun⟨ns',k'⟩ e=>by
  simp only[Zt4,List.cons.injEq,PV.lst.injEq,PV.int.injEq,and_true] at e ⊢
  rw[JE e.1,e.2]
noncomputable def riB (l:List Int):Bool:=(List.range (l.length-1)).all fun i=>decide (l.getD i 0<l.getD (i+1) 0)
noncomputable def ZrD:Pm:=⟨List Int,fun a=>[.lst (a.map PV.int)],fun a=>a.length<=100000,fun a=>.ok (.bl (riB a))⟩
theorem Zzh (T:Txt K mg) {f:Addr}{fd:FuncData} (F:Fun K "is_rising" "is_rising" Zs7 f fd):J5 P w K mg base CX0 1 f fd ["numbers"] (spF K 1 .P W0 ZrD.fn):=by
 refine F.okP ZwM rfl rfl (fun cdv A outer s H E hr=>?_)
 have hu:=hr.units
 refine⟨_,_,⟨[],[],[],.P⟩,rfl,(Zj (Zz (Zr (Ui (K:=K) rfl) rfl T.z_all Zd2 (Za (Um (Zbv rfl T.z_range (Za (ZF ZcU (Zr (ZK (K:=K)) rfl T.z_len JG (Za (pv 0) Zg)) Zl) Zg)) (fun _ _ _ _=>(JV ZkY (Uk (Jq (K:=K)) (pv 0) (pv 1) (fun _ _=>rfl)) (Uk (Jq (K:=K)) (pv 0) (ZF JO (pv 1) Zl) (fun _ _=>rfl)) (Z9 _))) ZwM.nd rfl) Zg)))),
   (ZC (Zdw (Zc (DE.toA (JL (DI.c (Zds (Zc (DE.toA (Zdu (DE.toA (JF (Zc (Zd (i:=0) (m:=.S) rfl (by decide)) Zh))) (DE.toA Zk))) Zh))) (DE.PF (Zl3 (JH (te:=tC .non) (Zd (i:=0) (m:=.S) rfl (by decide)) (Zd (i:=1) (m:=.S) rfl (by decide))) (JH (te:=tC .non) (Zd (i:=0) (m:=.S) rfl (by decide)) (DE.toA (JR (Zd (i:=1) (m:=.S) rfl (by decide)) (DE.toA Zk)))))))) Zh))), ?_⟩
 refine Pm.ref ZrD (g:=fun xs=>_) ?_
 rintro(l:List Int) (hl:l.length<=100000)
 simp only[ZrD]
 walk_at "pd"
 rw[Zle (g:=fun(i:Nat)=>PV.bl (decide (l.getD i 0<l.getD (i+1) 0))) (fun i hi=>by
  rw[Int.zero_add]
  walk_at "pd"
  rw[Int.toNat_natCast,show ((i:Int)+1).toNat=i+1 by omega])]
 rw[show (List.range ((l.length:Int)-1).toNat).map (fun(i:Nat)=>PV.bl (decide (l.getD i 0<l.getD (i+1) 0)))=((List.range (l.length-1)).map fun(i:Nat)=>decide (l.getD i 0<l.getD (i+1) 0)).map PV.bl by rw[Z11,show ((l.length:Int)-1).toNat=l.length-1 by omega];rfl]
 walk_at "pd"
 unfold riB
 rw[List.all_map];rfl
theorem ZtX {l:List Int} (h:l.length<=100000):ZrD.fn [.lst (l.map PV.int)]=.ok (.bl (riB l)):=Pm.fn_eq ZrD l h fun(a:List Int) e=>by (simp only[ZrD,List.cons.injEq,PV.lst.injEq,PV.int.injEq,PV.str.injEq,PV.bl.injEq,PV.tup.injEq,ZN,and_true] at e ⊢;first|(simp only[e];done)|(subst e;rfl)|(rw[e]))
theorem ZeM:ZrD.calm:=fun a q h=>by (simp only[ZrD] at h;cases h)
def Zkm (n:Nat) (l:List Int):Prop:=(∀p∈l,0<=p/\p<n)/\riB l=true/\l.length≠0/\l.length≠n
noncomputable instance (n:Nat) (l:List Int):Decidable (Zkm n l):=by unfold Zkm;infer_instance
noncomputable def Zpz (n:Nat) (l:List Int):Option Str:=if Zkm n l then none else some "BadPits"
theorem Zns {n:Nat}{l:List Int} (h:Zkm n l):Zpz n l=none:=if_pos h
theorem Zd3 {n:Nat}{l:List Int} (h:¬Zkm n l):Zpz n l=(some "BadPits":Option Str):=if_neg h
noncomputable def Zr3:Pm:=⟨List Int×List Int,fun a=>[.lst (a.1.map PV.int),.lst (a.2.map PV.int)],fun a=>a.1.length<=1000/\a.2.length<=1000,fun a=>orX (Zpz a.1.length a.2) .non⟩
theorem Zxw (T:Txt K mg) {f:Addr}{fd:FuncData} (F:Fun K "check_barred" "check_barred" ZrA f fd):J5 P w K mg base (CX1 P w) 4 f fd ["board", "barred"] (spF K 2 .P (W1 K) Zr3.fn):=by
 have ZzC:=Zca (P:=P) (w:=w) (base:=base) T.Zz5 Zzq (fun F=>Zzh T F)
 have Zwr:=Zca (P:=P) (w:=w) (base:=base) T.ZyF ZxB (fun F=>Zxu T F)
 obtain⟨C_BadPits,hC_BadPits,hQ_BadPits⟩:=J6 T.x_exc (n := "BadPits") (by decide)
 refine F.okX Zvr rfl rfl (fun cdv A outer s H E hr=>?_)
 have hu:=hr.units
 refine⟨_,_,⟨[.S,.S],[],[],.P⟩,rfl,(Zi (Jo (PW.pt (ZbW (JZ (JN (Zr (Zb3 (K:=K) (n := "list") rfl) rfl T.z_isinstance Zw (Za (pv 1) (Za (Zcu (v:=.ty "list") rfl T.z_list Zd0 rfl) Zg))))) (ZaW (JZ (JN (Zr (Ui (K:=K) rfl) rfl T.z_all Zd2 (Za (Um (Ul (K:=K) (pv 1)) (fun _ _ _ _=>(ZE Zwr (hr.mono (by decide)) rfl (Za (pv 0) (Za (pv 2) Zg)))) Zvr.nd rfl) Zg))))))) (Zj (Jj J3 hQ_BadPits rfl (T.x_mg _ _ hC_BadPits) rfl (Za Z6 Zg))) Z7)
   (Zi (Jo (JZ (JN (ZE ZzC (hr.mono (by decide)) rfl (Za (pv 1) Zg)))) (Zj (Jj J3 hQ_BadPits rfl (T.x_mg _ _ hC_BadPits) rfl (Za Z6 Zg))) Z7)
   (Zj (Jo (PW.pt (ZbW (Z2 (Js (K:=K) hu) (Zr (ZK (K:=K)) rfl T.z_len JG (Za (pv 1) Zg)) Zl (Z9 _)) (ZaW (Z2 (Js (K:=K) hu) (Zr (ZK (K:=K)) rfl T.z_len JG (Za (pv 1) Zg)) (Zr (ZK (K:=K)) rfl T.z_len JG (Za (pv 0) Zg)) (Z9 _))))) (Zj (Jj J3 hQ_BadPits rfl (T.x_mg _ _ hC_BadPits) rfl (Za Z6 Zg))) Z7)))),
   (Zp (Γm:=[.S,.S]) (Jp (Zcf (Vi (Ze7 (DE.toA (Zfs (Zd (i:=1) (m:=.S) rfl (by decide)))))) (Vi (Ze7 (DE.toA (Zdw (Zc (DE.toA (JL (DI.c (Zdt (Zcy (i:=1) rfl))) (DE.PF (ZjK (Zf (Zf Zm)) (Pm.calm_fn ZeN) (Zc (Zd (i:=0) (m:=.S) rfl (by decide)) (Zc (Zd (i:=2) (m:=.S) rfl (by decide)) Zh)))))) Zh))))))
   (Jk hC_BadPits (Zf Zm) (by decide) (Zc (DE.toA Z5) Zh))
   Z8)
   (Zp (Γm:=[.S,.S]) (Jp (Vi (Ze7 (DE.toA (ZjK (Zf Zm) (Pm.calm_fn ZeM) (Zc (Zd (i:=1) (m:=.S) rfl (by decide)) Zh)))))
   (Jk hC_BadPits (Zf Zm) (by decide) (Zc (DE.toA Z5) Zh))
   Z8)
   (Jp (Zcf (Z1 (DE.toA (Jb (g:=id) (DE.toA (JF (Zc (Zd (i:=1) (m:=.S) rfl (by decide)) Zh))) (DE.toA Zk)))) (Z1 (DE.toA (Jb (g:=id) (DE.toA (JF (Zc (Zd (i:=1) (m:=.S) rfl (by decide)) Zh))) (DE.toA (JF (Zc (Zd (i:=0) (m:=.S) rfl (by decide)) Zh)))))))
   (Jk hC_BadPits (Zf Zm) (by decide) (Zc (DE.toA Z5) Zh))
   Z8))), ?_⟩
 refine Pm.ref Zr3 (g:=fun xs=>_) ?_
 rintro⟨b,l⟩ ⟨hb,hl⟩
 simp only at hb hl
 simp only[Zr3]
 walk_at "pd"
 rw[Zga (g:=fun z=>decide (0<=z/\z<(b.length:Int))) (fun z _=>Zve)]
 walk_at "pd"
 rw[Zgu]
 by_cases h1:∀x∈l,0<=x/\x<(b.length:Int)
 ·rw[decide_eq_true h1]
  walk_at "pd"
  rw[ZtX (by omega)]
  walk_at "pd"
  by_cases h2:riB l=true
  ·rw[h2]
   walk_at "pd"
   by_cases h3:l.length=0
   ·rw[decide_eq_true (show (l.length:Int)=0 by omega),Zd3 (fun z=>z.2.2.1 h3)]
    walk_at "pd"
   ·rw[decide_eq_false (show ¬(l.length:Int)=0 by omega)]
    walk_at "pd"
    by_cases h4:l.length=b.length
    ·rw[decide_eq_true (show (l.length:Int)=b.length by omega),Zd3 (fun z=>z.2.2.2 h4)]
     walk_at "pd"
    ·rw[decide_eq_false (show ¬(l.length:Int)=b.length by omega),Zns ⟨h1,h2,h3,h4⟩]
     walk_at "pd"
  ·rw[eq_false_of_ne_true h2,Zd3 (fun z=>h2 z.2.1)]
   walk_at "pd"
 ·rw[decide_eq_false h1,Zd3 (fun z=>h1 z.1)]
  walk_at "pd"
theorem ZsM {b l:List Int} (h:b.length<=1000/\l.length<=1000):Zr3.fn [.lst (b.map PV.int),.lst (l.map PV.int)]=orX (Zpz b.length l) .non:=Pm.fn_eq Zr3 (b,l) h fun(a:List Int×List Int) e=>by (simp only[Zr3,List.cons.injEq,PV.lst.injEq,PV.int.injEq,PV.str.injEq,PV.bl.injEq,PV.tup.injEq,ZN,and_true] at e ⊢;first|(simp only[e];done)|(subst e;rfl)|(rw[e]))
noncomputable def Zsv:Pm:=⟨List Int×List Int,fun a=>[.lst (a.1.map PV.int),.lst (a.2.map PV.int)],fun a=>(a.1.length<=1000/\a.2.length<=1000)/\Jh a.1=true/\¬Zkm a.1.length a.2,fun _=>.exc ("BadPits",.non)⟩
theorem Zy8 (T:Txt K mg) {f:Addr}{fd:FuncData} (F:Fun K "check_play" "check_play" Zso f fd):J5 P w K mg base (CX1 P w) 6 f fd ["board", "barred"] (spF K 2 .P (W1 K) Zsv.fn):=by
 have Zrg:=Jz (P:=P) (w:=w) (base:=base) T.Zsx Zsj (fun F=>Zsi T F)
 have Zys:=Jz (P:=P) (w:=w) (base:=base) T.Zyf ZxD (fun F=>Zxw T F)
 refine F.okX Zyy rfl rfl (fun cdv A outer s H E hr=>?_)
 have hu:=hr.units
 refine⟨_,_,⟨[],[],[],.P⟩,rfl,(Zi (ZM (Zx Zrg (hr.mono (by decide)) rfl ZB (Za (pv 0) Zg)))
   (Zi (ZM (Zx Zys (hr.mono (by decide)) rfl ZB (Za (pv 0) (Za (pv 1) Zg))))
   J7)),
   (Zp (Γm:=[.S,.S]) (ZY (DE.toA (Zc8 (Zf Zm) (Zc (Zd (i:=0) (m:=.S) rfl (by decide)) Zh))))
   (Zp (Γm:=[.S,.S]) (ZY (DE.toA (Zc8 (Zf (Zf Zm)) (Zc (Zd (i:=0) (m:=.S) rfl (by decide)) (Zc (Zd (i:=1) (m:=.S) rfl (by decide)) Zh)))))
   JK)), ?_⟩
 refine Pm.ref Zsv (g:=fun xs=>_) ?_
 rintro⟨b,l⟩ ⟨⟨hb,hl⟩,h1,h2⟩
 simp only at hb hl h1 h2
 simp only[Zsv]
 walk_at "pd"
 rw[Zrs hb,if_pos h1]
 walk_at "pd"
 rw[ZsM ⟨hb,hl⟩,Zd3 h2]
 walk_at "pd"
theorem Zt0 {b l:List Int} (h:(b.length<=1000/\l.length<=1000)/\Jh b=true/\¬Zkm b.length l):Zsv.fn [.lst (b.map PV.int),.lst (l.map PV.int)]=.exc ("BadPits",.non):=Pm.fn_eq Zsv (b,l) h fun _ _=>rfl
noncomputable def Ztj:Pm:=⟨List Int×List Int,fun a=>[.lst (a.1.map PV.int),.lst (a.2.map PV.int)],fun a=>(a.1.length<=1000/\a.2.length<=1000)/\Jh a.1=true/\¬Zkm a.1.length a.2,fun _=>.exc ("BadPits",.non)⟩
theorem ZzK (T:Txt K mg) {f:Addr}{fd:FuncData} (F:Fun K "come_to" "come_to" Ztv f fd):J5 P w K mg base (CX1 P w) 7 f fd ["board", "barred"] (spF K 2 .F (W1 K) Ztj.fn):=by
 have Zzu:=Jz (P:=P) (w:=w) (base:=base) T.Zzl ZyQ (fun F=>Zy8 T F)
 refine F.okX ZzG rfl rfl (fun cdv A outer s H E hr=>?_)
 have hu:=hr.units
 refine⟨_,_,⟨[],[],[],.F⟩,rfl,(Zi (ZM (Zx Zzu (hr.mono (by decide)) rfl ZB (Za (pv 0) (Za (pv 1) Zg))))
   J7),
   (Zp (Γm:=[.S,.S]) (ZY (DE.toA (Zc8 (Zf (Zf Zm)) (Zc (Zd (i:=0) (m:=.S) rfl (by decide)) (Zc (Zd (i:=1) (m:=.S) rfl (by decide)) Zh)))))
   JK), ?_⟩
 refine Pm.ref Ztj (g:=fun xs=>_) ?_
 rintro⟨b,l⟩ h
 simp only[Ztj]
 walk_at "pd"
 rw[Zt0 h]
 walk_at "pd"
theorem ZvG {b l:List Int} (h:(b.length<=1000/\l.length<=1000)/\Jh b=true/\¬Zkm b.length l):Ztj.fn [.lst (b.map PV.int),.lst (l.map PV.int)]=.exc ("BadPits",.non):=Pm.fn_eq Ztj (b,l) h fun _ _=>rfl
noncomputable def ZsW:Pm:=⟨List Int×List Int,fun a=>[.lst (a.1.map PV.int),.lst (a.2.map PV.int)],fun a=>(a.1.length<=1000/\a.2.length<=1000)/\Jh a.1=true/\¬Zkm a.1.length a.2,fun _=>.exc ("BadPits",.non)⟩
theorem ZzI (T:Txt K mg) {f:Addr}{fd:FuncData} (F:Fun K "ends_of" "ends_of" Ztt f fd):J5 P w K mg base (CX1 P w) 8 f fd ["board", "barred"] (spF K 2 .F (W1 K) ZsW.fn):=by
 have Z0s:=Jz (P:=P) (w:=w) (base:=base) T.Z0k ZzT (fun F=>ZzK T F)
 refine F.okX Zyv rfl rfl (fun cdv A outer s H E hr=>?_)
 have hu:=hr.units
 refine⟨_,_,⟨[],[],[],.F⟩,rfl,(Zi (ZW (i:=2) Zyv.nd rfl (by first|exact Or.inl rfl|exact Or.inr rfl) (Zx Z0s (hr.mono (by decide)) rfl ZB (Za (pv 0) (Za (pv 1) Zg))))
   J7),
   (Zp (Γm:=[.S,.S,.O,.U]) (JA (i:=2) (Zhr (Zf (Zf Zm)) (Zc (Zd (i:=0) (m:=.S) rfl (by decide)) (Zc (Zd (i:=1) (m:=.S) rfl (by decide)) Zh))) (by decide))
   JK), ?_⟩
 refine Pm.ref ZsW (g:=fun xs=>_) ?_
 rintro⟨b,l⟩ h
 simp only[ZsW]
 walk_at "pd"
 rw[ZvG h]
 walk_at "pd"
theorem ZvF {b l:List Int} (h:(b.length<=1000/\l.length<=1000)/\Jh b=true/\¬Zkm b.length l):ZsW.fn [.lst (b.map PV.int),.lst (l.map PV.int)]=.exc ("BadPits",.non):=Pm.fn_eq ZsW (b,l) h fun _ _=>rfl
noncomputable def Zie (n l m:Int):Option Str:=if l<=n/\n<=m then none else some "BadCount"
noncomputable def ZrH:Pm:=⟨Int×Int×Int,fun a=>[.int a.1,.int a.2.1,.int a.2.2],fun _=>True,fun a=>orX (Zie a.1 a.2.1 a.2.2) .non⟩
theorem ZvS (T:Txt K mg) {f:Addr}{fd:FuncData} (F:Fun K "check_count" "check_count" ZrU f fd):J5 P w K mg base (CX1 P w) 3 f fd ["number", "least", "most"] (spF K 3 .P (W1 K) ZrH.fn):=by
 have ZsH:=Zca (P:=P) (w:=w) (base:=base) T.ZtW ZtF (fun F=>ZtB T F)
 obtain⟨C_BadCount,hC_BadCount,hQ_BadCount⟩:=J6 T.x_exc (n := "BadCount") (by decide)
 refine F.okX ZxQ rfl rfl (fun cdv A outer s H E hr=>?_)
 have hu:=hr.units
 refine⟨_,_,⟨[.S,.S,.S],[],[],.P⟩,rfl,(Zj (Jo (PW.pt (ZbW (JZ (JN (ZE ZsH (hr.mono (by decide)) rfl (Za (pv 0) (Za (pv 1) Zg))))) (ZaW (Z2 ZbZ (pv 0) (pv 2) (Z9 _))))) (Zj (Jj J3 hQ_BadCount rfl (T.x_mg _ _ hC_BadCount) rfl (Za Z6 Zg))) Z7)),
   (Jp (Zcf (Vi (Ze7 (DE.toA (ZjK (Zf (Zf Zm)) (Pm.calm_fn Zc7) (Zc (Zd (i:=0) (m:=.S) rfl (by decide)) (Zc (Zd (i:=1) (m:=.S) rfl (by decide)) Zh)))))) (Z1 (DE.toA (Zch (Zd (i:=0) (m:=.S) rfl (by decide)) (Zd (i:=2) (m:=.S) rfl (by decide))))))
   (Jk hC_BadCount (Zf Zm) (by decide) (Zc (DE.toA Z5) Zh))
   Z8), ?_⟩
 refine Pm.ref ZrH (g:=fun xs=>_) ?_
 rintro⟨n,l,m⟩ -
 simp only[ZrH]
 walk_at "pd"
 rw[ZrN]
 walk_at "pd"
 by_cases h0:l<=n
 ·rw[decide_eq_true h0]
  walk_at "pd"
  by_cases h1:n<=m
  ·rw[decide_eq_false (by omega),show Zie n l m=none from if_pos ⟨h0,h1⟩];walk_at "pd" <;> rfl
  ·rw[decide_eq_true (by omega),show Zie n l m=(some "BadCount":Option Str) from if_neg (fun z=>h1 z.2)];walk_at "pd" <;> rfl
 ·rw[decide_eq_false h0,show Zie n l m=(some "BadCount":Option Str) from if_neg (fun z=>h0 z.1)];walk_at "pd" <;> rfl
theorem Zsy {n l m:Int}:ZrH.fn [.int n,.int l,.int m]=orX (Zie n l m) .non:=Pm.fn_eq ZrH (n,l,m) trivial fun(a:Int×Int×Int) e=>by (simp only[ZrH,List.cons.injEq,PV.lst.injEq,PV.int.injEq,PV.str.injEq,PV.bl.injEq,PV.tup.injEq,ZN,and_true] at e ⊢;first|(simp only[e];done)|(subst e;rfl)|(rw[e]))
noncomputable def szX (p s:Int):Option Str:=match Zie p 2 24 with
 |some n=>some n
 |none=>Zie s 0 (10^60)
noncomputable def ZrF:Pm:=⟨Int×Int,fun a=>[.int a.1,.int a.2],fun _=>True,fun a=>orX (szX a.1 a.2) .non⟩
theorem ZxV (T:Txt K mg) {f:Addr}{fd:FuncData} (F:Fun K "check_sizes" "check_sizes" ZrS f fd):J5 P w K mg base (CX1 P w) 4 f fd ["pits", "seeds"] (spF K 2 .P (W1 K) ZrF.fn):=by
 have ZtL:=Jz (P:=P) (w:=w) (base:=base) T.Zwn ZvT (fun F=>ZvS T F)
 have ZvO:=Zca (P:=P) (w:=w) (base:=base) T.ZwQ Zwq (fun F=>Zwm T F)
 refine F.okX ZxO rfl rfl (fun cdv A outer s H E hr=>?_)
 have hu:=hr.units
 refine⟨_,_,⟨[.S,.S],[],[],.P⟩,rfl,(Zi (ZM (Zx ZtL (hr.mono (by decide)) rfl ZB (Za (pv 0) (Za (JI T.c_FEWEST_PITS rfl) (Za (JI T.c_MOST_PITS rfl) Zg)))))
   (Zj (ZM (Zx ZtL (hr.mono (by decide)) rfl ZB (Za (pv 1) (Za Zl (Za (ZeL ZvO (hr.mono (by decide)) rfl) Zg))))))),
   (Zp (Γm:=[.S,.S]) (ZY (DE.toA (Zc8 (Zf (Zf (Zf Zm))) (Zc (Zd (i:=0) (m:=.S) rfl (by decide)) (Zc (DE.toA Zk) (Zc (DE.toA Zk) Zh))))))
   (ZY (DE.toA (Zc8 (Zf (Zf (Zf Zm))) (Zc (Zd (i:=1) (m:=.S) rfl (by decide)) (Zc (DE.toA Zk) (Zc (DE.toA (ZjK Zm (Pm.calm_fn Zen) Zh)) Zh))))))), ?_⟩
 refine Pm.ref ZrF (g:=fun xs=>_) ?_
 rintro⟨p,s⟩ -
 simp only[ZrF]
 walk_at "pd"
 rw[Zsy]
 unfold szX
 cases Zie p 2 24 with
 |some n=>walk_at "pd"
 |none =>
  walk_at "pd"
  rw[ZsX]
  walk_at "pd"
  rw[Zsy]
  cases Zie s 0 (10^60) with
  |some n=>walk_at "pd"
  |none=>walk_at "pd"
theorem ZsZ {p s:Int}:ZrF.fn [.int p,.int s]=orX (szX p s) .non:=Pm.fn_eq ZrF (p,s) trivial fun(a:Int×Int) e=>by (simp only[ZrF,List.cons.injEq,PV.lst.injEq,PV.int.injEq,PV.str.injEq,PV.bl.injEq,PV.tup.injEq,ZN,and_true] at e ⊢;first|(simp only[e];done)|(subst e;rfl)|(rw[e]))
noncomputable def Zsh:Pm:=⟨Int×Int,fun a=>[.int a.1,.int a.2],fun a=>szX a.1 a.2=(some "BadCount":Option Str),fun _=>.exc ("BadCount",.non)⟩
theorem ZxZ (T:Txt K mg) {f:Addr}{fd:FuncData} (F:Fun K "board_count" "board_count" ZrY f fd):J5 P w K mg base (CX1 P w) 5 f fd ["pits", "seeds"] (spF K 2 .F (W1 K) Zsh.fn):=by
 have ZyX:=Jz (P:=P) (w:=w) (base:=base) T.ZyG Zyi (fun F=>ZxV T F)
 refine F.okX ZxU rfl rfl (fun cdv A outer s H E hr=>?_)
 have hu:=hr.units
 refine⟨_,_,⟨[],[],[],.F⟩,rfl,(Zi (ZM (Zx ZyX (hr.mono (by decide)) rfl ZB (Za (pv 0) (Za (pv 1) Zg))))
   J7),
   (Zp (Γm:=[.S,.S]) (ZY (DE.toA (Zc8 (Zf (Zf Zm)) (Zc (Zd (i:=0) (m:=.S) rfl (by decide)) (Zc (Zd (i:=1) (m:=.S) rfl (by decide)) Zh)))))
   JK), ?_⟩
 refine Pm.ref Zsh (g:=fun xs=>_) ?_
 rintro⟨p,s⟩ (h:szX p s=(some "BadCount":Option Str))
 simp only[Zsh]
 walk_at "pd"
 rw[ZsZ,h]
 walk_at "pd"
theorem Ztc {p s:Int} (h:szX p s=(some "BadCount":Option Str)):Zsh.fn [.int p,.int s]=.exc ("BadCount",.non):=Pm.fn_eq Zsh (p,s) h fun _ _=>rfl
theorem Zj1:PyData.canLay0 (.str "sow")=true:=by rw[PyData.canLay0];decide +kernel
theorem Zlh:PyData.canLay0 (.str "back")=true:=by rw[PyData.canLay0];decide +kernel
theorem okE_str {w:Str} (h:PyData.canLay0 (.str w)=true):okE (.str w)=true:=by simp[okE,PV.noX,PV.dat,h,PyData.depth]
theorem ZmI {w:Str} (h:PyData.canLay0 (.str w)=true):ZkR id (.str w) (.tup [.str (Str.ofString "sow"),.str (Str.ofString "back")])=.ok (.bl (Zl5 w)):=by
 have e:∀{a b:Str},(a==b)=(b==a):=fun {a b}=>by rw[Bool.eq_iff_iff,beq_iff_eq,beq_iff_eq];exact eq_comm
 have h1:okE (.str (Str.ofString "sow"))=true:=okE_str Zj1
 have h2:okE (.str (Str.ofString "back"))=true:=okE_str Zlh
 unfold ZkR
 simp only[okE_str h,h1,h2,List.all_cons,List.all_nil,Bool.and_self,if_true,Z1N,List.any_nil,PV.dat,PyData.eqv,Bool.or_false,id]
 unfold Zl5
 rw[e (a:=w),e (a:=w) (b := "back")]
noncomputable def Zrr:Pm:=⟨List Int×(Str×Int),fun a=>[.lst (a.1.map PV.int),JC a.2],fun a=>PyData.canLay0 (.str a.2.1)=true,fun a=>.ok (.bl (Zf9 a.1 a.2))⟩
theorem ZxY (T:Txt K mg) {f:Addr}{fd:FuncData} (F:Fun K "can_be_done" "can_be_done" ZrX f fd):J5 P w K mg base CX0 4 f fd ["board", "deed"] (spF K 2 .P W0 Zrr.fn):=by
 have Zwr:=Zca (P:=P) (w:=w) (base:=base) T.ZyF ZxB (fun F=>Zxu T F)
 refine F.okP ZxT rfl rfl (fun cdv A outer s H E hr=>?_)
 have hu:=hr.units
 refine⟨_,_,⟨[],[],[],.P⟩,rfl,(Zi (Jo (PW.pt (ZbW (JZ (JN (Zr (Zb3 (K:=K) (n := "tuple") rfl) rfl T.z_isinstance Zw (Za (pv 1) (Za (Zcu (v:=.ty "tuple") rfl T.z_tuple Zl8 rfl) Zg))))) (ZaW (Z2 (Zc3 (K:=K) hu) (Zr (ZK (K:=K)) rfl T.z_len JG (Za (pv 1) Zg)) Zl (Z9 _))))) (Zj (Zz ZfT)) Z7)
   (Zj (Zz (ZcQ (JV (Zmd (K:=K) hu) (Uk (Jq (K:=K)) (pv 1) Zl (fun _ _=>rfl)) (ZcO (Za Z6 (Za Z6 Zg))) rfl) (ZcQ (ZE Zwr (hr.mono (by decide)) rfl (Za (pv 0) (Za (Uk (Jq (K:=K)) (pv 1) Zl (fun _ _=>rfl)) Zg))) (ZcP (JV ZbZ (Uk (Jq (K:=K)) (pv 0) (Uk (Jq (K:=K)) (pv 1) Zl (fun _ _=>rfl)) (fun _ _=>rfl)) Zl (Z9 _)))))))),
   (Zp (Γm:=[.S,.S]) (Jp (Zcf (Vi (Ze7 (DE.toA (Zfs (Zd (i:=1) (m:=.S) rfl (by decide)))))) (Z1 (DE.toA (Jb (g:=(!·)) (DE.toA (JF (Zc (Zd (i:=1) (m:=.S) rfl (by decide)) Zh))) (DE.toA Zk)))))
   (ZC Zgp)
   Z8)
   (ZC (Zdv (DE.toA (Zmp (g:=id) (JH (te:=tC .non) (Zd (i:=1) (m:=.S) rfl (by decide)) (DE.toA Zk)) (Ze0 (Zc (DE.toA Z5) (Zc (DE.toA Z5) Zh))))) (Zdv (DE.toA (ZjU (Zf (Zf Zm)) (Zc (Zd (i:=0) (m:=.S) rfl (by decide)) (Zc (JH (te:=tC .non) (Zd (i:=1) (m:=.S) rfl (by decide)) (DE.toA Zk)) Zh)))) (Zch (JH (te:=tC .non) (Zd (i:=0) (m:=.S) rfl (by decide)) (JH (te:=tC .non) (Zd (i:=1) (m:=.S) rfl (by decide)) (DE.toA Zk))) (DE.toA Zk)))))), ?_⟩
 refine Pm.ref Zrr (g:=fun xs=>_) ?_
 rintro⟨b,w,p⟩ (hw:PyData.canLay0 (.str w)=true)
 simp only[Zrr,JC]
 walk_at "pd"
 rw[ZmI hw]
 walk_at "pd"
 unfold Zf9
 cases hd:Zl5 w with
 |false=>walk_at "pd"
 |true =>
  walk_at "pd"
  rw[Zve]
  walk_at "pd"
  by_cases hp:0<=p/\p<(b.length:Int)
  ·rw[decide_eq_true hp]
   walk_at "pd"
   try rw[Uo hp.1 hp.2]
   try walk_at "pd"
  ·rw[decide_eq_false hp]
   walk_at "pd"
theorem Zsz {b:List Int}{d:Str×Int} (h:PyData.canLay0 (.str d.1)=true):Zrr.fn [.lst (b.map PV.int),JC d]=.ok (.bl (Zf9 b d)):=Pm.fn_eq Zrr (b,d) h fun⟨b',w',p'⟩ e=>by
 obtain⟨w,p⟩:=d
 simp only[Zrr,JC,List.cons.injEq,PV.lst.injEq,PV.tup.injEq,PV.str.injEq,PV.int.injEq,and_true] at e ⊢
 rw[JE e.1,e.2.1,e.2.2]
theorem Zd5:Zrr.calm:=fun a q h=>by (simp only[Zrr] at h;cases h)
noncomputable def Zr1:Pm:=⟨List Int×Int,fun a=>[.lst (a.1.map PV.int),.int a.2],fun a=>0<=a.2/\a.2<a.1.length/\a.1.length<=1000/\∀x∈a.1,0<=x/\x<=10^60,fun a=>.ok (ZbY (tbS a))⟩
theorem Zxt (T:Txt K mg) {f:Addr}{fd:FuncData} (F:Fun K "take_back_at" "take_back_at" Zr8 f fd):J5 P w K mg base CX0 1 f fd ["board", "pit"] (spF K 2 .F W0 Zr1.fn):=by
 refine F.okP Zrx rfl rfl (fun cdv A outer s H E hr=>?_)
 have hu:=hr.units
 refine⟨_,_,⟨[],[],[],.F⟩,rfl,(Zi (ZW (i:=2) Zrx.nd rfl (by first|exact Or.inl rfl|exact Or.inr rfl) (Zr (ZK (K:=K)) rfl T.z_len JG (Za (pv 0) Zg)))
   (Zi (ZW (i:=3) Zrx.nd rfl (by first|exact Or.inl rfl|exact Or.inr rfl) (Zr (Zih (K:=K) rfl) rfl T.z_min Zph (Za (pv 0) Zg)))
   (Zi (ZbK (i:=4) Zrx.nd rfl (Ul (K:=K) (pv 0)) (fun _ _ _ _=>(ZF ZcU (pv 7) (pv 3))) rfl)
   (Zi (ZW (i:=5) Zrx.nd rfl (by first|exact Or.inl rfl|exact Or.inr rfl) (ZF Zjk (pv 3) (pv 2)))
   (Zi (ZW (i:=6) Zrx.nd rfl (by first|exact Or.inl rfl|exact Or.inr rfl) (pv 1))
   (Zi (Zel PassesOwn.never (Z2 ZbZ (Uk (Jq (K:=K)) (pv 4) (pv 6) (fun _ _=>rfl)) Zl (Z9 _)) (Zi (ZiP (pv 4) (pv 6) (Zfk (K:=K)) Zl ZoH ZcA)
   (Zi (ZlQ (i:=5) Zrx.nd rfl (by first|exact Or.inl rfl|exact Or.inr rfl) Zl ZjA)
   (Zj (ZW (i:=6) Zrx.nd rfl (by first|exact Or.inl rfl|exact Or.inr rfl) (ZF J9 (ZF ZcU (pv 6) Zl) (pv 2)))))))
   (Zi (ZlR (pv 5) (ZlS (pv 4) (pv 6) ZcA))
   (Zj (Zz (ZcO (Za (pv 4) (Za (pv 6) Zg)))))))))))),
   (Zp (Γm:=[.S,.S,.P,.U,.U,.U,.U]) (Jt (i:=2) (JF (Zc (Zd (i:=0) (m:=.S) rfl (by decide)) Zh)) (by decide))
   (Zp (Γm:=[.S,.S,.P,.P,.U,.U,.U]) (Jt (i:=3) (ZoX (Zc (Zd (i:=0) (m:=.S) rfl (by decide)) Zh)) (by decide))
   (Zp (Γm:=[.S,.S,.P,.P,.O,.U,.U]) (ZaT (i:=4) (JL (DI.c (Zdt (Zcy (i:=0) rfl))) (DE.PF (Zdu (Zd (i:=7) (m:=.S) rfl (by decide)) (DE.toA (Z3 (i:=3) rfl))))) (by decide))
   (Zp (Γm:=[.S,.S,.P,.P,.O,.P,.U]) (Jt (i:=5) (Zmo (DE.toA (Z3 (i:=3) rfl)) (DE.toA (Z3 (i:=2) rfl))) (by decide))
   (Zp (Γm:=[.S,.S,.P,.P,.O,.P,.P]) (Jt (i:=6) (DE.grd (Zd (i:=1) (m:=.S) rfl (by decide))) (by decide))
   (Zp (Γm:=[.S,.S,.P,.P,.O,.P,.P]) (Zew (Γ:=[.S,.S,.P,.P,.O,.P,.P]) (Z1 (DE.toA (Zch (JH (te:=tC .non) (Zd (i:=4) (m:=.O) rfl (by decide)) (DE.toA (Z3 (i:=6) rfl))) (DE.toA Zk))))
   (Zp (Γm:=[.S,.S,.P,.P,.O,.P,.P]) (Zht (i:=4) rfl rfl (DE.toA (Z3 (i:=6) rfl)) (DE.toA Zk))
   (Zp (Γm:=[.S,.S,.P,.P,.O,.P,.P]) (ZjM (i:=5) rfl (DE.toA Zk))
   (Jt (i:=6) (JB (DE.toA (Zdu (DE.toA (Z3 (i:=6) rfl)) (DE.toA Zk))) (DE.toA (Z3 (i:=2) rfl))) (by decide)))))
   (Zp (Γm:=[.S,.S,.P,.P,.O,.P,.P]) (Zfp (i:=4) rfl (Z3 (i:=5) rfl) (DE.toA (Z3 (i:=6) rfl)))
   (Jy (Zgn (Zn (Zcz (i:=4) rfl) (Zn (DE.PF (Z3 (i:=6) rfl)) ZO))))))))))), ?_⟩
 refine Pm.ref Zr1 (g:=fun xs=>_) ?_
 rintro⟨ns,q⟩ ⟨h0,h1,h2,h3⟩
 simp only at h0 h1 h2 h3
 simp only[Zr1]
 have hne:ns≠[]:=by intro e;rw[e] at h1;simp at h1;omega
 have hm:=h3 _ (Zb6 hne)
 obtain⟨j1,j2,j3⟩:=Zei h0 h1
 walk_at "pu"
 rw[Zjb hne]
 walk_at "pu"
 rw[Zeu (by simp;omega)]
 walk_at "pu"
 have hc:Zf7 (fun x=>ZpH x (.int (Zc5 ns))) (ns.map PV.int)=.ok ((tab ns.length (tbF ns q 0)).map PV.int):=by
  have e:tab ns.length (tbF ns q 0)=ns.map fun z=>z-Zc5 ns:=by
   refine(ZcH (by simp) fun x hx=>?_).symm
   have b:=Z1g (q-(x:Int)) (show (ns.length:Int)≠0 by omega)
   unfold tbF
   rw[if_neg (by omega)]
   simp[Z09,Z0B hx]
  rw[e,ZcZ (g:=fun x=>match x with|.int z=>PV.int (z-Zc5 ns)|_=>.non)]
  ·simp[Function.comp_def]
  ·intro x hx
   obtain⟨z,_,rfl⟩:=Z1e.mp hx
   rfl
 rw[hc]
 walk_at "pu"
 rw[Zja (ZjW 60 3 (by omega) (by omega))]
 walk_at "pu"
 generalize hcd:(fun(ρ:List PV)=>((pIx (gv 4 ρ) (gv 6 ρ)).bind _).bind asB)=cond
 generalize hb:(fun(ρ:List PV)=>RS.seq _ _)=body
 have key:=Ziv (c:=cond) (b:=body) (fun ρ=>∃i:Nat,i<=tbJ ns q/\ρ=[.lst (ns.map PV.int),.int q,.int ns.length,.int (Zc5 ns),.lst ((tab ns.length (tbF ns q i)).map PV.int),.int (Zc5 ns*ns.length+i),.int ((q-i)%ns.length)])
  (fun ρ=>match gv 5 ρ with|.int t=>(Zc5 ns*ns.length+ns.length-t).toNat|_=>0)
  (r:=.next [.lst (ns.map PV.int),.int q,.int ns.length,.int (Zc5 ns),.lst ((tab ns.length (tbF ns q (tbJ ns q))).map PV.int),.int (tbT ns q),.int (tbP ns q)]) (by
  rintro ρ ⟨i,hi,rfl⟩
  have m1:=JJ (n:=ns.length) h0 h1 (show (0:Int)<=i by omega) (by omega)
  have b:0<=(q-(i:Int))%ns.length/\(q-(i:Int))%ns.length<ns.length:=by rw[m1];split<;>omega
  have ix:pIx (.lst ((tab ns.length (tbF ns q i)).map PV.int)) (.int ((q-(i:Int))%ns.length))=.ok (.int (tbG ns q i)):=by
   rw[Uo b.1 (by rw[Jc];exact b.2),ZbJ (by omega),ZlH h0 h1 (by omega)]
  by_cases hij:i=tbJ ns q
  ·left
   subst hij
   constructor
   ·subst hcd
    walk_at "pu"
    rw[ix]
    walk_at "pu"
    rw[j3]
    rfl
   ·rfl
  ·right
   have hlt:i<tbJ ns q:=by omega
   constructor
   ·subst hcd
    walk_at "pu"
    rw[ix]
    walk_at "pu"
    rw[decide_eq_true (j2 i hlt)]
   ·left
    have hst:=Zmz h0 h1 (i:=i) (by omega)
    rw[ZlH h0 h1 (by omega)] at hst
    have hset:=Zbw (ns:=tab ns.length (tbF ns q i)) (k:=(q-(i:Int))%ns.length) (y:=tbG ns q i-1) b.1 (by rw[Jc];exact b.2)
    rw[hst] at hset
    have e2:((q-(i:Int))%ns.length-1)%ns.length=(q-((i+1:Nat):Int))%ns.length:=by
     rw[Int.emod_sub_emod];congr 1;omega
    refine⟨[.lst (ns.map PV.int),.int q,.int ns.length,.int (Zc5 ns),.lst ((tab ns.length (tbF ns q (i+1))).map PV.int),.int (Zc5 ns*ns.length+(i+1:Nat)),.int ((q-(i+1:Nat))%ns.length)],.inl ?_,⟨i+1,by omega,rfl⟩, ?_⟩
    ·subst hb
     walk_at "pu"
     rw[ix]
     walk_at "pu"
     rw[hset]
     walk_at "pu"
     walk_at "pu"
     rw[ZcS (by omega)]
     walk_at "pu"
     rw[e2,show Zc5 ns*(ns.length:Int)+i+1=Zc5 ns*ns.length+(i+1:Nat) by omega]
    ·simp only[Zgj,Zgi]
     omega) _ ⟨0,by omega,by rw[Z1A,Int.add_zero,Int.sub_zero,Z1c h0 h1]⟩
 rw[key]
 have hb2:=Ze9 (ns:=ns) (q:=q) (by omega)
 walk_at "pu"
 rw[Zbw hb2.1 (by rw[Jc];exact hb2.2)]
 walk_at "pu"
 rfl
theorem ZsL {ns:List Int}{q:Int} (h:0<=q/\q<ns.length/\ns.length<=1000/\∀x∈ns,0<=x/\x<=10^60):Zr1.fn [.lst (ns.map PV.int),.int q]=.ok (ZbY (tbS (ns,q))):=
 Pm.fn_eq Zr1 (ns,q) h fun⟨ns',k'⟩ e=>by
  simp only[Zr1,List.cons.injEq,PV.lst.injEq,PV.int.injEq,and_true] at e ⊢
  rw[JE e.1,e.2]
noncomputable def Zs5:Pm:=⟨List Int×Zc2,fun a=>[.lst (a.1.map PV.int),JC a.2],fun a=>Zbs a.1 a.2.2/\PyData.canLay0 (.str a.2.1)=true,fun a=>.ok (ZbY (Zey a.1 a.2))⟩
theorem ZzJ (T:Txt K mg) {f:Addr}{fd:FuncData} (F:Fun K "do_deed" "do_deed" Ztu f fd):J5 P w K mg base CX0 2 f fd ["board", "deed"] (spF K 2 .F W0 Zs5.fn):=by
 have Zyq:=Zca (P:=P) (w:=w) (base:=base) T.Zyd ZxA (fun F=>Zxt T F)
 have Zu9:=Zca (P:=P) (w:=w) (base:=base) T.Zx4 ZwE (fun F=>Zw5 T F)
 refine F.okP ZzF rfl rfl (fun cdv A outer s H E hr=>?_)
 have hu:=hr.units
 refine⟨_,_,⟨[],[],[],.F⟩,rfl,(Zi (Jo (Z2 (Js (K:=K) hu) (Uk (Jq (K:=K)) (pv 1) Zl (fun _ _=>rfl)) Z6 (Z9 _)) (Zj (Zz (ZE Zu9 (hr.mono (by decide)) rfl (Za (pv 0) (Za (Uk (Jq (K:=K)) (pv 1) Zl (fun _ _=>rfl)) Zg))))) Z7)
   (Zj (Zz (ZE Zyq (hr.mono (by decide)) rfl (Za (pv 0) (Za (Uk (Jq (K:=K)) (pv 1) Zl (fun _ _=>rfl)) Zg)))))),
   (Zp (Γm:=[.S,.S]) (Jp (Z1 (DE.toA (Jb (g:=id) (JH (te:=tC .non) (Zd (i:=1) (m:=.S) rfl (by decide)) (DE.toA Zk)) (DE.toA Z5))))
   (Jy (Zqc (Zf (Zf Zm)) (Zc (Zd (i:=0) (m:=.S) rfl (by decide)) (Zc (JH (te:=tC .non) (Zd (i:=1) (m:=.S) rfl (by decide)) (DE.toA Zk)) Zh))))
   Z8)
   (Jy (Zqc (Zf (Zf Zm)) (Zc (Zd (i:=0) (m:=.S) rfl (by decide)) (Zc (JH (te:=tC .non) (Zd (i:=1) (m:=.S) rfl (by decide)) (DE.toA Zk)) Zh))))), ?_⟩
 refine Pm.ref Zs5 (g:=fun xs=>_) ?_
 rintro⟨b,w,p⟩ ⟨hs,hw⟩
 simp only at hs hw
 simp only[Zs5,JC]
 walk_at "pd"
 rw[J1 hw Zj1]
 unfold Zey
 by_cases h:w = "sow"
 ·rw[if_pos h,show (w==Str.ofString "sow")=true from beq_iff_eq.mpr h]
  walk_at "pd"
  rw[Ztx hs.sowOk]
  walk_at "pd"
 ·rw[if_neg h,show (w==Str.ofString "sow")=false from beq_eq_false_iff_ne.mpr h]
  walk_at "pd"
  rw[ZsL hs.tbOk]
  walk_at "pd"
theorem Zu7 {b:List Int}{d:Zc2} (h:Zbs b d.2/\PyData.canLay0 (.str d.1)=true):Zs5.fn [.lst (b.map PV.int),JC d]=.ok (ZbY (Zey b d)):=Pm.fn_eq Zs5 (b,d) h fun⟨b',w',p'⟩ e=>by
 obtain⟨w,p⟩:=d
 simp only[Zs5,JC,List.cons.injEq,PV.lst.injEq,PV.tup.injEq,PV.str.injEq,PV.int.injEq,and_true] at e ⊢
 rw[JE e.1,e.2.1,e.2.2]
theorem ZhE:Zs5.calm:=fun a q h=>by (simp only[Zs5] at h;cases h)
noncomputable def wkO (b:List Int) (ds:List Zc2):Rr PV:=if Jh b=true then (match wkF b ds with|some k=>.exc ("BadPlan",.int (k:Nat))|none=>.ok (.lst ((Zit b ds ds.length).map PV.int))) else .exc ("BadBoard",.non)
theorem ZjP {ds es:List Zc2} (h:ds.map JC=es.map JC):ds=es:=by
 induction ds generalizing es with
 |nil=>cases es with|nil=>rfl|cons e es=>simp at h
 |cons d ds ih =>
  cases es with
  |nil=>simp at h
  |cons e es =>
   obtain⟨w,p⟩:=d
   obtain⟨w',p'⟩:=e
   simp only[Z0R,List.cons.injEq,JC,PV.tup.injEq,PV.str.injEq,PV.int.injEq,and_true] at h
   rw[h.1.1,h.1.2,ih h.2]
noncomputable def ZsJ:Pm:=⟨List Int×List Zc2,fun a=>[.lst (a.1.map PV.int),.lst (a.2.map JC)],fun a=>a.1.length<=1000/\a.2.length<=1000/\∀d∈a.2,PyData.canLay0 (.str d.1)=true,fun a=>wkO a.1 a.2⟩
theorem ZjJ {xs:List PV}{i:Nat}{x:PV} (h:(ZaO xs)[i]?=some x):∃y,xs[i]?=some y/\x=.tup [.int (i:Nat),y]:=by
 unfold ZaO at h
 rw[Z1t] at h
 obtain⟨y,h1,h2⟩:=Z1l.mp h
 exact⟨y,h1,h2.symm⟩
theorem Z0f (T:Txt K mg) {f:Addr}{fd:FuncData} (F:Fun K "walked" "walked" Zud f fd):J5 P w K mg base (CX1 P w) 6 f fd ["board", "plan"] (spF K 2 .F (W1 K) ZsJ.fn):=by
 have Zrg:=Jz (P:=P) (w:=w) (base:=base) T.Zsx Zsj (fun F=>Zsi T F)
 have Zza:=Zca (P:=P) (w:=w) (base:=base) T.ZyJ Zyl (fun F=>ZxY T F)
 have Z0r:=Zca (P:=P) (w:=w) (base:=base) T.Z0j ZzS (fun F=>ZzJ T F)
 obtain⟨C_BadPlan,f_BadPlan,fd_BadPlan,o_BadPlan,hC_BadPlan,hQ_BadPlan,hK_BadPlan,hL_BadPlan,hF_BadPlan,hN_BadPlan,hB_BadPlan⟩:=Zgh (P:=P) (w:=w) (base:=base) T
 refine F.okX Zvq rfl rfl (fun cdv A outer s H E hr=>?_)
 have hu:=hr.units
 refine⟨_,_,⟨[],[],[],.F⟩,rfl,(Zi (ZM (Zx Zrg (hr.mono (by decide)) rfl ZB (Za (pv 0) Zg)))
   (Zi (ZW (i:=2) Zvq.nd rfl (by first|exact Or.inl rfl|exact Or.inr rfl) (ZbX (Zc1 (K:=K)) rfl T.z_list Zd0 (Za (pv 0) Zg)))
   (Zi (ZeK PassesOwn.leaving rfl (Zem (K:=K) rfl T.z_enumerate (Za (pv 1) Zg)) (ZiR rfl (Zb5 (ZaR (i:=3) Zvq.nd rfl (by first|exact Or.inl rfl|exact Or.inr rfl)) (Zb5 (ZaR (i:=4) Zvq.nd rfl (by first|exact Or.inl rfl|exact Or.inr rfl)) ZfS))) (Zi (Jo (JZ (JN (ZE Zza (hr.mono (by decide)) rfl (Za (pv 2) (Za (pv 4) Zg))))) (Zj (ZiO Zlg hQ_BadPlan hK_BadPlan hL_BadPlan hF_BadPlan rfl (T.x_mg _ _ hC_BadPlan) rfl rfl hN_BadPlan (hr.mono (by decide)) hB_BadPlan (Za Z6 (Za (pv 3) Zg)))) Z7)
   (Zj (ZW (i:=2) Zvq.nd rfl (by first|exact Or.inl rfl|exact Or.inr rfl) (Uk (Jq (K:=K)) (ZE Z0r (hr.mono (by decide)) rfl (Za (pv 2) (Za (pv 4) Zg))) Zl (fun _ _=>rfl))))))
   (Zj (Zz (pv 2)))))),
   (Zp (Γm:=[.S,.S,.U,.U,.U]) (ZY (DE.toA (Zc8 (Zf Zm) (Zc (Zd (i:=0) (m:=.S) rfl (by decide)) Zh))))
   (Zp (Γm:=[.S,.S,.O,.U,.U]) (JA (i:=2) (Ze1 (Zc (Zd (i:=0) (m:=.S) rfl (by decide)) Zh)) (by decide))
   (Zp (Γm:=[.S,.S,.O,.U,.U]) (Zfq (Γl:=[.S,.S,.O,.U,.U]) (ZjN (QF (Zcy (i:=1) rfl) Zdx)) rfl (Zmm (n:=2) (ZcC (Znh (i:=3) (by decide)) (ZcC (Znh (i:=4) (by decide)) ZjO)))
   (DS.out (Y:=⟨[.S,.S,.O,.P,.P],[.S,.S,.O,.U,.U],[.S,.S,.O,.U,.U],.F⟩) (Y':=⟨[.S,.S,.O,.U,.U],[.S,.S,.O,.U,.U],[.S,.S,.O,.U,.U],.F⟩) (Zp (Γm:=[.S,.S,.O,.P,.P]) (Jp (Vi (Ze7 (DE.toA (ZjK (Zf (Zf Zm)) (Pm.calm_fn Zd5) (Zc (Zd (i:=2) (m:=.O) rfl (by decide)) (Zc (DE.toA (Z3 (i:=4) rfl)) Zh))))))
   (ZjL hC_BadPlan (Zc (DE.toA Z5) (Zc (DE.toA (Z3 (i:=3) rfl)) Zh)))
   Z8)
   (JA (i:=2) (Zpa (te:=tC .non) (ZnA (Zf (Zf Zm)) (Pm.calm_fn ZhE) (Zc (Zd (i:=2) (m:=.O) rfl (by decide)) (Zc (DE.toA (Z3 (i:=4) rfl)) Zh))) (DE.toA Zk)) (by decide))) rfl rfl rfl rfl))
   (Jy (Zcz (i:=2) rfl))))), ?_⟩
 refine Pm.ref ZsJ (g:=fun xs=>_) ?_
 rintro⟨b,ds⟩ ⟨hb,hds,hl⟩
 simp only at hb hds hl
 simp only[ZsJ]
 walk_at "pd"
 rw[Zrs hb]
 unfold wkO
 by_cases h1:Jh b=true
 ·rw[if_pos h1,if_pos h1]
  have B:=V7.mp h1
  walk_at "pd"
  generalize hw:Zea _ _ _=W
  have hg:∀d,grd (JC d)=.ok (JC d):=fun d=>rfl
  have get:∀{i:Nat}{x:PV},(ZaO (ds.map JC))[i]?=some x->i<ds.length/\x=.tup [.int (i:Nat),JC (ds.getD i ("",0))]:=fun {i x} h=>by
   obtain⟨y,h1,rfl⟩:=ZjJ h
   rw[Z0N] at h1
   obtain⟨d,h2,rfl⟩:=Z1l.mp h1
   refine⟨(Z0X.mp h2).1, ?_⟩
   rw[Z09,h2];rfl
  have lay:∀i,i<ds.length->PyData.canLay0 (.str (ds.getD i ("",0)).1)=true:=fun i hi=>hl _ (by
   rw[Z09,Z0B hi];exact Z1P hi)
  have step:∀(i:Nat) (x:PV) (v1 v2:PV),(∀j,j<=i->Zfv b ds j=true)->(ZaO (ds.map JC))[i]?=some x->True:=fun _ _ _ _ _ _=>trivial
  cases hf:wkF b ds with
  |none =>
   have hc:=Zky hf
   obtain⟨ρ',rfl,v1,v2,rfl⟩:=Zdm hw (fun i ρ=>∃v1 v2,ρ=[.lst (b.map PV.int),.lst (ds.map JC),.lst ((Zit b ds i).map PV.int),v1,v2]) ⟨_,_,rfl⟩ (by
    rintro i x ρ hx ⟨v1,v2,rfl⟩
    obtain⟨hi,rfl⟩:=get hx
    walk_at "pd"
    rw[hg]
    walk_at "pd"
    rw[Zsz (lay i hi),show Zf9 (Zit b ds i) (ds.getD i ("",0))=true from hc i hi]
    walk_at "pd"
    rw[Zu7 ⟨Zc0 (Zcl B fun j hj=>hc j (by omega)) (hc i hi),lay i hi⟩]
    unfold ZbY
    walk_at "pd"
    exact ZeR ⟨_,_,rfl⟩)
   walk_at "pd"
   rw[show (ZaO (ds.map JC)).length=ds.length by simp[ZaO]]
  |some k =>
   obtain⟨f1,f2,f3⟩:=Zkx hf
   have hW:W=.exc ("BadPlan",.int (k:Nat)):=ZjG hw k (fun i ρ=>∃v1 v2,ρ=[.lst (b.map PV.int),.lst (ds.map JC),.lst ((Zit b ds i).map PV.int),v1,v2]) ⟨_,_,rfl⟩ (by
    rintro i x ρ hik hx ⟨v1,v2,rfl⟩
    obtain⟨hi,rfl⟩:=get hx
    walk_at "pd"
    rw[hg]
    walk_at "pd"
    rw[Zsz (lay i hi),show Zf9 (Zit b ds i) (ds.getD i ("",0))=true from f3 i hik]
    walk_at "pd"
    rw[Zu7 ⟨Zc0 (Zcl B fun j hj=>f3 j (by omega)) (f3 i hik),lay i hi⟩]
    unfold ZbY
    walk_at "pd"
    exact ZeR ⟨_,_,rfl⟩) (by simp[ZaO];exact f1) (by
    rintro x ρ hx ⟨v1,v2,rfl⟩
    obtain⟨hi,rfl⟩:=get hx
    walk_at "pd"
    rw[hg]
    walk_at "pd"
    rw[Zsz (lay k hi),show Zf9 (Zit b ds k) (ds.getD k ("",0))=false from f2]
    walk_at "pd")
   rw[hW]
   walk_at "pd"
 ·rw[if_neg h1,if_neg h1]
  walk_at "pd"
theorem Zwp {b:List Int}{ds:List Zc2} (h:b.length<=1000/\ds.length<=1000/\∀d∈ds,PyData.canLay0 (.str d.1)=true):ZsJ.fn [.lst (b.map PV.int),.lst (ds.map JC)]=wkO b ds:=Pm.fn_eq ZsJ (b,ds) h fun⟨b',ds'⟩ e=>by
 simp only[ZsJ,List.cons.injEq,PV.lst.injEq,and_true] at e ⊢
 rw[JE e.1,ZjP e.2]
noncomputable def plc (f:Int):Int:=if 1<=f%3/\f%2=1 then 0 else if f%3=2 then 1 else f%3
noncomputable def nmB (w f:Int):PX:=if w=0 then ("BadBoard",.non) else if w=1 then ("BadPit",.non) else if w=2 then ("BadPits",.non) else if w=3 then ("BadCount",.non) else if w=4 then ("NoSeeds",.non) else if w=5 then ("BadPlan",.int (plc f)) else ("Unlike",.non)
theorem ZnB {a c:Int} (h0:0<=a) (h1:0<=c) (h2:a+c<=10^60):Jh [a,c]=true:=V7.mpr ⟨by simp,by simp,fun x hx=>by simp at hx;omega,by simpa using h2⟩
theorem ZiA {ns:List Int}{p:Int}{n:Str} (hl:ns.length<=1000) (h:stX ns p=some n):Zt4.fn [.lst (ns.map PV.int),.int p]=.exc (n,.non):=by rw[Zzp hl,h];rfl
theorem ZgW {ds:List Zc2} (h:ds.length<=1000):newF (ds.map JC)=.ok (.lst (ds.map JC)):=by
 unfold newF
 have h1:PV.flats (ds.map JC)=true:=PV.flats_all.mpr fun x hx=>by
  obtain⟨d,_,rfl⟩:=Z1e.mp hx
  rfl
 rw[h1,decide_eq_true (show (ds.map JC).length<=1000000 by rw[Z0K];omega)]
 rfl
theorem ZqL {d:Zc2}{k:Int} (h0:0<=k) (h1:k<=3):ZmF [JC d] (.int k)=.ok (.lst ((List.replicate k.toNat d).map JC)):=by
 unfold ZmF
 simp only
 rw[if_pos ⟨by simp;omega,by omega,by omega⟩,show (List.replicate k.toNat [JC d]).flatten=(List.replicate k.toNat d).map JC by simp]
 exact ZgW (by simp;omega)
theorem Zpe {b:List Int}{f:Int}{w:Str} (hb:b.length=2) (h0:0<=f):Zf9 b (w,2+f)=false:=by
 unfold Zf9
 rw[decide_eq_false (show ¬(0<=2+f/\2+f<(b.length:Int)) by rw[hb];omega)]
 simp
theorem Zo2:PyData.canLay0 (.str "sow")=true:=by rw[PyData.canLay0];decide +kernel
theorem Zo3:PyData.canLay0 (.str "back")=true:=by rw[PyData.canLay0];decide +kernel
theorem wk5 {f:Int} (f0:0<=f):ZsJ.fn [.lst (([1,0]:List Int).map PV.int),.lst ((List.replicate (f%3).toNat ((("sow":PySem.Str),f%2):Zc2)++[(("back":PySem.Str),2+f)]).map JC)]=.exc ("BadPlan",.int (plc f)):=by
 rw[Zwp ⟨by simp,by simp;omega,fun d hd=>by
  rcases Z0F.mp hd with z|z
  ·rw[(List.mem_replicate.mp z).2];exact Zo2
  ·rw[Z1r.mp z];exact Zo3⟩]
 unfold wkO
 rw[if_pos (by decide +kernel)]
 generalize hds:List.replicate (f%3).toNat ((("sow":PySem.Str),f%2):Zc2)++[(("back":PySem.Str),2+f)]=ds
 suffices ∃k:Nat,wkF [1,0] ds=some k/\plc f=k by
  obtain⟨k,h1,h2⟩:=this
  rw[h1,h2]
 subst hds
 have hp:f%2=0\/f%2=1:=by omega
 have hn:f%3=0\/f%3=1\/f%3=2:=by omega
 rcases hn with n|n|n
 ·refine⟨0, ?_,(by unfold plc;rw[if_neg (by omega),if_neg (by omega)];omega)⟩
  rw[n]
  exact V8 (by simp) (Zpe rfl f0) fun j hj=>by omega
 ·rcases hp with q|q
  ·refine⟨1, ?_,(by unfold plc;rw[if_neg (by omega),if_neg (by omega)];omega)⟩
   rw[n,q]
   exact V8 (by simp) (Zpe (by rw[ZfA];rfl) f0) fun j hj=>by
    have:j=0:=by omega
    subst this
    show Zf9 [1,0] ("sow",0)=true
    decide +kernel
  ·refine⟨0, ?_,(by unfold plc;rw[if_pos (by omega)];rfl)⟩
   rw[n,q]
   exact V8 (by simp) (by show Zf9 [1,0] ("sow",1)=false;decide +kernel) fun j hj=>by omega
 ·rcases hp with q|q
  ·refine⟨1, ?_,(by unfold plc;rw[if_neg (by omega),if_pos (by omega)];rfl)⟩
   rw[n,q]
   exact V8 (by simp) (by show Zf9 (Zey [1,0] ("sow",0)).1 ("sow",0)=false;decide +kernel) fun j hj=>by
    have:j=0:=by omega
    subst this
    show Zf9 [1,0] ("sow",0)=true
    decide +kernel
  ·refine⟨0, ?_,(by unfold plc;rw[if_pos (by omega)];rfl)⟩
   rw[n,q]
   exact V8 (by simp) (by show Zf9 [1,0] ("sow",1)=false;decide +kernel) fun j hj=>by omega
noncomputable def Zrq:Pm:=⟨Int×Int,fun a=>[.int a.1,.int a.2],fun a=>(0<=a.1/\a.1<7)/\0<=a.2/\a.2<10^60,fun a=>.exc (nmB a.1 a.2)⟩
theorem Zw7 (T:Txt K mg) {f:Addr}{fd:FuncData} (F:Fun K "_law_of_boards" "_law_of_boards" Zrv f fd):J5 P w K mg base (CX1 P w) 9 f fd ["way", "far"] (spF K 2 .F (W1 K) Zrq.fn):=by
 have Z0v:=Jz (P:=P) (w:=w) (base:=base) T.Z0t Z0l (fun F=>Z0e T F)
 have Z0o:=Jz (P:=P) (w:=w) (base:=base) T.Z06 Z03 (fun F=>Z00 T F)
 have Z0q:=Jz (P:=P) (w:=w) (base:=base) T.Z0i ZzR (fun F=>ZzI T F)
 have Zzb:=Jz (P:=P) (w:=w) (base:=base) T.ZyK Zym (fun F=>ZxZ T F)
 have Z0w:=Jz (P:=P) (w:=w) (base:=base) T.Z0u Z0m (fun F=>Z0f T F)
 refine F.okX Zwu rfl rfl (fun cdv A outer s H E hr=>?_)
 have hu:=hr.units
 refine⟨_,_,⟨[],[],[],.F⟩,rfl,(Zi (Jo (Z2 (Js (K:=K) hu) (pv 0) Zl (Z9 _)) (Zj (Zz (Zx Z0o (hr.mono (by decide)) rfl ZB (Za (Jl (Za (ZF JO Zl (pv 1)) Zg)) (Za Zl Zg))))) Z7)
   (Zi (Jo (Z2 (Js (K:=K) hu) (pv 0) Zl (Z9 _)) (Zj (Zz (Zx Z0o (hr.mono (by decide)) rfl ZB (Za (Jl (Za Zl (Za Zl Zg))) (Za (ZF JO Zl (pv 1)) Zg))))) Z7)
   (Zi (Jo (Z2 (Js (K:=K) hu) (pv 0) Zl (Z9 _)) (Zj (Zz (Zx Z0q (hr.mono (by decide)) rfl ZB (Za (Jl (Za Zl (Za (ZF J9 (pv 1) Zl) Zg))) (Za (Jl (Za Zl (Za Zl Zg))) Zg))))) Z7)
   (Zi (Jo (Z2 (Js (K:=K) hu) (pv 0) Zl (Z9 _)) (Zj (Zz (Zx Zzb (hr.mono (by decide)) rfl ZB (Za (Uk (Jq (K:=K)) (Jl (Za Zl (Za Zl (Za Zl (Za (ZF JO Zl (pv 1)) Zg))))) (ZF J9 (pv 1) Zl) (fun _ _=>rfl)) (Za (ZF J9 (pv 1) Zl) Zg))))) Z7)
   (Zi (Jo (Z2 (Js (K:=K) hu) (pv 0) Zl (Z9 _)) (Zj (Zz (Zx Z0o (hr.mono (by decide)) rfl ZB (Za (Jl (Za Zl (Za (ZF JO Zl (ZF J9 (pv 1) (ZF ZgP Zl Zl))) Zg))) (Za Zl Zg))))) Z7)
   (Zi (Jo (Z2 (Js (K:=K) hu) (pv 0) Zl (Z9 _)) (Zj (Zz (Zx Z0w (hr.mono (by decide)) rfl ZB (Za (Jl (Za Zl (Za Zl Zg))) (Za (ZF (Zbx (K:=K)) (ZF Zjj (Jl (Za (ZcO (Za Z6 (Za (ZF J9 (pv 1) Zl) Zg))) Zg)) (ZF J9 (pv 1) Zl)) (Jl (Za (ZcO (Za Z6 (Za (ZF JO Zl (pv 1)) Zg))) Zg))) Zg))))) Z7)
   (Zj (Zz (Zx Z0v (hr.mono (by decide)) rfl ZB (Za (Jl (Za Zl (Za (ZF J9 (pv 1) Zl) Zg))) (Za (Jl (Za (ZF JO Zl (ZF J9 (pv 1) Zl)) (Za (ZF J9 (pv 1) Zl) Zg))) Zg))))))))))),
   (Zp (Γm:=[.S,.S]) (Jp (Z1 (DE.toA (Jb (g:=id) (Zd (i:=0) (m:=.S) rfl (by decide)) (DE.toA Zk))))
   (Jy (Zhr (Zf (Zf Zm)) (Zc (DE.toA (Ja (Zn (DE.PF (JR (DE.toA Zk) (Zd (i:=1) (m:=.S) rfl (by decide)))) ZO))) (Zc (DE.toA Zk) Zh))))
   Z8)
   (Zp (Γm:=[.S,.S]) (Jp (Z1 (DE.toA (Jb (g:=id) (Zd (i:=0) (m:=.S) rfl (by decide)) (DE.toA Zk))))
   (Jy (Zhr (Zf (Zf Zm)) (Zc (DE.toA (Ja (Zn (DE.PF Zk) (Zn (DE.PF Zk) ZO)))) (Zc (DE.toA (JR (DE.toA Zk) (Zd (i:=1) (m:=.S) rfl (by decide)))) Zh))))
   Z8)
   (Zp (Γm:=[.S,.S]) (Jp (Z1 (DE.toA (Jb (g:=id) (Zd (i:=0) (m:=.S) rfl (by decide)) (DE.toA Zk))))
   (Jy (Zhr (Zf (Zf Zm)) (Zc (DE.toA (Ja (Zn (DE.PF Zk) (Zn (DE.PF (JB (Zd (i:=1) (m:=.S) rfl (by decide)) (DE.toA Zk))) ZO)))) (Zc (DE.toA (Ja (Zn (DE.PF Zk) (Zn (DE.PF Zk) ZO)))) Zh))))
   Z8)
   (Zp (Γm:=[.S,.S]) (Jp (Z1 (DE.toA (Jb (g:=id) (Zd (i:=0) (m:=.S) rfl (by decide)) (DE.toA Zk))))
   (Jy (Zhr (Zf (Zf Zm)) (Zc (JH (te:=tC .non) (DE.toA (Ja (Zn (DE.PF Zk) (Zn (DE.PF Zk) (Zn (DE.PF Zk) (Zn (DE.PF (JR (DE.toA Zk) (Zd (i:=1) (m:=.S) rfl (by decide)))) ZO)))))) (DE.toA (JB (Zd (i:=1) (m:=.S) rfl (by decide)) (DE.toA Zk)))) (Zc (DE.toA (JB (Zd (i:=1) (m:=.S) rfl (by decide)) (DE.toA Zk))) Zh))))
   Z8)
   (Zp (Γm:=[.S,.S]) (Jp (Z1 (DE.toA (Jb (g:=id) (Zd (i:=0) (m:=.S) rfl (by decide)) (DE.toA Zk))))
   (Jy (Zhr (Zf (Zf Zm)) (Zc (DE.toA (Ja (Zn (DE.PF Zk) (Zn (DE.PF (JR (DE.toA Zk) (DE.toA (JB (Zd (i:=1) (m:=.S) rfl (by decide)) (DE.toA (Zhu (DE.toA Zk) (DE.toA Zk))))))) ZO)))) (Zc (DE.toA Zk) Zh))))
   Z8)
   (Zp (Γm:=[.S,.S]) (Jp (Z1 (DE.toA (Jb (g:=id) (Zd (i:=0) (m:=.S) rfl (by decide)) (DE.toA Zk))))
   (Jy (Zhr (Zf (Zf Zm)) (Zc (DE.toA (Ja (Zn (DE.PF Zk) (Zn (DE.PF Zk) ZO)))) (Zc (DE.toA (Zb2 (DE.toA (Zgo (Zc (Ze0 (Zc (DE.toA Z5) (Zc (DE.toA (JB (Zd (i:=1) (m:=.S) rfl (by decide)) (DE.toA Zk))) Zh))) Zh) (DE.toA (JB (Zd (i:=1) (m:=.S) rfl (by decide)) (DE.toA Zk))))) (DE.toA (Ja (Zn (DE.PF (DE.grd (Ze0 (Zc (DE.toA Z5) (Zc (DE.toA (JR (DE.toA Zk) (Zd (i:=1) (m:=.S) rfl (by decide)))) Zh))))) ZO))))) Zh))))
   Z8)
   (Jy (Zhr (Zf (Zf Zm)) (Zc (DE.toA (Ja (Zn (DE.PF Zk) (Zn (DE.PF (JB (Zd (i:=1) (m:=.S) rfl (by decide)) (DE.toA Zk))) ZO)))) (Zc (DE.toA (Ja (Zn (DE.PF (JR (DE.toA Zk) (DE.toA (JB (Zd (i:=1) (m:=.S) rfl (by decide)) (DE.toA Zk))))) (Zn (DE.PF (JB (Zd (i:=1) (m:=.S) rfl (by decide)) (DE.toA Zk))) ZO)))) Zh)))))))))), ?_⟩
 refine Pm.ref Zrq (g:=fun xs=>_) ?_
 rintro⟨w,f⟩ ⟨⟨w0,w1⟩,f0,f1⟩
 simp only at w0 w1 f0 f1
 simp only[Zrq]
 have hw:w=0\/w=1\/w=2\/w=3\/w=4\/w=5\/w=6:=by omega
 rcases hw with rfl|rfl|rfl|rfl|rfl|rfl|rfl
 ·walk_at "pd"
  rw[show Zt4.fn [PV.lst [PV.int (1+f)],PV.int 0]=.exc ("BadBoard",.non) from ZiA (ns:=[1+f]) (n := "BadBoard") (by simp) (if_neg (by rw[V7];exact fun z=>by have:=z.lo;simp at this))]
  walk_at "pd"
  rfl
 ·walk_at "pd"
  rw[show Zt4.fn [PV.lst [PV.int 1,PV.int 1],PV.int (2+f)]=.exc ("BadPit",.non) from ZiA (ns:=[1,1]) (p:=2+f) (n := "BadPit") (by simp) (by unfold stX;rw[if_pos (by decide +kernel),if_neg (fun z=>by have:=z.2;simp at this;omega)])]
  walk_at "pd"
  rfl
 ·walk_at "pd"
  rw[show ZsW.fn [PV.lst [PV.int 1,PV.int (f%9)],PV.lst [PV.int 0,PV.int 1]]=.exc ("BadPits",.non) from ZvF (b:=[1,f%9]) (l:=[0,1]) ⟨⟨by simp,by simp⟩,ZnB (by omega) (by omega) (by omega),fun z=>z.2.2.2 rfl⟩]
  walk_at "pd"
  rfl
 ·walk_at "pd"
  have h4:f%4=0\/f%4=1\/f%4=2\/f%4=3:=by omega
  have hp:∃v:Int,pIx (PV.lst [PV.int 1,PV.int 0,PV.int 25,PV.int (25+f)]) (PV.int (f%4))=.ok (.int v)/\(v<2\/24<v):=by
   refine⟨([1,0,25,25+f]:List Int).getD (f%4).toNat 0,Uo (ns:=[1,0,25,25+f]) (by omega) (by simp;omega), ?_⟩
   rcases h4 with e|e|e|e<;>rw[e]
   ·left;show (1:Int)<2;decide
   ·left;show (0:Int)<2;decide
   ·right;show (24:Int)<25;decide
   ·right;show 24<25+f;omega
  obtain⟨v,e,hv⟩:=hp
  rw[e]
  walk_at "pd"
  rw[Ztc (by unfold szX Zie;rw[if_neg (by omega)])]
  walk_at "pd"
  rfl
 ·walk_at "pd"
  rw[show Zt4.fn [PV.lst [PV.int 0,PV.int (1+f%10^59)],PV.int 0]=.exc ("NoSeeds",.non) from ZiA (ns:=[0,1+f%10^59]) (p:=0) (n := "NoSeeds") (by simp) (by unfold stX;rw[if_pos (ZnB (by omega) (by omega) (by omega)),if_pos (by simp)];exact if_pos rfl)]
  walk_at "pd"
  rfl
 ·walk_at "pd"
  rw[show PV.tup [PV.str (PySem.Str.ofString "sow"),PV.int (f%2)]=JC ("sow",f%2) from rfl,ZqL (by omega) (by omega)]
  walk_at "pd"
  rw[show (List.replicate (f%3).toNat ((("sow":PySem.Str),f%2):Zc2)).map JC++[PV.tup [PV.str (PySem.Str.ofString "back"),PV.int (2+f)]]=(List.replicate (f%3).toNat ((("sow":PySem.Str),f%2):Zc2)++[(("back":PySem.Str),2+f)]).map JC by rw[Z1S];rfl]
  rw[ZgW (by simp;omega)]
  walk_at "pd"
  rw[show ZsJ.fn [PV.lst [PV.int 1,PV.int 0],PV.lst ((List.replicate (f%3).toNat ((("sow":PySem.Str),f%2):Zc2)++[(("back":PySem.Str),2+f)]).map JC)]=.exc ("BadPlan",.int (plc f)) from wk5 f0]
  walk_at "pd"
  rfl
 ·walk_at "pd"
  rw[show Ztw.fn [PV.lst [PV.int 1,PV.int (f%9)],PV.lst [PV.int (2+f%9),PV.int (f%9)]]=.exc ("Unlike",.non) from Zwo (b:=[1,f%9]) (o:=[2+f%9,f%9]) ⟨⟨by simp,by simp⟩,ZnB (by omega) (by omega) (by omega),ZnB (by omega) (by omega) (by omega),by simp;omega⟩]
  walk_at "pd"
  rfl
theorem Zs2 {w f:Int} (h:(0<=w/\w<7)/\0<=f/\f<10^60):Zrq.fn [.int w,.int f]=.exc (nmB w f):=Pm.fn_eq Zrq (w,f) h fun(a:Int×Int) e=>by (simp only[Zrq,List.cons.injEq,PV.lst.injEq,PV.int.injEq,PV.str.injEq,PV.bl.injEq,PV.tup.injEq,ZN,and_true] at e ⊢;first|(simp only[e];done)|(subst e;rfl)|(rw[e]))
theorem Zo4:PyData.canLay0 (.str ("0":Str))=true:=by unfold PyData.canLay0 PyData.strOk;rw[<- Z1w];decide
theorem ZpT:PyData.canLay0 (.str ("":Str))=true:=by unfold PyData.canLay0 PyData.strOk;rw[<- Z1w];decide
noncomputable def ZrE:Pm:=⟨Str,fun w=>[.str w],fun w=>Zgb w/\w.length<=100000,fun w=>.ok (.bl (ZhL w))⟩
theorem Zzi (T:Txt K mg) {f:Addr}{fd:FuncData} (F:Fun K "is_number" "is_number" Zs8 f fd):J5 P w K mg base CX0 1 f fd ["word"] (spF K 1 .P W0 ZrE.fn):=by
 refine F.okP ZwN rfl rfl (fun cdv A outer s H E hr=>?_)
 have hu:=hr.units
 refine⟨_,_,⟨[],[],[],.P⟩,rfl,(Zi (Jo (PW.pt (ZbW (Z2 (Js (K:=K) hu) (pv 0) Z6 (Z9 _)) (ZaW (JZ (JN (Zr (Ui (K:=K) rfl) rfl T.z_all Zd2 (Za (Um (Zoh (pv 0)) (fun _ _ _ _=>(JV Zjl (pv 1) (ZkG T.c_FIGURES rfl) rfl)) ZwN.nd rfl) Zg))))))) (Zj (Zz ZfT)) Z7)
   (Zj (Zz (ZpF (JV (Js (K:=K) hu) (pv 0) Z6 (Z9 _)) (ZcP (JV (Zc3 (K:=K) hu) (Uk Zmi (pv 0) Zl (fun _ _=>rfl)) Z6 (Z9 _))))))),
   (Zp (Γm:=[.S]) (Jp (Zcf (Z1 (DE.toA (Jb (g:=id) (Zd (i:=0) (m:=.S) rfl (by decide)) (DE.toA Z5)))) (Vi (Ze7 (DE.toA (Zdw (Zc (DE.toA (JL (DI.c (ZoV (Zd (i:=0) (m:=.S) rfl (by decide)))) (DE.PF (Zpc (Zd (i:=1) (m:=.S) rfl (by decide)) (DE.toA Z5))))) Zh))))))
   (ZC Zgp)
   Z8)
   (ZC (ZpZ (DE.toA (Jb (g:=id) (Zd (i:=0) (m:=.S) rfl (by decide)) (DE.toA Z5))) (Jb (g:=(!·)) (DE.toA (ZoZ (Zd (i:=0) (m:=.S) rfl (by decide)) (DE.toA Zk))) (DE.toA Z5))))), ?_⟩
 refine Pm.ref ZrE (g:=fun xs=>_) ?_
 rintro(w:Str) ⟨h0,h1⟩
 simp only[ZrE]
 walk_at "pd"
 rw[J1 h0 ZpT]
 have hl:=h1
 rw[Zdf] at hl
 unfold ZhL
 have we:(w==("":Str))=w.cps.toList.isEmpty:=by
  by_cases c:w.cps.toList=[]
  ·have:w=("":Str):=Str.ext' (Z1x.mp (by rw[c];rfl))
   rw[this];decide
  ·rw[show w.cps.toList.isEmpty=false by simpa using c,beq_eq_false_iff_ne]
   intro e;rw[e] at c;exact c rfl
 rw[we]
 have wz:(w==("0":Str))=decide (w.cps.toList=[48]):=by
  by_cases c:w.cps.toList=[48]
  ·have:w=("0":Str):=Str.ext' (Z1x.mp (by rw[c];rfl))
   rw[this];decide
  ·rw[decide_eq_false c,beq_eq_false_iff_ne]
   intro e;rw[e] at c;exact c rfl
 have lay:=Zb9.mp h0
 generalize hcs:w.cps.toList=cs at hl we wz lay
 unfold ZpQ
 by_cases hz:cs=[]
 ·subst hz
  rw[show ([]:List Nat).isEmpty=true from rfl]
  walk_at "pd"
 ·obtain⟨d,r,hL⟩:=List.exists_cons_of_ne_nil hz
  rw[show cs.isEmpty=false by simpa using hz]
  walk_at "pd"
  rw[Znt,hcs]
  walk_at "pd"
  rw[ZcZ (g:=fun x=>match x with|.str z=>PV.bl (inS z Zn9)|_=>.non) (fun x hx=>by
   obtain⟨c,hc,rfl⟩:=Z1e.mp hx
   rfl)]
  rw[show (cs.map fun c=>PV.str ⟨#[c]⟩).map (fun x=>match x with|.str z=>PV.bl (inS z Zn9)|_=>.non)=(cs.map Zgg).map PV.bl by
   rw[Z11,Z11]
   exact List.map_congr_left fun c _=>congrArg PV.bl (ZoR c)]
  walk_at "pd"
  rw[show (cs.map Zgg).all id=cs.all Zgg by rw[List.all_map];rfl]
  cases cs.all Zgg with
  |false =>
   walk_at "pd"
  |true =>
   walk_at "pd"
   rw[J1 h0 Zo4,wz]
   by_cases c:cs=[48]
   ·rw[decide_eq_true c]
    walk_at "pd"
    rfl
   ·rw[decide_eq_false c]
    walk_at "pd"
    rw[show Zpv (.str w) (.int 0)=.ok (.str ⟨#[d]⟩) by
     unfold Zpv
     have e1:atI w.cps.toList 0=some d:=by
      rw[hcs,hL]
      unfold atI
      rw[Zfd (by omega) (by simp only[Z0T];omega)];rfl
     simp only[e1]
     rw[if_pos (by omega)]]
    walk_at "pd"
    have ld:=lay d (by rw[hL];simp)
    rw[J1 (by unfold PyData.canLay0 PyData.strOk;rw[<- Z1w];simp;omega) Zo4]
    have e3:((⟨#[d]⟩:Str)==("0":Str))=decide (d=48):=by
     by_cases c:d=48
     ·subst c;decide
     ·rw[decide_eq_false c,beq_eq_false_iff_ne]
      intro e
      have:(⟨#[d]⟩:Str).cps.toList=[48]:=by rw[e];rfl
      simp at this
      exact c this
    rw[e3,hL]
    walk_at "pd"
    simp
theorem ZtY {w:Str} (h:Zgb w/\w.length<=100000):ZrE.fn [.str w]=.ok (.bl (ZhL w)):=Pm.fn_eq ZrE w h fun(a:Str) e=>by (simp only[ZrE,List.cons.injEq,PV.lst.injEq,PV.int.injEq,PV.str.injEq,PV.bl.injEq,PV.tup.injEq,ZN,and_true] at e ⊢;first|(simp only[e];done)|(subst e;rfl)|(rw[e]))
theorem ZeO:ZrE.calm:=fun a q h=>by (simp only[ZrE] at h;cases h)
noncomputable def Zsu:Pm:=⟨Str,fun s=>[.str s],fun s=>(Zgb s/\s.length<=100000)/\(ZbE s).length<=1000/\(ZbE s).all ZhL=false,fun _=>.exc ("BadText",.non)⟩
theorem Zy6 (T:Txt K mg) {f:Addr}{fd:FuncData} (F:Fun K "read_board" "read_board" Zsl f fd):J5 P w K mg base (CX1 P w) 6 f fd ["text"] (spF K 1 .F (W1 K) Zsu.fn):=by
 have Zrg:=Jz (P:=P) (w:=w) (base:=base) T.Zsx Zsj (fun F=>Zsi T F)
 have ZzD:=Zca (P:=P) (w:=w) (base:=base) T.Zz6 Zzr (fun F=>Zzi T F)
 obtain⟨C_BadText,hC_BadText,hQ_BadText⟩:=J6 T.x_exc (n := "BadText") (by decide)
 refine F.okX ZtK rfl rfl (fun cdv A outer s H E hr=>?_)
 have hu:=hr.units
 refine⟨_,_,⟨[],[],[],.F⟩,rfl,(Zi (ZW (i:=1) ZtK.nd rfl (by first|exact Or.inl rfl|exact Or.inr rfl) (Zol PySem.F.plainAttrs_str PySem.F.slot_str_split PySem.F.type_str_split Zld (pv 0) (Za Z6 Zg)))
   (Zi (Jo (JZ (JN (Zr (Ui (K:=K) rfl) rfl T.z_all Zd2 (Za (Um (Ul (K:=K) (pv 1)) (fun _ _ _ _=>(ZE ZzD (hr.mono (by decide)) rfl (Za (pv 3) Zg))) ZtK.nd rfl) Zg)))) (Zj (Jj J3 hQ_BadText rfl (T.x_mg _ _ hC_BadText) rfl (Za Z6 Zg))) Z7)
   (Zi (ZbK (i:=2) ZtK.nd rfl (Ul (K:=K) (pv 1)) (fun _ _ _ _=>Zm8) rfl)
   (Zi (ZM (Zx Zrg (hr.mono (by decide)) rfl ZB (Za (pv 2) Zg)))
   (Zj (Zz (pv 2))))))),
   (Zp (Γm:=[.S,.O,.U]) (JA (i:=1) (Zlz (Zd (i:=0) (m:=.S) rfl (by decide)) (Zc (DE.toA Z5) Zh)) (by decide))
   (Zp (Γm:=[.S,.O,.U]) (Jp (Vi (Ze7 (DE.toA (Zdw (Zc (DE.toA (JL (Zex (Zd (i:=1) (m:=.O) rfl (by decide))) (DE.PF (ZjK (Zf Zm) (Pm.calm_fn ZeO) (Zc (Zd (i:=3) (m:=.S) rfl (by decide)) Zh))))) Zh)))))
   (Jk hC_BadText (Zf Zm) (by decide) (Zc (DE.toA Z5) Zh))
   Z8)
   (Zp (Γm:=[.S,.O,.O]) (ZaT (i:=2) (JL (Zex (Zd (i:=1) (m:=.O) rfl (by decide))) Znj) (by decide))
   (Zp (Γm:=[.S,.O,.O]) (ZY (DE.toA (Zc8 (Zf Zm) (Zc (Zd (i:=2) (m:=.O) rfl (by decide)) Zh))))
   (Jy (Zcz (i:=2) rfl)))))), ?_⟩
 refine Pm.ref Zsu (g:=fun xs=>_) ?_
 rintro(s:Str) ⟨⟨h0,h1⟩,h2,h3⟩
 simp only[Zsu]
 have hw:∀w∈ZbE s,Zgb w/\w.length<=100000:=fun w hw=>⟨(ZdC hw).1 h0,Z0U (ZdC hw).2 h1⟩
 walk_at "pd"
 rw[show asS (PV.str s)=.ok s from rfl]
 walk_at "pd"
 rw[show ZgK s [.str (" ":Str)]=.ok (.lst ((ZbE s).map PV.str)) from by rw[show ((" ":Str))=spS from ZnX];exact ZhF h1 (by have:=h2;unfold ZbE spS at this;omega)]
 generalize ZbE s=ws at h2 h3 hw
 walk_at "pd"
 rw[show Zpi (.lst (ws.map PV.str))=.ok (ws.map PV.str) from if_pos Zdn]
 walk_at "pd"
 rw[ZcZ (g:=fun x=>match x with|.str z=>PV.bl (ZhL z)|_=>.non) (fun x hx=>by
  obtain⟨w,hw',rfl⟩:=Z1e.mp hx
  exact ZtY (hw w hw'))]
 rw[show (ws.map PV.str).map (fun x=>match x with|.str z=>PV.bl (ZhL z)|_=>.non)=(ws.map ZhL).map PV.bl by rw[Z11,Z11];rfl]
 walk_at "pd"
 rw[show (ws.map ZhL).all id=ws.all ZhL by rw[List.all_map];rfl,h3]
 walk_at "pd"
theorem Zty {s:Str} (h:(Zgb s/\s.length<=100000)/\(ZbE s).length<=1000/\(ZbE s).all ZhL=false):Zsu.fn [.str s]=.exc ("BadText",.non):=Pm.fn_eq Zsu s h fun _ _=>rfl
noncomputable def rcX (ns:List Int) (p m:Int):Option Str:=match stX ns p with
 |some n=>some n
 |none=>Zie m 1 20000
theorem ZkB {ns:List Int}{p m:Int}:rcX ns p m=none ↔ Zbs ns p/\1<=m/\m<=20000:=by
 unfold rcX
 rw[<- Zg6]
 cases h:stX ns p with
 |some n=>simp
 |none =>
  unfold Zie
  by_cases c:1<=m/\m<=20000
  ·simp[c]
  ·simp[c]
noncomputable def ZrG:Pm:=⟨List Int×Int×Int,fun a=>[.lst (a.1.map PV.int),.int a.2.1,.int a.2.2],fun a=>a.1.length<=1000,fun a=>orX (rcX a.1 a.2.1 a.2.2) .non⟩
theorem ZxW (T:Txt K mg) {f:Addr}{fd:FuncData} (F:Fun K "check_round" "check_round" ZrT f fd):J5 P w K mg base (CX1 P w) 7 f fd ["board", "pit", "most"] (spF K 3 .P (W1 K) ZrG.fn):=by
 have ZtJ:=Jz (P:=P) (w:=w) (base:=base) T.Zvp Zu8 (fun F=>Zu1 T F)
 have ZtL:=Jz (P:=P) (w:=w) (base:=base) T.Zwn ZvT (fun F=>ZvS T F)
 refine F.okX ZxP rfl rfl (fun cdv A outer s H E hr=>?_)
 have hu:=hr.units
 refine⟨_,_,⟨[.S,.S,.S],[],[],.P⟩,rfl,(Zi (ZM (Zx ZtJ (hr.mono (by decide)) rfl ZB (Za (pv 0) (Za (pv 1) Zg))))
   (Zj (ZM (Zx ZtL (hr.mono (by decide)) rfl ZB (Za (pv 2) (Za Zl (Za (JI T.c_LONGEST rfl) Zg))))))),
   (Zp (Γm:=[.S,.S,.S]) (ZY (DE.toA (Zc8 (Zf (Zf Zm)) (Zc (Zd (i:=0) (m:=.S) rfl (by decide)) (Zc (Zd (i:=1) (m:=.S) rfl (by decide)) Zh)))))
   (ZY (DE.toA (Zc8 (Zf (Zf (Zf Zm))) (Zc (Zd (i:=2) (m:=.S) rfl (by decide)) (Zc (DE.toA Zk) (Zc (DE.toA Zk) Zh))))))), ?_⟩
 refine Pm.ref ZrG (g:=fun xs=>_) ?_
 rintro⟨ns,p,m⟩ (hn:ns.length<=1000)
 simp only[ZrG]
 walk_at "pd"
 rw[ZrR hn]
 unfold rcX
 cases stX ns p with
 |some n=>walk_at "pd"
 |none =>
  walk_at "pd"
  rw[Zsy]
  cases Zie m 1 20000 with
  |some n=>walk_at "pd"
  |none=>walk_at "pd"
theorem Zta {ns:List Int}{p m:Int} (h:ns.length<=1000):ZrG.fn [.lst (ns.map PV.int),.int p,.int m]=orX (rcX ns p m) .non:=Pm.fn_eq ZrG (ns,p,m) h fun(a:List Int×Int×Int) e=>by (simp only[ZrG,List.cons.injEq,PV.lst.injEq,PV.int.injEq,PV.str.injEq,PV.bl.injEq,PV.tup.injEq,ZN,and_true] at e ⊢;first|(simp only[e];done)|(subst e;rfl)|(rw[e]))
noncomputable def clX (l m:Int):Option Str:=if l<=m then none else some "TooLong"
noncomputable def Zr2:Pm:=⟨Int×Int,fun a=>[.int a.1,.int a.2],fun _=>True,fun a=>orX (clX a.1 a.2) .non⟩
theorem Zxv (T:Txt K mg) {f:Addr}{fd:FuncData} (F:Fun K "check_length" "check_length" Zr9 f fd):J5 P w K mg base (CX1 P w) 1 f fd ["length", "most"] (spF K 2 .P (W1 K) Zr2.fn):=by
 obtain⟨C_TooLong,hC_TooLong,hQ_TooLong⟩:=J6 T.x_exc (n := "TooLong") (by decide)
 refine F.okX Zxg rfl rfl (fun cdv A outer s H E hr=>?_)
 have hu:=hr.units
 refine⟨_,_,⟨[.S,.S],[],[],.P⟩,rfl,(Zj (Jo (Z2 ZbZ (pv 0) (pv 1) (Z9 _)) (Zj (Jj J3 hQ_TooLong rfl (T.x_mg _ _ hC_TooLong) rfl (Za Z6 Zg))) Z7)),
   (Jp (Z1 (DE.toA (Zch (Zd (i:=0) (m:=.S) rfl (by decide)) (Zd (i:=1) (m:=.S) rfl (by decide)))))
   (Jk hC_TooLong (Zf Zm) (by decide) (Zc (DE.toA Z5) Zh))
   Z8), ?_⟩
 refine Pm.ref Zr2 (g:=fun xs=>_) ?_
 rintro⟨l,m⟩ -
 simp only[Zr2]
 walk_at "pd"
 by_cases h:l<=m
 ·rw[decide_eq_false (by omega),show clX l m=none from if_pos h]
  walk_at "pd"
 ·rw[decide_eq_true (by omega),show clX l m=(some "TooLong":Option Str) from if_neg h]
  walk_at "pd"
theorem Zs6 {l m:Int}:Zr2.fn [.int l,.int m]=orX (clX l m) .non:=Pm.fn_eq Zr2 (l,m) trivial fun(a:Int×Int) e=>by (simp only[Zr2,List.cons.injEq,PV.lst.injEq,PV.int.injEq,PV.str.injEq,PV.bl.injEq,PV.tup.injEq,ZN,and_true] at e ⊢;first|(simp only[e];done)|(subst e;rfl)|(rw[e]))
noncomputable def rdX (ns:List Int) (p m:Int):Option Str:=match rcX ns p m with
 |some n=>some n
 |none=>if (ZbU (ns,p) m.toNat).isSome=true then none else some "TooLong"
noncomputable def rdN (ns:List Int) (p m:Int):Nat:=match ZbU (ns,p) m.toNat with
 |some i=>i+1
 |none=>0
noncomputable def ZlO (L:List (List Int×Int)):PV:=.lst (L.map ZmE)
noncomputable def Zsf:Pm:=⟨List Int×Int×Int,fun a=>[.lst (a.1.map PV.int),.int a.2.1,.int a.2.2],fun a=>a.1.length<=1000,fun a=>orX (rdX a.1 a.2.1 a.2.2) (ZlO (Zeh (a.1,a.2.1) (rdN a.1 a.2.1 a.2.2)))⟩
theorem Zz1 (T:Txt K mg) {f:Addr}{fd:FuncData} (F:Fun K "round_of" "round_of" ZsS f fd):J5 P w K mg base (CX1 P w) 8 f fd ["board", "pit", "most"] (spF K 3 .Z (W1 K) Zsf.fn):=by
 have ZyY:=Jz (P:=P) (w:=w) (base:=base) T.ZyH Zyj (fun F=>ZxW T F)
 have Zu9:=Zca (P:=P) (w:=w) (base:=base) T.Zx4 ZwE (fun F=>Zw5 T F)
 have Zyr:=Jz (P:=P) (w:=w) (base:=base) T.Zye ZxC (fun F=>Zxv T F)
 refine F.okX ZtM rfl rfl (fun cdv A outer s H E hr=>?_)
 have hu:=hr.units
 refine⟨_,_,⟨[],[],[],.Z⟩,rfl,(Zi (ZM (Zx ZyY (hr.mono (by decide)) rfl ZB (Za (pv 0) (Za (pv 1) (Za (pv 2) Zg)))))
   (Zi (ZW (i:=3) ZtM.nd rfl (by first|exact Or.inl rfl|exact Or.inr rfl) (ZcO (Za (ZbX (Zc1 (K:=K)) rfl T.z_list Zd0 (Za (pv 0) Zg)) (Za (pv 1) Zg))))
   (Zi (ZW (i:=4) ZtM.nd rfl (by first|exact Or.inl rfl|exact Or.inr rfl) (Jl (Za (pv 3) Zg)))
   (Zi (ZW (i:=5) ZtM.nd rfl (by first|exact Or.inl rfl|exact Or.inr rfl) (ZE Zu9 (hr.mono (by decide)) rfl (Za (pv 0) (Za (pv 1) Zg))))
   (Zi (Zel PassesOwn.leaving (Z2 (Zc3 (K:=K) hu) (pv 5) (pv 3) (Z9 _)) (Zi (ZM (Zx Zyr (hr.mono (by decide)) rfl ZB (Za (ZF JO (Zr (ZK (K:=K)) rfl T.z_len JG (Za (pv 4) Zg)) Zl) (Za (pv 2) Zg))))
   (Zi (ZM (Zol PySem.F.plainAttrs_list PySem.F.slot_list_append PySem.F.type_list_append Zjt (pv 4) (Za (pv 5) Zg)))
   (Zj (ZW (i:=5) ZtM.nd rfl (by first|exact Or.inl rfl|exact Or.inr rfl) (ZE Zu9 (hr.mono (by decide)) rfl (Za (Uk (Jq (K:=K)) (pv 5) Zl (fun _ _=>rfl)) (Za (Uk (Jq (K:=K)) (pv 5) Zl (fun _ _=>rfl)) Zg))))))))
   (Zj (Zz (pv 4)))))))),
   (Zp (Γm:=[.S,.S,.S,.U,.U,.U]) (ZY (DE.toA (Zc8 (Zf (Zf (Zf Zm))) (Zc (Zd (i:=0) (m:=.S) rfl (by decide)) (Zc (Zd (i:=1) (m:=.S) rfl (by decide)) (Zc (Zd (i:=2) (m:=.S) rfl (by decide)) Zh))))))
   (Zp (Γm:=[.S,.S,.S,.O,.U,.U]) (JA (i:=3) (Zgn (Zn (Ze1 (Zc (Zd (i:=0) (m:=.S) rfl (by decide)) Zh)) (Zn (DE.PF (DE.grd (Zd (i:=1) (m:=.S) rfl (by decide)))) ZO))) (by decide))
   (Zp (Γm:=[.S,.S,.S,.S,.T,.U]) (Znf (i:=4) (Znl (QF (Zez (i:=3) (m:=.O) rfl (by decide)) Zdx)) (by decide))
   (Zp (Γm:=[.S,.S,.S,.S,.T,.O]) (JA (i:=5) (ZnA (Zf (Zf Zm)) (Pm.calm_fn Zcv) (Zc (Zd (i:=0) (m:=.S) rfl (by decide)) (Zc (Zd (i:=1) (m:=.S) rfl (by decide)) Zh))) (by decide))
   (Zp (Γm:=[.S,.S,.S,.S,.T,.O]) (Zew (Γ:=[.S,.S,.S,.S,.T,.O]) (Z1 (DE.toA (Jb (g:=(!·)) (Zd (i:=5) (m:=.O) rfl (by decide)) (Zd (i:=3) (m:=.S) rfl (by decide)))))
   (Zp (Γm:=[.S,.S,.S,.S,.T,.O]) (ZY (DE.toA (Zc8 (Zf (Zf Zm)) (Zc (DE.toA (JR (DE.toA (JF (Zc (Zd (i:=4) (m:=.T) rfl (by decide)) Zh))) (DE.toA Zk))) (Zc (Zd (i:=2) (m:=.S) rfl (by decide)) Zh)))))
   (Zp (Γm:=[.S,.S,.S,.S,.T,.S]) (Zng (i:=4) rfl rfl (Zez (i:=5) (m:=.O) rfl (by decide)))
   (JA (i:=5) (ZnA (Zf (Zf Zm)) (Pm.calm_fn Zcv) (Zc (JH (te:=tC .non) (Zd (i:=5) (m:=.S) rfl (by decide)) (DE.toA Zk)) (Zc (JH (te:=tC .non) (Zd (i:=5) (m:=.S) rfl (by decide)) (DE.toA Zk)) Zh))) (by decide)))))
   (Zb1 (Zez (i:=4) (m:=.T) rfl (by decide)))))))), ?_⟩
 refine Pm.ref Zsf (g:=fun xs=>_) ?_
 rintro⟨ns,p,m⟩ (hn:ns.length<=1000)
 simp only[Zsf]
 walk_at "pd"
 rw[Zta hn]
 cases hc:rcX ns p m with
 |some n =>
  rw[show rdX ns p m=some n by unfold rdX;rw[hc]]
  walk_at "pd"
 |none =>
  obtain⟨hs,h1,h2⟩:=ZkB.mp hc
  walk_at "pd"
  rw[Ztx hs.sowOk]
  walk_at "pd"
  generalize hw:Zbt _ _ _=W
  have hst:∀i,Zbs (its ZbO i (ns,p)).1 (its ZbO i (ns,p)).2:=fun i=>Zqx hs i
  have hlen:∀i,(its ZbO i (ns,p)).1.length=ns.length:=fun i=>Zj7 (ns,p) i
  have key:∀i:Nat,(decide ((its ZbO i (ns,p)).1=ns)&&decide ((its ZbO i (ns,p)).2=p))=decide (its ZbO i (ns,p)=(ns,p)):=fun i=>by
   rw[<- Bool.decide_and]
   exact decide_eq_decide.mpr ⟨fun z=>Prod.ext z.1 z.2,fun z=>by rw[z];exact⟨rfl,rfl⟩⟩
  obtain⟨N,hN,hend⟩:∃N:Nat,(∀j,j<N->its ZbO (j+1) (ns,p)≠(ns,p)/\(j:Int)+2<=m)/\((ZbU (ns,p) m.toNat=some N/\its ZbO (N+1) (ns,p)=(ns,p))\/(ZbU (ns,p) m.toNat=none/\its ZbO (N+1) (ns,p)≠(ns,p)/\(N:Int)+1=m)):=by
   cases hr:ZbU (ns,p) m.toNat with
   |some n =>
    obtain⟨r1,r2,r3⟩:=ZfP hr
    exact⟨n,fun j hj=>⟨r3 j hj,by omega⟩,.inl ⟨rfl,r2⟩⟩
   |none =>
    have r:=ZfQ hr
    exact⟨m.toNat-1,fun j hj=>⟨r j (by omega),by omega⟩,.inr ⟨rfl,r _ (by omega),by omega⟩⟩
  have hW:=Ziu hw N (fun(i:Nat) ρ=>ρ=[.lst (ns.map PV.int),.int p,.int m,ZbY (ns,p),.lst ((Zeh (ns,p) (i+1)).map ZmE),ZbY (its ZbO (i+1) (ns,p))]) rfl (by
    rintro j ρ hj rfl
    have hk:=key (j+1)
    rw[decide_eq_false (hN j hj).1] at hk
    have hj2:=(hN j hj).2
    have st:=hst (j+1)
    constructor
    ·walk_at "pd"
     rw[hk]
     rfl
    ·walk_at "pd"
     rw[Zeo]
     walk_at "pd"
     rw[Z0K,Zbu,Zs6,show clX (((j+1:Nat):Int)+1) m=none from if_pos (by omega)]
     walk_at "pd"
     rw[ZkT (by rw[Z0K,Zbu];omega)]
     walk_at "pd"
     rw[Ztx st.sowOk]
     walk_at "pd"
     exact ZeR (by rw[Zh1 (ns,p) (j+1),Z1S];rfl)) (r:=if (ZbU (ns,p) m.toNat).isSome=true then .next [.lst (ns.map PV.int),.int p,.int m,ZbY (ns,p),.lst ((Zeh (ns,p) (N+1)).map ZmE),ZbY (its ZbO (N+1) (ns,p))] else .exc ("TooLong",.non)) (by
    rintro ρ rfl
    have hk:=key (N+1)
    rcases hend with ⟨e1,e2⟩|⟨e1,e2,e3⟩
    ·left
     rw[decide_eq_true e2] at hk
     rw[e1]
     refine⟨?_,rfl⟩
     walk_at "pd"
     rw[hk]
     rfl
    ·right
     rw[decide_eq_false e2] at hk
     rw[e1]
     refine⟨?_, ?_,.inl ⟨_,rfl⟩⟩
     ·walk_at "pd"
      rw[hk]
      rfl
     ·walk_at "pd"
      rw[Zeo]
      walk_at "pd"
      rw[Z0K,Zbu,Zs6,show clX (((N+1:Nat):Int)+1) m=(some "TooLong":Option Str) from if_neg (by omega)]
      walk_at "pd"
      rfl)
  rcases hend with ⟨e1,e2⟩|⟨e1,e2,e3⟩
  ·rw[e1] at hW
   rw[show W=_ from hW,show rdX ns p m=none by unfold rdX;rw[hc,e1];rfl,show rdN ns p m=N+1 by unfold rdN;rw[e1]]
   rfl
  ·rw[e1] at hW
   rw[show W=_ from hW,show rdX ns p m=(some "TooLong":Option Str) by unfold rdX;rw[hc,e1];rfl]
   rfl
theorem Zu3 {ns:List Int}{p m:Int} (h:ns.length<=1000):Zsf.fn [.lst (ns.map PV.int),.int p,.int m]=orX (rdX ns p m) (ZlO (Zeh (ns,p) (rdN ns p m))):=Pm.fn_eq Zsf (ns,p,m) h fun(a:List Int×Int×Int) e=>by (simp only[Zsf,List.cons.injEq,PV.lst.injEq,PV.int.injEq,PV.str.injEq,PV.bl.injEq,PV.tup.injEq,ZN,and_true] at e ⊢;first|(simp only[e];done)|(subst e;rfl)|(rw[e]))
noncomputable def ZsA:Pm:=⟨List Int×Int,fun a=>[.lst (a.1.map PV.int),.int a.2],fun a=>(a.1.length<=1000/\Jh a.1=true)/\(0<=a.2/\a.2<a.1.length)/\60<a.1.sum,fun _=>.exc ("TooMany",.non)⟩
theorem Zz4 (T:Txt K mg) {f:Addr}{fd:FuncData} (F:Fun K "gathered" "gathered" ZsV f fd):J5 P w K mg base (CX1 P w) 6 f fd ["board", "pit"] (spF K 2 .F (W1 K) ZsA.fn):=by
 have Zrg:=Jz (P:=P) (w:=w) (base:=base) T.Zsx Zsj (fun F=>Zsi T F)
 have Zwi:=Jz (P:=P) (w:=w) (base:=base) T.Zx7 ZwR (fun F=>ZwP T F)
 have Ztp:=Jz (P:=P) (w:=w) (base:=base) T.Zu2 Zug (fun F=>Zuf T F)
 refine F.okX Zzz rfl rfl (fun cdv A outer s H E hr=>?_)
 have hu:=hr.units
 refine⟨_,_,⟨[],[],[],.F⟩,rfl,(Zi (ZM (Zx Zrg (hr.mono (by decide)) rfl ZB (Za (pv 0) Zg)))
   (Zi (ZM (Zx Zwi (hr.mono (by decide)) rfl ZB (Za (pv 0) (Za (pv 1) Zg))))
   (Zi (ZM (Zx Ztp (hr.mono (by decide)) rfl ZB (Za (pv 0) Zg)))
   J7))),
   (Zp (Γm:=[.S,.S]) (ZY (DE.toA (Zc8 (Zf Zm) (Zc (Zd (i:=0) (m:=.S) rfl (by decide)) Zh))))
   (Zp (Γm:=[.S,.S]) (ZY (DE.toA (Zc8 (Zf (Zf Zm)) (Zc (Zd (i:=0) (m:=.S) rfl (by decide)) (Zc (Zd (i:=1) (m:=.S) rfl (by decide)) Zh)))))
   (Zp (Γm:=[.S,.S]) (ZY (DE.toA (Zc8 (Zf Zm) (Zc (Zd (i:=0) (m:=.S) rfl (by decide)) Zh))))
   JK))), ?_⟩
 refine Pm.ref ZsA (g:=fun xs=>_) ?_
 rintro⟨b,q⟩ ⟨⟨hb,h1⟩,hq,hs⟩
 simp only at hb hq h1 hs
 simp only[ZsA]
 walk_at "pd"
 rw[Zrs hb,if_pos h1]
 walk_at "pd"
 rw[Ztn]
 unfold Zn6
 rw[if_pos hq]
 walk_at "pd"
 rw[Zsk hb]
 unfold ZoS
 rw[if_pos hs]
 walk_at "pd"
theorem Zu6 {b:List Int}{q:Int} (h:(b.length<=1000/\Jh b=true)/\(0<=q/\q<b.length)/\60<b.sum):ZsA.fn [.lst (b.map PV.int),.int q]=.exc ("TooMany",.non):=Pm.fn_eq ZsA (b,q) h fun _ _=>rfl
noncomputable def Zlj (ns:List Int):Option Str:=if Zbr ns then none else some "BadLine"
theorem Zhd {ns:List Int} (h:Zbr ns):Zlj ns=none:=if_pos h
theorem Zb8 {ns:List Int} (h:¬Zbr ns):Zlj ns=(some "BadLine":Option Str):=if_neg h
noncomputable def Zsd:Pm:=⟨List Int,fun ns=>[.lst (ns.map PV.int)],fun ns=>ns.length<=1000000,fun ns=>orX (Zlj ns) .non⟩
theorem Zy9 (T:Txt K mg) {f:Addr}{fd:FuncData} (F:Fun K "check_line" "check_line" Zsp f fd):J5 P w K mg base (CX1 P w) 4 f fd ["line"] (spF K 1 .P (W1 K) Zsd.fn):=by
 have Zrh:=Zca (P:=P) (w:=w) (base:=base) T.Zse ZrP (fun F=>ZrO T F)
 obtain⟨C_BadLine,hC_BadLine,hQ_BadLine⟩:=J6 T.x_exc (n := "BadLine") (by decide)
 refine F.okX Zyz rfl rfl (fun cdv A outer s H E hr=>?_)
 have hu:=hr.units
 refine⟨_,_,⟨[.S],[],[],.P⟩,rfl,(Zi (Jo (PW.pt (ZbW (JZ (JN (ZE Zrh (hr.mono (by decide)) rfl (Za (pv 0) Zg)))) (ZbW (Z2 ZbZ (Zr (ZK (K:=K)) rfl T.z_len JG (Za (pv 0) Zg)) (JI T.c_MOST_LINE_PITS rfl) (Z9 _)) (ZaW (Z2 ZbZ (Zr (JM (K:=K) rfl) rfl T.z_sum Zcj (Za (pv 0) Zg)) (JI T.c_MOST_LINE_SEEDS rfl) (Z9 _)))))) (Zj (Jj J3 hQ_BadLine rfl (T.x_mg _ _ hC_BadLine) rfl (Za Z6 Zg))) Z7)
   (Zj (Jo (PW.pt (ZgF (Z2 ZbZ (Zr (ZK (K:=K)) rfl T.z_len JG (Za (pv 0) Zg)) Zl (Z9 _)) (Zek (PW.pt (ZbW (Z2 (Js (K:=K) hu) (Uk (Jq (K:=K)) (pv 0) Zl (fun _ _=>rfl)) Zl (Z9 _)) (ZaW (Z2 (Js (K:=K) hu) (Uk (Jq (K:=K)) (pv 0) (Zoj ZlF Zl) (fun _ _=>rfl)) Zl (Z9 _)))))))) (Zj (Jj J3 hQ_BadLine rfl (T.x_mg _ _ hC_BadLine) rfl (Za Z6 Zg))) Z7))),
   (Zp (Γm:=[.S]) (Jp (Zcf (Vi (Ze7 (DE.toA (ZjK (Zf Zm) (Pm.calm_fn J0) (Zc (Zd (i:=0) (m:=.S) rfl (by decide)) Zh))))) (Zcf (Z1 (DE.toA (Zch (DE.toA (JF (Zc (Zd (i:=0) (m:=.S) rfl (by decide)) Zh))) (DE.toA Zk)))) (Z1 (DE.toA (Zch (DE.toA (Zcg (Zc (Zd (i:=0) (m:=.S) rfl (by decide)) Zh))) (DE.toA Zk))))))
   (Jk hC_BadLine (Zf Zm) (by decide) (Zc (DE.toA Z5) Zh))
   Z8)
   (Jp (Zhs (Z1 (DE.toA (Zch (DE.toA (JF (Zc (Zd (i:=0) (m:=.S) rfl (by decide)) Zh))) (DE.toA Zk)))) (Zcf (Z1 (DE.toA (Jb (g:=id) (JH (te:=tC .non) (Zd (i:=0) (m:=.S) rfl (by decide)) (DE.toA Zk)) (DE.toA Zk)))) (Z1 (DE.toA (Jb (g:=id) (JH (te:=tC .non) (Zd (i:=0) (m:=.S) rfl (by decide)) (DE.toA (Zmn (DE.toA Zk)))) (DE.toA Zk))))))
   (Jk hC_BadLine (Zf Zm) (by decide) (Zc (DE.toA Z5) Zh))
   Z8)), ?_⟩
 refine Pm.ref Zsd (g:=fun xs=>_) ?_
 intro (ns:List Int) (hn:ns.length<=1000000)
 simp only[Zsd]
 walk_at "pd"
 rw[Zrf hn]
 walk_at "pd"
 by_cases h1:∀x∈ns,0<=x
 ·rw[decide_eq_true h1]
  walk_at "pd"
  by_cases h2:ns.length<=100
  ·rw[decide_eq_false (by omega)]
   walk_at "pd"
   by_cases h3:ns.sum<=100
   ·rw[decide_eq_false (by omega)]
    walk_at "pd"
    by_cases h4:ns=[]
    ·subst h4
     walk_at "pd"
     rw[Zhd ⟨by simp,by simp,by simp,.inl rfl⟩]
     rfl
    ·have hl:0<ns.length:=Z1y.mpr h4
     rw[decide_eq_true (by omega)]
     walk_at "pd"
     rw[ZgM h4]
     walk_at "pd"
     by_cases h5:ns.getD 0 0=0
     ·rw[decide_eq_true h5,Zb8 (fun z=>by rcases z.2.2.2 with z|z;contradiction;exact z.1 h5)]
      walk_at "pd" <;> rfl
     ·rw[decide_eq_false h5]
      walk_at "pd"
      by_cases h6:ns.getD (ns.length-1) 0=0
      ·rw[decide_eq_true h6,Zb8 (fun z=>by rcases z.2.2.2 with z|z;contradiction;exact z.2 h6)]
       walk_at "pd" <;> rfl
      ·rw[decide_eq_false h6,Zhd ⟨h1,h2,h3,.inr ⟨h5,h6⟩⟩]
       walk_at "pd" <;> rfl
   ·rw[decide_eq_true (by omega),Zb8 (fun z=>h3 z.2.2.1)];walk_at "pd" <;> rfl
  ·rw[decide_eq_true (by omega),Zb8 (fun z=>h2 z.2.1)];walk_at "pd" <;> rfl
 ·rw[decide_eq_false h1,Zb8 (fun z=>h1 z.1)];walk_at "pd" <;> rfl
theorem Zt1 {ns:List Int} (h:ns.length<=1000000):Zsd.fn [.lst (ns.map PV.int)]=orX (Zlj ns) .non:=Pm.fn_eq Zsd ns h fun(a:List Int) e=>by (simp only[Zsd,List.cons.injEq,PV.lst.injEq,PV.int.injEq,PV.str.injEq,PV.bl.injEq,PV.tup.injEq,ZN,and_true] at e ⊢;first|(simp only[e];done)|(subst e;rfl)|(rw[e]))
noncomputable def Zti:Pm:=⟨List Int,fun ns=>[.lst (ns.map PV.int)],fun ns=>ns.length<=1000000/\¬Zbr ns,fun _=>.exc ("BadLine",.non)⟩
theorem ZzH (T:Txt K mg) {f:Addr}{fd:FuncData} (F:Fun K "marched" "marched" Zts f fd):J5 P w K mg base (CX1 P w) 5 f fd ["line"] (spF K 1 .F (W1 K) Zti.fn):=by
 have Zzv:=Jz (P:=P) (w:=w) (base:=base) T.Zzm ZyR (fun F=>Zy9 T F)
 refine F.okX ZzE rfl rfl (fun cdv A outer s H E hr=>?_)
 have hu:=hr.units
 refine⟨_,_,⟨[],[],[],.F⟩,rfl,(Zi (ZM (Zx Zzv (hr.mono (by decide)) rfl ZB (Za (pv 0) Zg)))
   J7),
   (Zp (Γm:=[.S]) (ZY (DE.toA (Zc8 (Zf Zm) (Zc (Zd (i:=0) (m:=.S) rfl (by decide)) Zh))))
   JK), ?_⟩
 refine Pm.ref Zti (g:=fun xs=>_) ?_
 rintro(ns:List Int) ⟨hn,h⟩
 simp only[Zti]
 walk_at "pd"
 rw[Zt1 hn,Zb8 h]
 walk_at "pd"
theorem ZvE {ns:List Int} (h:ns.length<=1000000/\¬Zbr ns):Zti.fn [.lst (ns.map PV.int)]=.exc ("BadLine",.non):=Pm.fn_eq Zti ns h fun _ _=>rfl
noncomputable def Zrw:Pm:=⟨Int,fun a=>[.int a],fun a=>0<=a/\a<=10000,fun a=>.ok (.int (kN a:Nat))⟩
theorem ZwW (T:Txt K mg) {f:Addr}{fd:FuncData} (F:Fun K "greatest_step" "greatest_step" Zr0 f fd):J5 P w K mg base CX0 1 f fd ["seeds"] (spF K 1 .P W0 Zrw.fn):=by
 refine F.okP Zt3 rfl rfl (fun cdv A outer s H E hr=>?_)
 have hu:=hr.units
 refine⟨_,_,⟨[],[],[],.P⟩,rfl,(Zi (ZW (i:=1) Zt3.nd rfl (by first|exact Or.inl rfl|exact Or.inr rfl) Zl)
   (Zi (Zel PassesOwn.never (Z2 Zor (ZF Zeq (ZF Zjk (ZF JO (pv 1) Zl) (ZF JO (pv 1) Zl)) Zl) (pv 0) (Z9 _)) (Zj (ZlQ (i:=1) Zt3.nd rfl (by first|exact Or.inl rfl|exact Or.inr rfl) Zl ZjA)))
   (Zj (Zz (pv 1))))),
   (Zp (Γm:=[.S,.P]) (Jt (i:=1) Zk (by decide))
   (Zp (Γm:=[.S,.P]) (Zew (Γ:=[.S,.P]) (Z1 (DE.toA (ZoY (DE.toA (ZjR (DE.toA (Zmo (DE.toA (JR (DE.toA (Z3 (i:=1) rfl)) (DE.toA Zk))) (DE.toA (JR (DE.toA (Z3 (i:=1) rfl)) (DE.toA Zk))))) (DE.toA Zk))) (Zd (i:=0) (m:=.S) rfl (by decide)))))
   (ZjM (i:=1) rfl (DE.toA Zk)))
   (ZC (Z3 (i:=1) rfl)))), ?_⟩
 refine Pm.ref Zrw (g:=fun xs=>_) ?_
 rintro(s:Int) ⟨h0,h1⟩
 simp only[Zrw]
 obtain⟨k1,k2,k3⟩:=Zgf h0
 walk_at "pd"
 generalize hw:Zbt _ _ _=W
 obtain⟨ρ',rfl,rfl⟩:=ZfB hw (kN s) (fun(i:Nat) ρ=>ρ=[.int s,.int i]) rfl (by
  rintro j ρ hj rfl
  constructor
  ·walk_at "pd"
   rw[Zi3,decide_eq_true (by have:=Zg3 (show j+1<=kN s by omega);omega)]
  ·walk_at "pd"
   exact ZeR (by rw[show ((j+1:Nat):Int)=(j:Int)+1 by omega])) (by
  rintro ρ rfl
  walk_at "pd"
  rw[Zi3,decide_eq_false (by omega)])
 walk_at "pd"
theorem ZsF {s:Int} (h:0<=s/\s<=10000):Zrw.fn [.int s]=.ok (.int (kN s:Nat)):=Pm.fn_eq Zrw s h fun(a:Int) e=>by (simp only[Zrw,List.cons.injEq,PV.lst.injEq,PV.int.injEq,PV.str.injEq,PV.bl.injEq,PV.tup.injEq,ZN,and_true] at e ⊢;first|(simp only[e];done)|(subst e;rfl)|(rw[e]))
theorem ZmJ {z:Int}:ZkR id (.int z) (.tup [.int 0,.int 1])=.ok (.bl (decide (z=0\/z=1))):=by
 have h:=Zjd (g:=id) (i:=z) (ns:=[0,1])
 have e:decide (z∈([0,1]:List Int))=decide (z=0\/z=1):=decide_eq_decide.mpr (by simp)
 rw[e] at h
 exact h
noncomputable def ZnC (l:List Int):List Int:=(List.range (kN l.sum+1)).map fun(i:Nat)=>adI l (kN l.sum) i
open Classical in
noncomputable def Znv (l:List Int):PV:=if Row l then .lst ((ZnC l).map PV.int) else .non
noncomputable def Zrm:Pm:=⟨List Int,fun a=>[.lst (a.map PV.int)],fun a=>Zbr a,fun a=>.ok (Znv a)⟩
theorem Zya (T:Txt K mg) {f:Addr}{fd:FuncData} (F:Fun K "added_seeds" "added_seeds" ZrZ f fd):J5 P w K mg base CX0 2 f fd ["line"] (spF K 1 .F W0 Zrm.fn):=by
 have ZxM:=Zca (P:=P) (w:=w) (base:=base) T.Zx6 Zxb (fun F=>ZwW T F)
 refine F.okP Zs3 rfl rfl (fun cdv A outer s H E hr=>?_)
 have hu:=hr.units
 refine⟨_,_,⟨[],[],[],.F⟩,rfl,(Zi (ZW (i:=1) Zs3.nd rfl (by first|exact Or.inl rfl|exact Or.inr rfl) (ZE ZxM (hr.mono (by decide)) rfl (Za (Zr (JM (K:=K) rfl) rfl T.z_sum Zcj (Za (pv 0) Zg)) Zg)))
   (Zi (Jo (Z2 ZbZ (Zr (ZK (K:=K)) rfl T.z_len JG (Za (pv 0) Zg)) (ZF JO (pv 1) Zl) (Z9 _)) (Zj (Zz ZgJ)) Z7)
   (Zi (ZW (i:=2) Zs3.nd rfl (by first|exact Or.inl rfl|exact Or.inr rfl) (ZF (Zbx (K:=K)) (pv 0) (ZF Zjj (Jl (Za Zl Zg)) (ZF ZcU (ZF JO (pv 1) Zl) (Zr (ZK (K:=K)) rfl T.z_len JG (Za (pv 0) Zg))))))
   (Zi (ZcN (i:=3) Zs3.nd rfl (Zem (K:=K) rfl T.z_enumerate (Za (pv 2) Zg)) (ZkJ (K:=K) Zs3.nd rfl) (fun _ _ _ _=>ZiU) (fun _ _ _ _=>(ZF ZcU (pv 5) (ZF ZcU (pv 1) (pv 4)))) hv2 rfl)
   (Zi (Jo (JZ (JN (Zr (Ui (K:=K) rfl) rfl T.z_all Zd2 (Za (Um (Ul (K:=K) (pv 3)) (fun _ _ _ _=>(JV (Zmd (K:=K) hu) (pv 4) (ZcO (Za Zl (Za Zl Zg))) rfl)) Zs3.nd rfl) Zg)))) (Zj (Zz ZgJ)) Z7)
   (Zj (Zz (pv 3)))))))),
   (Zp (Γm:=[.S,.P,.U,.U]) (Jt (i:=1) (ZjU (Zf Zm) (Zc (DE.toA (Zcg (Zc (Zd (i:=0) (m:=.S) rfl (by decide)) Zh))) Zh)) (by decide))
   (Zp (Γm:=[.S,.P,.U,.U]) (Jp (Z1 (DE.toA (Zch (DE.toA (JF (Zc (Zd (i:=0) (m:=.S) rfl (by decide)) Zh))) (DE.toA (JR (DE.toA (Z3 (i:=1) rfl)) (DE.toA Zk))))))
   (Jy (DE.PF ZjQ))
   Z8)
   (Zp (Γm:=[.S,.P,.O,.U]) (JA (i:=2) (Zb2 (Zd (i:=0) (m:=.S) rfl (by decide)) (DE.toA (Zgo (Zc (DE.toA Zk) Zh) (DE.toA (Zdu (DE.toA (JR (DE.toA (Z3 (i:=1) rfl)) (DE.toA Zk))) (DE.toA (JF (Zc (Zd (i:=0) (m:=.S) rfl (by decide)) Zh)))))))) (by decide))
   (Zp (Γm:=[.S,.P,.O,.O]) (ZaT (i:=3) (Zhv (k:=2) (Zly (Zc (Zd (i:=2) (m:=.O) rfl (by decide)) Zh)) ZqS Zml (DE.PF (Zdu (Zd (i:=5) (m:=.S) rfl (by decide)) (DE.toA (Zdu (DE.toA (Z3 (i:=1) rfl)) (Zd (i:=4) (m:=.S) rfl (by decide))))))) (by decide))
   (Zp (Γm:=[.S,.P,.O,.O]) (Jp (Vi (Ze7 (DE.toA (Zdw (Zc (DE.toA (JL (Zex (Zd (i:=3) (m:=.O) rfl (by decide))) (DE.PF (Zmp (g:=id) (Zd (i:=4) (m:=.S) rfl (by decide)) (Ze0 (Zc (DE.toA Zk) (Zc (DE.toA Zk) Zh))))))) Zh)))))
   (Jy (DE.PF ZjQ))
   Z8)
   (Jy (Zcz (i:=3) rfl))))))), ?_⟩
 refine Pm.ref Zrm (g:=fun xs=>_) ?_
 rintro(l:List Int) (hl:Zbr l)
 simp only[Zrm]
 have s0:=ZnW hl.1
 have s1:=hl.2.2.1
 have n1:=hl.2.1
 obtain⟨k1,k2,k3⟩:=Zgf s0
 walk_at "pd"
 rw[ZsF ⟨by omega,by omega⟩]
 walk_at "pd"
 by_cases c:((kN l.sum:Nat):Int)+1<l.length
 ·rw[decide_eq_true c]
  walk_at "pd"
  unfold Znv
  rw[if_neg]
  intro hr
  have:=Zo1 hl (n:=kN l.sum+1) fun i hi=>hr.z i (by omega)
  omega
 ·rw[decide_eq_false c]
  walk_at "pd"
  generalize hP:l++List.replicate (((kN l.sum:Nat):Int)+1-l.length).toNat 0=P
  have hPl:P.length=kN l.sum+1:=by rw[<- hP,Z0Z,Z17];omega
  have hPg:∀i,P.getD i 0=l.getD i 0:=fun i=>by
   rw[<- hP]
   by_cases e:i<l.length
   ·simp[Z09,Z0J e]
   ·rw[Zhn (ns:=l) (by omega)]
    simp only[Z09,Z0L (show l.length<=i by omega),Z1p]
    split<;>rfl
  rw[ZjH (g:=fun i=>.int (adI l (kN l.sum) i)) (fun i hi=>by
   walk_at "pd"
   rw[hPg]
   rfl)]
  rw[Zeu (by rw[Zgl,Z0K];omega)]
  walk_at "pd"
  rw[hPl,show (List.range (kN l.sum+1)).map (fun(i:Nat)=>PV.int (adI l (kN l.sum) i))=(ZnC l).map PV.int by unfold ZnC;rw[Z11];rfl]
  have hal:(ZnC l).length=kN l.sum+1:=by unfold ZnC;simp
  walk_at "pd"
  rw[Zga (g:=fun z=>decide (z=0\/z=1)) (fun z _=>by
   walk_at "pd"
   exact ZmJ)]
  walk_at "pd"
  rw[Zgu]
  have hiff:(∀x∈ZnC l,x=0\/x=1) ↔ Row l:=by
   constructor
   ·intro hx
    refine⟨k1,k2,fun i hi=>?_,fun i hi=>Zhn (by omega)⟩
    have:=hx (adI l (kN l.sum) i) (Z1e.mpr ⟨i,Z1a.mpr (by omega),rfl⟩)
    omega
   ·intro hr x hx
    obtain⟨i,hi,rfl⟩:=Z1e.mp hx
    have:=hr.ad i (by have:=Z1a.mp hi;omega)
    omega
  unfold Znv
  by_cases hr:Row l
  ·rw[if_pos hr,decide_eq_true (hiff.mpr hr)]
   walk_at "pd"
  ·rw[if_neg hr,decide_eq_false (fun z=>hr (hiff.mp z))]
   walk_at "pd"
theorem Ztd {l:List Int} (h:Zbr l):Zrm.fn [.lst (l.map PV.int)]=.ok (Znv l):=Pm.fn_eq Zrm l h fun(a:List Int) e=>by (simp only[Zrm,List.cons.injEq,PV.lst.injEq,PV.int.injEq,PV.str.injEq,PV.bl.injEq,PV.tup.injEq,ZN,and_true] at e ⊢;first|(simp only[e];done)|(subst e;rfl)|(rw[e]))
theorem Zd6:Zrm.calm:=fun a q h=>by (simp only[Zrm] at h;cases h)
noncomputable def Zth:Pm:=⟨Unit,fun _=>[],fun _=>False,fun _=>.bad⟩
theorem Zz0 (T:Txt K mg) {f:Addr}{fd:FuncData} (F:Fun K "row_with" "row_with" ZsR f fd):J5 P w K mg base CX0 2 f fd ["added"] (spF K 1 .F W0 Zth.fn):=by
 refine F.okP Zxf rfl rfl (fun cdv A outer s H E hr=>?_)
 have hu:=hr.units
 refine⟨_,_,⟨[],[],[],.F⟩,rfl,(Zi (ZW (i:=1) Zxf.nd rfl (by first|exact Or.inl rfl|exact Or.inr rfl) (ZF ZcU (Zr (ZK (K:=K)) rfl T.z_len JG (Za (pv 0) Zg)) Zl))
   J7),
   (Zp (Γm:=[.S,.P]) (Jt (i:=1) (Zdu (DE.toA (JF (Zc (Zd (i:=0) (m:=.S) rfl (by decide)) Zh))) (DE.toA Zk)) (by decide))
   JK), ?_⟩
 refine Pm.ref Zth (g:=fun xs=>_) ?_
 rintro _ h
 exact h.elim
theorem ZfU:Zth.calm:=fun a q h=>by (simp only[Zth] at h;cases h)
noncomputable def ZrM:Pm:=⟨Int,fun m=>[.lst [.int 1,.int m]],fun m=>3<=m/\m<=11,fun _=>.exc ("BadRow",.non)⟩
theorem Zow {m:Int} (h0:3<=m) (h1:m<=11):Znv [1,m]=.non:=by
 unfold Znv
 refine if_neg fun hr=>?_
 have hs:([1,m]:List Int).sum=1+m:=by simp
 have h2:2<=kN ([1,m]:List Int).sum:=by
  obtain⟨k1,k2,k3⟩:=Zgf (s:=([1,m]:List Int).sum) (by rw[hs];omega)
  rw[hs] at k1 k2 k3 ⊢
  by_cases q:2<=kN (1+m)
  ·exact q
  ·have:kN (1+m)=0\/kN (1+m)=1:=by omega
   rcases this with e|e<;>rw[e] at k2<;>simp[tri] at k2<;>omega
 have a1:=(hr.ad 0 (Z16 _)).1
 have e:adI [1,m] (kN ([1,m]:List Int).sum) 0=1-(kN ([1,m]:List Int).sum:Int):=by unfold adI;simp
 rw[e] at a1
 omega
theorem Zxy (T:Txt K mg) {f:Addr}{fd:FuncData} (F:Fun K "added_in_row" "added_in_row" ZrC f fd):J5 P w K mg base (CX1 P w) 4 f fd ["row"] (spF K 1 .F (W1 K) ZrM.fn):=by
 have Zzc:=Zca (P:=P) (w:=w) (base:=base) T.ZyL Zyn (fun F=>Zya T F)
 have Zrh:=Zca (P:=P) (w:=w) (base:=base) T.Zse ZrP (fun F=>ZrO T F)
 have ZzU:=Zca (P:=P) (w:=w) (base:=base) T.ZzL Zz7 (fun F=>Zz0 T F)
 obtain⟨C_BadRow,hC_BadRow,hQ_BadRow⟩:=J6 T.x_exc (n := "BadRow") (by decide)
 refine F.okX Zvs rfl rfl (fun cdv A outer s H E hr=>?_)
 have hu:=hr.units
 refine⟨_,_,⟨[],[],[],.F⟩,rfl,(Zi (Jo (PW.pt (ZbW (JZ (JN (ZE Zrh (hr.mono (by decide)) rfl (Za (pv 0) Zg)))) (ZaW (Z2 ZbZ (Zr (JM (K:=K) rfl) rfl T.z_sum Zcj (Za (pv 0) Zg)) (JI T.c_MOST_ROW_SEEDS rfl) (Z9 _))))) (Zj (Jj J3 hQ_BadRow rfl (T.x_mg _ _ hC_BadRow) rfl (Za Z6 Zg))) Z7)
   (Zi (ZW (i:=1) Zvs.nd rfl (by first|exact Or.inl rfl|exact Or.inr rfl) (ZE Zzc (hr.mono (by decide)) rfl (Za (pv 0) Zg)))
   (Zi (Jo (PW.pt (ZbW (Z2 Zos (pv 1) ZgJ (Z9 _)) (ZaW (Z2 (Zc3 (K:=K) hu) (ZE ZzU (hr.mono (by decide)) rfl (Za (pv 1) Zg)) (pv 0) (Z9 _))))) (Zj (Jj J3 hQ_BadRow rfl (T.x_mg _ _ hC_BadRow) rfl (Za Z6 Zg))) Z7)
   (Zj (Zz (pv 1)))))),
   (Zp (Γm:=[.S,.U]) (Jp (Zcf (Vi (Ze7 (DE.toA (ZjK (Zf Zm) (Pm.calm_fn J0) (Zc (Zd (i:=0) (m:=.S) rfl (by decide)) Zh))))) (Z1 (DE.toA (Zch (DE.toA (Zcg (Zc (Zd (i:=0) (m:=.S) rfl (by decide)) Zh))) (DE.toA Zk)))))
   (Jk hC_BadRow (Zf Zm) (by decide) (Zc (DE.toA Z5) Zh))
   Z8)
   (Zp (Γm:=[.S,.O]) (JA (i:=1) (ZnA (Zf Zm) (Pm.calm_fn Zd6) (Zc (Zd (i:=0) (m:=.S) rfl (by decide)) Zh)) (by decide))
   (Zp (Γm:=[.S,.O]) (Jp (Zcf (Z1 (DE.toA (Zpb (Zd (i:=1) (m:=.O) rfl (by decide))))) (Z1 (DE.toA (Jb (g:=(!·)) (DE.toA (ZnA (Zf Zm) (Pm.calm_fn ZfU) (Zc (Zd (i:=1) (m:=.O) rfl (by decide)) Zh))) (Zd (i:=0) (m:=.S) rfl (by decide))))))
   (Jk hC_BadRow (Zf Zm) (by decide) (Zc (DE.toA Z5) Zh))
   Z8)
   (Jy (Zcz (i:=1) rfl))))), ?_⟩
 refine Pm.ref ZrM (g:=fun xs=>_) ?_
 rintro(m:Int) ⟨h0,h1⟩
 simp only[ZrM]
 have hl:Zbr [1,m]:=⟨fun x hx=>by simp at hx;omega,by simp,by simp;omega,by simp;omega⟩
 walk_at "pd"
 rw[show [PV.int 1,PV.int m]=([1,m]:List Int).map PV.int from rfl,Zrf (by simp),decide_eq_true hl.1]
 walk_at "pd"
 rw[show Zpr [PV.lst [PV.int 1,PV.int m]]=.ok (.int (1+m)) by
  have:=ZcR [1,m]
  simpa using this]
 walk_at "pd"
 rw[decide_eq_false (show ¬2000<1+m by omega)]
 walk_at "pd"
 rw[show Zrm.fn [PV.lst [PV.int 1,PV.int m]]=.ok (Znv [1,m]) from Ztd hl,Zow h0 h1]
 walk_at "pd"
theorem ZsO {m:Int} (h:3<=m/\m<=11):ZrM.fn [.lst [.int 1,.int m]]=.exc ("BadRow",.non):=Pm.fn_eq ZrM m h fun _ _=>rfl
noncomputable def Zr5:Pm:=⟨Int,fun m=>[.lst [.int 1,.int m]],fun m=>3<=m/\m<=11,fun _=>.exc ("BadRow",.non)⟩
theorem ZwV (T:Txt K mg) {f:Addr}{fd:FuncData} (F:Fun K "number_of_row" "number_of_row" Zry f fd):J5 P w K mg base (CX1 P w) 5 f fd ["row"] (spF K 1 .P (W1 K) Zr5.fn):=by
 have Zyu:=Jz (P:=P) (w:=w) (base:=base) T.Zyh ZxF (fun F=>Zxy T F)
 refine F.okX ZrQ rfl rfl (fun cdv A outer s H E hr=>?_)
 have hu:=hr.units
 refine⟨_,_,⟨[],[],[],.P⟩,rfl,(Zi (ZW (i:=1) ZrQ.nd rfl (by first|exact Or.inl rfl|exact Or.inr rfl) (Zx Zyu (hr.mono (by decide)) rfl ZB (Za (pv 0) Zg)))
   (Zi (ZW (i:=2) ZrQ.nd rfl (by first|exact Or.inl rfl|exact Or.inr rfl) (Zr (JM (K:=K) rfl) rfl T.z_sum Zcj (Za (pv 1) Zg)))
   (Zi (ZW (i:=3) ZrQ.nd rfl (by first|exact Or.inl rfl|exact Or.inr rfl) Zl)
   (Zi (PS.nox (ZeK PassesOwn.never rfl (Zem (K:=K) rfl T.z_enumerate (Za (pv 1) Zg)) (ZiR rfl (Zb5 (ZaR (i:=4) ZrQ.nd rfl (by first|exact Or.inl rfl|exact Or.inr rfl)) (Zb5 (ZaR (i:=5) ZrQ.nd rfl (by first|exact Or.inl rfl|exact Or.inr rfl)) ZfS))) (Zj (Jo (Z2 (Js (K:=K) hu) (pv 5) Zl (Z9 _)) J7 Z7))))
   (Zj (Zz (pv 3))))))),
   (Zp (Γm:=[.S,.O,.U,.U,.U,.U]) (JA (i:=1) (Zhr (Zf Zm) (Zc (Zd (i:=0) (m:=.S) rfl (by decide)) Zh)) (by decide))
   (Zp (Γm:=[.S,.O,.P,.U,.U,.U]) (Jt (i:=2) (Zcg (Zc (Zd (i:=1) (m:=.O) rfl (by decide)) Zh)) (by decide))
   (Zp (Γm:=[.S,.O,.P,.P,.U,.U]) (Jt (i:=3) Zk (by decide))
   (Zp (Γm:=[.S,.S,.P,.P,.U,.U]) (Zfq (Γl:=[.S,.S,.P,.P,.U,.U]) (ZjN (QF (Zez (i:=1) (m:=.O) rfl (by decide)) Zdx)) rfl (Zmm (n:=2) (ZcC (Znh (i:=4) (by decide)) (ZcC (Znh (i:=5) (by decide)) ZjO)))
   (DS.out (Y:=⟨[.S,.S,.P,.P,.P,.P],[.S,.S,.P,.P,.U,.U],[.S,.S,.P,.P,.U,.U],.P⟩) (Y':=⟨[.S,.S,.P,.P,.U,.U],[.S,.S,.P,.P,.U,.U],[.S,.S,.P,.P,.U,.U],.P⟩) (Jp (Z1 (DE.toA (Jb (g:=id) (DE.toA (Z3 (i:=5) rfl)) (DE.toA Zk))))
   JK
   Z8) rfl rfl rfl rfl))
   (ZC (Z3 (i:=3) rfl)))))), ?_⟩
 refine Pm.ref Zr5 (g:=fun xs=>_) ?_
 rintro(m:Int) h
 simp only[Zr5]
 walk_at "pd"
 rw[ZsO h]
 walk_at "pd"
theorem ZsE {m:Int} (h:3<=m/\m<=11):Zr5.fn [.lst [.int 1,.int m]]=.exc ("BadRow",.non):=Pm.fn_eq Zr5 m h fun _ _=>rfl
noncomputable def Zeg (ns:List Int):Option Str:=if Zed ns then none else some "BadYard"
noncomputable def Zsc:Pm:=⟨List Int,fun ns=>[.lst (ns.map PV.int)],fun ns=>ns.length<=1000000,fun ns=>orX (Zeg ns) .non⟩
theorem Zy7 (T:Txt K mg) {f:Addr}{fd:FuncData} (F:Fun K "check_yard" "check_yard" Zsn f fd):J5 P w K mg base (CX1 P w) 4 f fd ["yard"] (spF K 1 .P (W1 K) Zsc.fn):=by
 have Zrh:=Zca (P:=P) (w:=w) (base:=base) T.Zse ZrP (fun F=>ZrO T F)
 obtain⟨C_BadYard,hC_BadYard,hQ_BadYard⟩:=J6 T.x_exc (n := "BadYard") (by decide)
 refine F.okX Zyx rfl rfl (fun cdv A outer s H E hr=>?_)
 have hu:=hr.units
 refine⟨_,_,⟨[.S],[],[],.P⟩,rfl,(Zi (Jo (PW.pt (ZbW (JZ (JN (ZE Zrh (hr.mono (by decide)) rfl (Za (pv 0) Zg)))) (ZbW (Z2 ZbZ (Zr (ZK (K:=K)) rfl T.z_len JG (Za (pv 0) Zg)) (JI T.c_MOST_YARD_PITS rfl) (Z9 _)) (ZaW (Z2 ZbZ (Zr (JM (K:=K) rfl) rfl T.z_sum Zcj (Za (pv 0) Zg)) (JI T.c_MOST_YARD_SEEDS rfl) (Z9 _)))))) (Zj (Jj J3 hQ_BadYard rfl (T.x_mg _ _ hC_BadYard) rfl (Za Z6 Zg))) Z7)
   (Zj (Jo (PW.pt (ZgF (Z2 ZbZ (Zr (ZK (K:=K)) rfl T.z_len JG (Za (pv 0) Zg)) Zl (Z9 _)) (Zek (Z2 (Js (K:=K) hu) (Uk (Jq (K:=K)) (pv 0) (Zoj ZlF Zl) (fun _ _=>rfl)) Zl (Z9 _))))) (Zj (Jj J3 hQ_BadYard rfl (T.x_mg _ _ hC_BadYard) rfl (Za Z6 Zg))) Z7))),
   (Zp (Γm:=[.S]) (Jp (Zcf (Vi (Ze7 (DE.toA (ZjK (Zf Zm) (Pm.calm_fn J0) (Zc (Zd (i:=0) (m:=.S) rfl (by decide)) Zh))))) (Zcf (Z1 (DE.toA (Zch (DE.toA (JF (Zc (Zd (i:=0) (m:=.S) rfl (by decide)) Zh))) (DE.toA Zk)))) (Z1 (DE.toA (Zch (DE.toA (Zcg (Zc (Zd (i:=0) (m:=.S) rfl (by decide)) Zh))) (DE.toA Zk))))))
   (Jk hC_BadYard (Zf Zm) (by decide) (Zc (DE.toA Z5) Zh))
   Z8)
   (Jp (Zhs (Z1 (DE.toA (Zch (DE.toA (JF (Zc (Zd (i:=0) (m:=.S) rfl (by decide)) Zh))) (DE.toA Zk)))) (Z1 (DE.toA (Jb (g:=id) (JH (te:=tC .non) (Zd (i:=0) (m:=.S) rfl (by decide)) (DE.toA (Zmn (DE.toA Zk)))) (DE.toA Zk)))))
   (Jk hC_BadYard (Zf Zm) (by decide) (Zc (DE.toA Z5) Zh))
   Z8)), ?_⟩
 refine Pm.ref Zsc (g:=fun xs=>_) ?_
 intro (ns:List Int) (hn:ns.length<=1000000)
 simp only[Zsc]
 walk_at "pd"
 rw[Zrf hn]
 walk_at "pd"
 by_cases h1:∀x∈ns,0<=x
 ·rw[decide_eq_true h1]
  walk_at "pd"
  by_cases h2:ns.length<=200
  ·rw[decide_eq_false (by omega)]
   walk_at "pd"
   by_cases h3:ns.sum<=10000
   ·rw[decide_eq_false (by omega)]
    walk_at "pd"
    by_cases h4:ns=[]
    ·subst h4
     walk_at "pd"
     rw[show Zeg []=none from if_pos ⟨by simp,by simp,by simp,.inl rfl⟩]
     rfl
    ·have hl:0<ns.length:=Z1y.mpr h4
     rw[decide_eq_true (by omega)]
     walk_at "pd"
     rw[ZgM h4]
     walk_at "pd"
     by_cases h5:ns.getD (ns.length-1) 0=0
     ·rw[decide_eq_true h5,show Zeg ns=(some "BadYard":Option Str) from if_neg (fun z=>by rcases z.2.2.2 with z|z<;>contradiction)]
      walk_at "pd" <;> rfl
     ·rw[decide_eq_false h5,show Zeg ns=none from if_pos ⟨h1,h2,h3,.inr h5⟩]
      walk_at "pd" <;> rfl
   ·rw[decide_eq_true (by omega),show Zeg ns=(some "BadYard":Option Str) from if_neg (fun z=>h3 z.2.2.1)];walk_at "pd" <;> rfl
  ·rw[decide_eq_true (by omega),show Zeg ns=(some "BadYard":Option Str) from if_neg (fun z=>h2 z.2.1)];walk_at "pd" <;> rfl
 ·rw[decide_eq_false h1,show Zeg ns=(some "BadYard":Option Str) from if_neg (fun z=>h1 z.1)];walk_at "pd" <;> rfl
theorem Ztz {ns:List Int} (h:ns.length<=1000000):Zsc.fn [.lst (ns.map PV.int)]=orX (Zeg ns) .non:=Pm.fn_eq Zsc ns h fun(a:List Int) e=>by (simp only[Zsc,List.cons.injEq,PV.lst.injEq,PV.int.injEq,PV.str.injEq,PV.bl.injEq,PV.tup.injEq,ZN,and_true] at e ⊢;first|(simp only[e];done)|(subst e;rfl)|(rw[e]))
noncomputable def Zr4:Pm:=⟨List Int,fun ns=>[.lst (ns.map PV.int)],fun ns=>ns.length<=1000000/\¬Zed ns,fun _=>.exc ("BadYard",.non)⟩
theorem Zxx (T:Txt K mg) {f:Addr}{fd:FuncData} (F:Fun K "brought_home" "brought_home" ZrB f fd):J5 P w K mg base (CX1 P w) 5 f fd ["yard"] (spF K 1 .F (W1 K) Zr4.fn):=by
 have Zzt:=Jz (P:=P) (w:=w) (base:=base) T.Zzk ZyP (fun F=>Zy7 T F)
 refine F.okX Zxh rfl rfl (fun cdv A outer s H E hr=>?_)
 have hu:=hr.units
 refine⟨_,_,⟨[],[],[],.F⟩,rfl,(Zi (ZM (Zx Zzt (hr.mono (by decide)) rfl ZB (Za (pv 0) Zg)))
   J7),
   (Zp (Γm:=[.S,.U,.U]) (ZY (DE.toA (Zc8 (Zf Zm) (Zc (Zd (i:=0) (m:=.S) rfl (by decide)) Zh))))
   JK), ?_⟩
 refine Pm.ref Zr4 (g:=fun xs=>_) ?_
 rintro(ns:List Int) ⟨hn,h⟩
 simp only[Zr4]
 walk_at "pd"
 rw[Ztz hn,show Zeg ns=(some "BadYard":Option Str) from if_neg h]
 walk_at "pd"
theorem ZsN {ns:List Int} (h:ns.length<=1000000/\¬Zed ns):Zr4.fn [.lst (ns.map PV.int)]=.exc ("BadYard",.non):=Pm.fn_eq Zr4 ns h fun _ _=>rfl
noncomputable def Zs0:Pm:=⟨Bk,fun k=>[bkP none k],fun k=>k.ds=[],fun _=>.exc ("NoDeed",.non)⟩
theorem ZwX (T:Txt K mg) {f:Addr}{fd:FuncData} (F:Fun K "undo" "RingBook.undo" Zrl f fd):J5 P w K mg base (CX1 P w) 1 f fd ["self"] (spF K 1 .P (W1 K) Zs0.fn):=by
 obtain⟨C_NoDeed,hC_NoDeed,hQ_NoDeed⟩:=J6 T.x_exc (n := "NoDeed") (by decide)
 refine F.okX ZwU rfl rfl (fun cdv A outer s H E hr=>?_)
 have hu:=hr.units
 refine⟨_,_,⟨[],[],[],.P⟩,rfl,(Zi (Jo (Z2 (Js (K:=K) hu) (Zr (ZK (K:=K)) rfl T.z_len JG (Za (ZmA (pv 0)) Zg)) Zl (Z9 _)) (Zj (Jj J3 hQ_NoDeed rfl (T.x_mg _ _ hC_NoDeed) rfl (Za Z6 Zg))) Z7)
   J7),
   (Zp (Γm:=[.S]) (Jp (Z1 (DE.toA (Jb (g:=id) (DE.toA (JF (Zc (Znn (fs:=JX) (n := "RingBook") (Zci T.o_RingBook) (by decide) (Zd (i:=0) (m:=.S) rfl (by decide))) Zh))) (DE.toA Zk))))
   (Jk hC_NoDeed (Zf Zm) (by decide) (Zc (DE.toA Z5) Zh))
   Z8)
   JK), ?_⟩
 refine Pm.ref Zs0 (g:=fun xs=>_) ?_
 rintro(k:Bk) (h:k.ds=[])
 simp only[Zs0]
 walk_at "pd"
 rw[ZqW,h]
 walk_at "pd"
 rw[Zeo]
 walk_at "pd"
 rfl
theorem Zx9 {k:Bk} (h:k.ds=[]):Zs0.fn [bkP none k]=.exc ("NoDeed",.non):=Pm.fn_eq Zs0 k h fun _ _=>rfl
noncomputable def Zrj:Pm:=⟨List Int,fun ns=>[.box none (.ob "RingBook" []) [],.lst (ns.map PV.int)],fun ns=>Jh ns=true/\ns.length<=1000,fun ns=>.ok (.tup [.non,bkP none ⟨[ns],[],[]⟩])⟩
theorem ZvQ (T:Txt K mg) {f:Addr}{fd:FuncData} (F:Fun K "__init__" "RingBook.__init__" Zrd f fd):J5 P w K mg base CX0 6 f fd ["self", "board"] (spM K 1 0 Zrj.fnM):=by
 have Zrg:=Jz (P:=P) (w:=w) (base:=base) T.Zsx Zsj (fun F=>Zsi T F)
 refine F.okM (n:=1) (j:=0) ZvP rfl rfl (by decide) (fun cdv A outer s H E hr=>?_)
 have hu:=hr.units
 refine⟨_,_,⟨[.O,.S],[],[],.N⟩,rfl,rfl,(Zi (ZM (Zx Zrg (hr.mono (by decide)) rfl ZmD (Za (pv 1) Zg)))
   (Zi (ZfR (pv 0) (Jl (Za (Zm9 (ZbX (Zc1 (K:=K)) rfl T.z_list Zd0 (Za (pv 1) Zg))) Zg)))
   (Zi (ZfR (pv 0) (Jl Zg))
   (Zj (ZfR (pv 0) (Jl Zg)))))),
   (Zp (Γm:=[.O,.S]) (ZY (DE.toA (ZqR (Zf Zm) (Zc (Zd (i:=1) (m:=.S) rfl (by decide)) Zh))))
   (Zp (Γm:=[.O,.S]) (Zdr (i:=0) (fs:=JX) (n := "RingBook") (fl := "boards") (Zci T.o_RingBook) (by decide) rfl (Ja (Zn (DE.PF (Znm (Ze1 (Zc (Zd (i:=1) (m:=.S) rfl (by decide)) Zh)))) ZO)))
   (Zp (Γm:=[.O,.S]) (Zdr (i:=0) (fs:=JX) (n := "RingBook") (fl := "deeds") (Zci T.o_RingBook) (by decide) rfl (Ja ZO))
   (Zdr (i:=0) (fs:=JX) (n := "RingBook") (fl := "undone") (Zci T.o_RingBook) (by decide) rfl (Ja ZO))))), ?_⟩
 refine Pm.refM2 Zrj ?_
 rintro(ns:List Int) ⟨h0,h1⟩ a b' xs e
 cases e
 simp only[Zrj]
 simp only[ins,ZpE]
 walk_at "pd"
 rw[Zrs h1,if_pos h0]
 walk_at "pd"
 rw[Zlx,ZoM]
 walk_at "pd"
 rw[Zqg]
 walk_at "pd"
 rw[Zqf]
 walk_at "pd"
 rw[Zqe]
 walk_at "pd"
 rfl
theorem Zwe {ns:List Int} (h0:Jh ns=true) (h1:ns.length<=1000):Zn7 "RingBook" Zrj.fnM [.lst (ns.map PV.int)]=.ok (bkP none ⟨[ns],[],[]⟩):=
 ZmU (Pm.fn_eq Zrj ns ⟨h0,h1⟩ fun(b:List Int) e=>by
  simp only[Zrj,List.cons.injEq,PV.lst.injEq,and_true,true_and] at e ⊢
  rw[JE e])
noncomputable def nmO (w:Int):Str:=if w=7 then "TooLong" else if w=8 then "TooMany" else if w=9 then "BadLine" else if w=10 then "BadRow" else if w=11 then "BadYard" else if w=12 then "NoDeed" else "BadText"
theorem Zkf (a b:Str):(a++b).cps.toList=a.cps.toList++b.cps.toList:=by
 show (a.cps++b.cps).toList=_
 exact Array.toList_append
theorem ZpS {f:Int}:(Str.ofString "1 0" ++ Zf6 f).length=3+(Zf6 f).length:=by
 show (Str.ofString "1 0" ++ Zf6 f).cps.size=_
 rw[<- Z1j,Zkf,Z0Z,ZkZ]
 rfl
theorem ZpU {f:Int} (h:0<=f):Zgb (Str.ofString "1 0" ++ Zf6 f):=ZmX (by unfold Zgb;rw[PyData.canLay0];decide +kernel) (ZmP h)
theorem ZoD (x:Str):Str.join spS [Str.ofString "1",Str.ofString "0" ++ x]=Str.ofString "1 0" ++ x:=by
 refine Str.ext' (Z1x.mp ?_)
 rw[show spS=⟨#[32]⟩ from rfl,ZaM,Zkf]
 show _++32::(Str.ofString "0" ++ x).cps.toList=_
 rw[Zkf,show (Str.ofString "1 0").cps.toList=(Str.ofString "1").cps.toList++32::(Str.ofString "0").cps.toList by decide]
 simp
theorem Zmv {f:Int} (h:0<=f):ZbE (Str.ofString "1 0" ++ Zf6 f)=[Str.ofString "1",Str.ofString "0" ++ Zf6 f]:=by
 unfold ZbE
 rw[<- ZoD]
 refine Zh5 (by simp) fun w hw=>?_
 simp only[Z0G,Z1B,or_false] at hw
 rcases hw with rfl|rfl
 ·decide
 ·rw[Zkf]
  intro z
  rcases Z0F.mp z with z|z
  ·revert z;decide
  ·have:=ZgT h _ z;omega
theorem ZqO {f:Int} (h:0<=f):[Str.ofString "1",Str.ofString "0" ++ Zf6 f].all ZhL=false:=by
 have:ZhL (Str.ofString "0" ++ Zf6 f)=false:=by
  unfold ZhL ZpQ
  rw[Zkf,show (Str.ofString "0").cps.toList=[48] by decide]
  have hne:(Zf6 f).cps.toList≠[]:=by rw[ZgU h];exact ZoU _
  simp[hne]
 simp[this]
noncomputable def Zrp:Pm:=⟨Int×Int,fun a=>[.int a.1,.int a.2],fun a=>(7<=a.1/\a.1<14)/\0<=a.2/\a.2<10^60,fun a=>.exc (nmO a.1,.non)⟩
theorem Zw6 (T:Txt K mg) {f:Addr}{fd:FuncData} (F:Fun K "_law_of_others" "_law_of_others" Zru f fd):J5 P w K mg base (CX1 P w) 9 f fd ["way", "far"] (spF K 2 .Z (W1 K) Zrp.fn):=by
 have Zzs:=Jz (P:=P) (w:=w) (base:=base) T.Zzj ZyO (fun F=>Zy6 T F)
 have ZzV:=Jz (P:=P) (w:=w) (base:=base) T.ZzM Zz8 (fun F=>Zz1 T F)
 have ZzY:=Jz (P:=P) (w:=w) (base:=base) T.ZzP ZzB (fun F=>Zz4 T F)
 have Z0p:=Jz (P:=P) (w:=w) (base:=base) T.Z0h ZzQ (fun F=>ZzH T F)
 have ZxL:=Jz (P:=P) (w:=w) (base:=base) T.Zx5 Zxa (fun F=>ZwV T F)
 have Zyt:=Jz (P:=P) (w:=w) (base:=base) T.Zyg ZxE (fun F=>Zxx T F)
 have ZxN:=ZmN (P:=P) (w:=w) (mg:=mg) (base:=base) T.o_RingBook T.Zx8 Zxc (fun F=>ZwX T F)
 have Zwj:=Zou (P:=P) (w:=w) (mg:=mg) (base:=base) T.o_RingBook T.Zwd (T.x_mg _) ZvR (fun F=>ZvQ T F)
 refine F.okX Zwt rfl rfl (fun cdv A outer s H E hr=>?_)
 have hu:=hr.units
 refine⟨_,_,⟨[],[],[],.Z⟩,rfl,(Zi (Jo (Z2 (Js (K:=K) hu) (pv 0) Zl (Z9 _)) (Zj (Zz (Zx ZzV (hr.mono (by decide)) rfl ZB (Za (Jl (Za Zl (Za Zl Zg))) (Za Zl (Za Zl Zg)))))) Z7)
   (Zi (Jo (Z2 (Js (K:=K) hu) (pv 0) Zl (Z9 _)) (Zj (Zz (Zx ZzY (hr.mono (by decide)) rfl ZB (Za (Jl (Za (ZF JO Zl (ZF J9 (pv 1) (ZF ZgP Zl Zl))) (Za Zl Zg))) (Za Zl Zg))))) Z7)
   (Zi (Jo (Z2 (Js (K:=K) hu) (pv 0) Zl (Z9 _)) (Zj (Zz (Zx Z0p (hr.mono (by decide)) rfl ZB (Za (ZF (Zbx (K:=K)) (ZF Zjj (Jl (Za Zl Zg)) (ZF JO Zl (ZF J9 (pv 1) Zl))) (Jl (Za Zl Zg))) Zg)))) Z7)
   (Zi (Jo (Z2 (Js (K:=K) hu) (pv 0) Zl (Z9 _)) (Zj (Zz (Zx ZxL (hr.mono (by decide)) rfl ZB (Za (Jl (Za Zl (Za (ZF JO Zl (ZF J9 (pv 1) Zl)) Zg))) Zg)))) Z7)
   (Zi (Jo (Z2 (Js (K:=K) hu) (pv 0) Zl (Z9 _)) (Zj (Zz (Zx Zyt (hr.mono (by decide)) rfl ZB (Za (Jl (Za (ZF JO Zl (ZF J9 (pv 1) Zl)) (Za Zl Zg))) Zg)))) Z7)
   (Zi (Jo (Z2 (Js (K:=K) hu) (pv 0) Zl (Z9 _)) (Zj (Zz (ZiS ZxN (hr.mono (by decide)) ZB (ZkF Zwj (hr.mono (by decide)) rfl (Za (Jl (Za (ZF J9 (pv 1) Zl) (Za Zl Zg))) Zg))))) Z7)
   (Zj (Zz (Zx Zzs (hr.mono (by decide)) rfl ZB (Za (ZF ZhK Z6 (ZbX Zfw rfl T.z_str Zpf (Za (pv 1) Zg))) Zg)))))))))),
   (Zp (Γm:=[.S,.S]) (Jp (Z1 (DE.toA (Jb (g:=id) (Zd (i:=0) (m:=.S) rfl (by decide)) (DE.toA Zk))))
   (Zb1 (ZqA (Zf (Zf (Zf Zm))) (QF (DE.FZ (Ja (Zn (DE.PF Zk) (Zn (DE.PF Zk) ZO)))) (QF (DE.PZ Zk) (QF (DE.PZ Zk) Zdx)))))
   Z8)
   (Zp (Γm:=[.S,.S]) (Jp (Z1 (DE.toA (Jb (g:=id) (Zd (i:=0) (m:=.S) rfl (by decide)) (DE.toA Zk))))
   (Zb1 (DE.FZ (Zhr (Zf (Zf Zm)) (Zc (DE.toA (Ja (Zn (DE.PF (JR (DE.toA Zk) (DE.toA (JB (Zd (i:=1) (m:=.S) rfl (by decide)) (DE.toA (Zhu (DE.toA Zk) (DE.toA Zk))))))) (Zn (DE.PF Zk) ZO)))) (Zc (DE.toA Zk) Zh)))))
   Z8)
   (Zp (Γm:=[.S,.S]) (Jp (Z1 (DE.toA (Jb (g:=id) (Zd (i:=0) (m:=.S) rfl (by decide)) (DE.toA Zk))))
   (Zb1 (DE.FZ (Zhr (Zf Zm) (Zc (DE.toA (Zb2 (DE.toA (Zgo (Zc (DE.toA Zk) Zh) (DE.toA (JR (DE.toA Zk) (DE.toA (JB (Zd (i:=1) (m:=.S) rfl (by decide)) (DE.toA Zk))))))) (DE.toA (Ja (Zn (DE.PF Zk) ZO))))) Zh))))
   Z8)
   (Zp (Γm:=[.S,.S]) (Jp (Z1 (DE.toA (Jb (g:=id) (Zd (i:=0) (m:=.S) rfl (by decide)) (DE.toA Zk))))
   (Zb1 (DE.PZ (Zc8 (Zf Zm) (Zc (DE.toA (Ja (Zn (DE.PF Zk) (Zn (DE.PF (JR (DE.toA Zk) (DE.toA (JB (Zd (i:=1) (m:=.S) rfl (by decide)) (DE.toA Zk))))) ZO)))) Zh))))
   Z8)
   (Zp (Γm:=[.S,.S]) (Jp (Z1 (DE.toA (Jb (g:=id) (Zd (i:=0) (m:=.S) rfl (by decide)) (DE.toA Zk))))
   (Zb1 (DE.FZ (Zhr (Zf Zm) (Zc (DE.toA (Ja (Zn (DE.PF (JR (DE.toA Zk) (DE.toA (JB (Zd (i:=1) (m:=.S) rfl (by decide)) (DE.toA Zk))))) (Zn (DE.PF Zk) ZO)))) Zh))))
   Z8)
   (Zp (Γm:=[.S,.S]) (Jp (Z1 (DE.toA (Jb (g:=id) (Zd (i:=0) (m:=.S) rfl (by decide)) (DE.toA Zk))))
   (Zb1 (DE.PZ (Zl2 (n := "RingBook") (m := "undo") (fun e H' h=>h) (DE.toA (Znk (n := "RingBook") (Zf Zm) (Zc (DE.toA (Ja (Zn (DE.PF (JB (Zd (i:=1) (m:=.S) rfl (by decide)) (DE.toA Zk))) (Zn (DE.PF Zk) ZO)))) Zh))))))
   Z8)
   (Zb1 (DE.FZ (Zhr (Zf Zm) (Zc (DE.toA (Zno (DE.toA Z5) (DE.toA (Zni (Zc (Zd (i:=1) (m:=.S) rfl (by decide)) Zh))))) Zh)))))))))), ?_⟩
 refine Pm.ref Zrp (g:=fun xs=>_) ?_
 rintro⟨w,f⟩ ⟨⟨w0,w1⟩,f0,f1⟩
 simp only at w0 w1 f0 f1
 simp only[Zrp]
 have hw:w=7\/w=8\/w=9\/w=10\/w=11\/w=12\/w=13:=by omega
 rcases hw with rfl|rfl|rfl|rfl|rfl|rfl|rfl
 ·walk_at "pd"
  rw[show Zsf.fn [PV.lst [PV.int 1,PV.int 0],PV.int 0,PV.int 1]=.exc ("TooLong",.non) by
   rw[show Zsf.fn [PV.lst [PV.int 1,PV.int 0],PV.int 0,PV.int 1]=_ from Zu3 (ns:=[1,0]) (p:=0) (m:=1) (by simp),show rdX [1,0] 0 1=(some "TooLong":Option Str) by decide +kernel];rfl]
  walk_at "pd"
  rfl
 ·walk_at "pd"
  rw[show ZsA.fn [PV.lst [PV.int (61+f%10^59),PV.int 0],PV.int 1]=.exc ("TooMany",.non) from Zu6 (b:=[61+f%10^59,0]) (q:=1) ⟨⟨by simp,ZnB (by omega) (by omega) (by omega)⟩,⟨by omega,by simp⟩,by simp;omega⟩]
  walk_at "pd"
  rfl
 ·walk_at "pd"
  rw[ZvE ⟨by simp;omega,fun z=>by
   rcases z.2.2.2 with q|q
   ·simp at q
   ·refine q.1 ?_
    obtain⟨m,hm⟩:∃m,(1+f%5).toNat=m+1:=⟨(f%5).toNat,by omega⟩
    rw[hm,Z0V];rfl⟩]
  walk_at "pd"
  rfl
 ·walk_at "pd"
  rw[ZsE (m:=3+f%9) ⟨by omega,by omega⟩]
  walk_at "pd"
  rfl
 ·walk_at "pd"
  rw[show Zr4.fn [PV.lst [PV.int (1+f%9),PV.int 0]]=.exc ("BadYard",.non) from ZsN (ns:=[1+f%9,0]) ⟨by simp,fun z=>by
   rcases z.2.2.2 with q|q
   ·simp at q
   ·exact q rfl⟩]
  walk_at "pd"
  rfl
 ·walk_at "pd"
  rw[show Zn7 "RingBook" Zrj.fnM [PV.lst [PV.int (f%9),PV.int 0]]=.ok (bkP none ⟨[[f%9,0]],[],[]⟩) from Zwe (ns:=[f%9,0]) (ZnB (by omega) (by omega) (by omega)) (by simp)]
  walk_at "pd"
  rw[Zqh]
  walk_at "pd"
  rw[ZnI,Zx9 rfl]
  walk_at "pd"
  rfl
 ·walk_at "pd"
  have hl:=ZmQ f0 (by decide:0<60) f1
  have h1:(Str.ofString "1 0").length=3:=by decide
  rw[ZkL f0 (Int.lt_trans f1 (by decide))]
  walk_at "pd"
  rw[ZkV (by omega)]
  walk_at "pd"
  have hw:=Zmv f0
  rw[Zty ⟨⟨ZpU f0,by rw[ZpS];omega⟩,by rw[hw];simp,by rw[hw];exact ZqO f0⟩]
  walk_at "pd"
  rfl
theorem Zs1 {w f:Int} (h:(7<=w/\w<14)/\0<=f/\f<10^60):Zrp.fn [.int w,.int f]=.exc (nmO w,.non):=Pm.fn_eq Zrp (w,f) h fun(a:Int×Int) e=>by (simp only[Zrp,List.cons.injEq,PV.lst.injEq,PV.int.injEq,PV.str.injEq,PV.bl.injEq,PV.tup.injEq,ZN,and_true] at e ⊢;first|(simp only[e];done)|(subst e;rfl)|(rw[e]))
noncomputable def xw (w f:Int):PX:=if w<7 then nmB w f else (nmO w,.non)
noncomputable def ZrL:Pm:=⟨Int×Int,fun a=>[.int a.1,.int a.2],fun a=>(0<=a.1/\a.1<14)/\0<=a.2/\a.2<10^60,fun a=>.ok (Zb0 (xw a.1 a.2))⟩
theorem Zjr {w f:Int} (h:0<=w/\w<7):nmB w f=(("BadBoard":Str),PV.non)\/nmB w f=(("BadPit":Str),PV.non)\/nmB w f=(("BadPits":Str),PV.non)\/nmB w f=(("BadCount":Str),PV.non)\/nmB w f=(("NoSeeds":Str),PV.non)\/nmB w f=(("BadPlan":Str),PV.int (plc f))\/nmB w f=(("Unlike":Str),PV.non):=by
 have hw:w=0\/w=1\/w=2\/w=3\/w=4\/w=5\/w=6:=by omega
 rcases hw with rfl|rfl|rfl|rfl|rfl|rfl|rfl
 ·exact .inl rfl
 ·exact .inr (.inl rfl)
 ·exact .inr (.inr (.inl rfl))
 ·exact .inr (.inr (.inr (.inl rfl)))
 ·exact .inr (.inr (.inr (.inr (.inl rfl))))
 ·exact .inr (.inr (.inr (.inr (.inr (.inl rfl)))))
 ·exact .inr (.inr (.inr (.inr (.inr (.inr rfl)))))
theorem Zjq {w:Int} (h:7<=w/\w<14):nmO w = "TooLong"\/nmO w = "TooMany"\/nmO w = "BadLine"\/nmO w = "BadRow"\/nmO w = "BadYard"\/nmO w = "NoDeed"\/nmO w = "BadText":=by
 have hw:w=7\/w=8\/w=9\/w=10\/w=11\/w=12\/w=13:=by omega
 rcases hw with rfl|rfl|rfl|rfl|rfl|rfl|rfl
 ·exact .inl rfl
 ·exact .inr (.inl rfl)
 ·exact .inr (.inr (.inl rfl))
 ·exact .inr (.inr (.inr (.inl rfl)))
 ·exact .inr (.inr (.inr (.inr (.inl rfl))))
 ·exact .inr (.inr (.inr (.inr (.inr (.inl rfl)))))
 ·exact .inr (.inr (.inr (.inr (.inr (.inr rfl)))))
theorem Zyc (T:Txt K mg) {f:Addr}{fd:FuncData} (F:Fun K "_law_caught" "_law_caught" Zsb f fd):J5 P w K mg base CX0 10 f fd ["way", "far"] (spF K 2 .P W0 ZrL.fn):=by
 have Zxe:=Jz (P:=P) (w:=w) (base:=base) T.ZwZ ZwG (fun F=>Zw7 T F)
 have Zxd:=Jz (P:=P) (w:=w) (base:=base) T.ZwY ZwF (fun F=>Zw6 T F)
 obtain⟨C_SowError,hC_SowError,hQ_SowError⟩:=J6 T.x_exc (n := "SowError") (by decide)
 refine F.okP Ztq rfl rfl (fun cdv A outer s H E hr=>?_)
 have hu:=hr.units
 refine⟨_,_,⟨[],[],[],.P⟩,rfl,(Zi (ZW (i:=2) Ztq.nd rfl (by first|exact Or.inl rfl|exact Or.inr rfl) ZgJ)
   (Zi (Zof (fun xe pn E hx=>(Zj (Jo (Z2 ZkY (pv 0) Zl (Z9 _)) (Zj (ZM (Zx Zxe (hr.mono (by decide)) rfl hx (Za (pv 0) (Za (pv 1) Zg))))) (Zj (ZM (Zx Zxd (hr.mono (by decide)) rfl hx (Za (pv 0) (Za (pv 1) Zg)))))))) (fun A=>(Zj (ZW (i:=2) Ztq.nd rfl (by first|exact Or.inl rfl|exact Or.inr rfl) (pv 3)))) Ztq.nd rfl rfl rfl (T.x_mg _ _ hC_SowError) rfl rfl rfl)
   (Zj (Zz (pv 2))))),
   (Zp (Γm:=[.S,.S,.P,.U]) (Jt (i:=2) ZjQ (by decide))
   (Zp (Γm:=[.S,.S,.P,.U]) (ZoT (i:=3) (Γs:=[.S,.S,.P,.U]) (Y:=⟨[.S,.S,.P,.U],[],[],.P⟩) (Yh:=⟨[.S,.S,.P,.P],[],[],.P⟩) (L:=["SowError", "BadBoard", "BadPit", "BadPits", "BadCount", "NoSeeds", "BadPlan", "Unlike", "TooLong", "TooMany", "BadLine", "BadRow", "BadYard", "NoDeed", "BadText"]) (Zkw T.x_tab hC_SowError (by decide)) (fun E=>(Jp (Z1 (DE.toA (Zl3 (Zd (i:=0) (m:=.S) rfl (by decide)) (DE.toA Zk))))
   (ZY (DE.toA (Zhr (Zf (Zf Zm)) (Zc (Zd (i:=0) (m:=.S) rfl (by decide)) (Zc (Zd (i:=1) (m:=.S) rfl (by decide)) Zh)))))
   (ZY (DE.toA (ZqA (Zf (Zf Zm)) (QF (DE.PZ (DE.grd (Zd (i:=0) (m:=.S) rfl (by decide)))) (QF (DE.PZ (DE.grd (Zd (i:=1) (m:=.S) rfl (by decide)))) Zdx))))))) (fun E D σ H h=>h) (show DS K _ [.S,.S,.P,.P] _ _ _ from (Jt (i:=2) (Z3 (i:=3) rfl) (by decide))) rfl rfl (by decide) rfl rfl rfl rfl)
   (ZC (Z3 (i:=2) rfl)))), ?_⟩
 refine Pm.ref ZrL (g:=fun xs=>_) ?_
 rintro⟨w,f⟩ ⟨⟨w0,w1⟩,f0,f1⟩
 simp only at w0 w1 f0 f1
 simp only[ZrL]
 walk_at "pd"
 unfold xw
 by_cases h:w<7
 ·rw[decide_eq_true h,if_pos h]
  walk_at "pd"
  rw[Zs2 ⟨⟨w0,h⟩,f0,f1⟩]
  walk_at "pd"
  rcases Zjr (f:=f) ⟨w0,h⟩ with e|e|e|e|e|e|e<;>rw[e]<;>walk_at "pd" <;> rfl
 ·rw[decide_eq_false h,if_neg h]
  walk_at "pd"
  rw[Zs1 ⟨⟨by omega,w1⟩,f0,f1⟩]
  walk_at "pd"
  rcases Zjq (w:=w) ⟨by omega,w1⟩ with e|e|e|e|e|e|e<;>rw[e]<;>walk_at "pd" <;> rfl
theorem Ztf {w f:Int} (h:(0<=w/\w<14)/\0<=f/\f<10^60):ZrL.fn [.int w,.int f]=.ok (Zb0 (xw w f)):=Pm.fn_eq ZrL (w,f) h fun(a:Int×Int) e=>by (simp only[ZrL,List.cons.injEq,PV.lst.injEq,PV.int.injEq,PV.str.injEq,PV.bl.injEq,PV.tup.injEq,ZN,and_true] at e ⊢;first|(simp only[e];done)|(subst e;rfl)|(rw[e]))
noncomputable def ZnL (w:Int):PV:=.lst ((List.range 14).map fun(k:Nat)=>PV.bl (decide ((k:Int)=w)))
theorem w14 {w:Int} (h:0<=w/\w<14):w=0\/w=1\/w=2\/w=3\/w=4\/w=5\/w=6\/w=7\/w=8\/w=9\/w=10\/w=11\/w=12\/w=13:=by omega
theorem ZbI {w f:Int} (h:0<=w/\w<14):Zv ZH (Zb0 (xw w f))=.ok (.bl (decide (((0:Nat):Int)=w))):=by
 rcases w14 h with rfl|rfl|rfl|rfl|rfl|rfl|rfl|rfl|rfl|rfl|rfl|rfl|rfl|rfl
 ·exact Vr
 ·exact Q6
 ·exact Uf
 ·exact Vq
 ·exact Ub
 ·exact Ue
 ·exact Q3
 ·exact Ua
 ·exact VZ
 ·exact Ug
 ·exact Q5
 ·exact Uc
 ·exact Q4
 ·exact Ud
theorem ZcG {w f:Int} (h:0<=w/\w<14):Zv Jg (Zb0 (xw w f))=.ok (.bl (decide (((1:Nat):Int)=w))):=by
 rcases w14 h with rfl|rfl|rfl|rfl|rfl|rfl|rfl|rfl|rfl|rfl|rfl|rfl|rfl|rfl
 ·exact Qq
 ·exact Zbm
 ·exact ZaG
 ·exact Qp
 ·exact ZaC
 ·exact ZaF
 ·exact Zbj
 ·exact ZaB
 ·exact ZaA
 ·exact ZaH
 ·exact Zbl
 ·exact ZaD
 ·exact Zbk
 ·exact ZaE
theorem Zcr {w f:Int} (h:0<=w/\w<14):Zv ZU (Zb0 (xw w f))=.ok (.bl (decide (((2:Nat):Int)=w))):=by
 rcases w14 h with rfl|rfl|rfl|rfl|rfl|rfl|rfl|rfl|rfl|rfl|rfl|rfl|rfl|rfl
 ·exact VO
 ·exact Za9
 ·exact Qn
 ·exact VN
 ·exact Qj
 ·exact Qm
 ·exact Za6
 ·exact Qi
 ·exact Qh
 ·exact Qo
 ·exact Za8
 ·exact Qk
 ·exact Za7
 ·exact Ql
theorem ZbH {w f:Int} (h:0<=w/\w<14):Zv ZG (Zb0 (xw w f))=.ok (.bl (decide (((3:Nat):Int)=w))):=by
 rcases w14 h with rfl|rfl|rfl|rfl|rfl|rfl|rfl|rfl|rfl|rfl|rfl|rfl|rfl|rfl
 ·exact Vp
 ·exact Q2
 ·exact VX
 ·exact Vo
 ·exact VT
 ·exact VW
 ·exact Qz
 ·exact VS
 ·exact VR
 ·exact VY
 ·exact Q1
 ·exact VU
 ·exact Q0
 ·exact VV
theorem Zco {w f:Int} (h:0<=w/\w<14):Zv ZR (Zb0 (xw w f))=.ok (.bl (decide (((4:Nat):Int)=w))):=by
 rcases w14 h with rfl|rfl|rfl|rfl|rfl|rfl|rfl|rfl|rfl|rfl|rfl|rfl|rfl|rfl
 ·exact VF
 ·exact Zad
 ·exact UD
 ·exact VE
 ·exact U9
 ·exact UC
 ·exact Zaa
 ·exact U8
 ·exact U7
 ·exact UE
 ·exact Zac
 ·exact UA
 ·exact Zab
 ·exact UB
theorem Zb4 {w f:Int} (h:0<=w/\w<14):Zv ZI (Zb0 (xw w f))=.ok (.bl (decide (((5:Nat):Int)=w))):=by
 rcases w14 h with rfl|rfl|rfl|rfl|rfl|rfl|rfl|rfl|rfl|rfl|rfl|rfl|rfl|rfl
 ·exact VM
 ·exact Za5
 ·exact Qf
 ·exact VL
 ·exact Qb
 ·exact Qe
 ·exact Za2
 ·exact Qa
 ·exact UZ
 ·exact Qg
 ·exact Za4
 ·exact Qc
 ·exact Za3
 ·exact Qd
theorem ZcD {w f:Int} (h:0<=w/\w<14):Zv Jd (Zb0 (xw w f))=.ok (.bl (decide (((6:Nat):Int)=w))):=by
 rcases w14 h with rfl|rfl|rfl|rfl|rfl|rfl|rfl|rfl|rfl|rfl|rfl|rfl|rfl|rfl
 ·exact Uq
 ·exact Zba
 ·exact QQ
 ·exact Up
 ·exact QM
 ·exact QP
 ·exact ZaX
 ·exact QL
 ·exact QK
 ·exact QR
 ·exact ZaZ
 ·exact QN
 ·exact ZaY
 ·exact QO
theorem Zcn {w f:Int} (h:0<=w/\w<14):Zv ZQ (Zb0 (xw w f))=.ok (.bl (decide (((7:Nat):Int)=w))):=by
 rcases w14 h with rfl|rfl|rfl|rfl|rfl|rfl|rfl|rfl|rfl|rfl|rfl|rfl|rfl|rfl
 ·exact VD
 ·exact QZ
 ·exact U5
 ·exact VC
 ·exact U1
 ·exact U4
 ·exact QW
 ·exact U0
 ·exact Uz
 ·exact U6
 ·exact QY
 ·exact U2
 ·exact QX
 ·exact U3
theorem Zcm {w f:Int} (h:0<=w/\w<14):Zv ZP (Zb0 (xw w f))=.ok (.bl (decide (((8:Nat):Int)=w))):=by
 rcases w14 h with rfl|rfl|rfl|rfl|rfl|rfl|rfl|rfl|rfl|rfl|rfl|rfl|rfl|rfl
 ·exact VB
 ·exact QV
 ·exact Ux
 ·exact VA
 ·exact Ut
 ·exact Uw
 ·exact QS
 ·exact Us
 ·exact Ur
 ·exact Uy
 ·exact QU
 ·exact Uu
 ·exact QT
 ·exact Uv
theorem Zcs {w f:Int} (h:0<=w/\w<14):Zv ZV (Zb0 (xw w f))=.ok (.bl (decide (((9:Nat):Int)=w))):=by
 rcases w14 h with rfl|rfl|rfl|rfl|rfl|rfl|rfl|rfl|rfl|rfl|rfl|rfl|rfl|rfl
 ·exact VQ
 ·exact ZaL
 ·exact Qx
 ·exact VP
 ·exact Qt
 ·exact Qw
 ·exact ZaI
 ·exact Qs
 ·exact Qr
 ·exact Qy
 ·exact ZaK
 ·exact Qu
 ·exact ZaJ
 ·exact Qv
theorem ZcF {w f:Int} (h:0<=w/\w<14):Zv Jf (Zb0 (xw w f))=.ok (.bl (decide (((10:Nat):Int)=w))):=by
 rcases w14 h with rfl|rfl|rfl|rfl|rfl|rfl|rfl|rfl|rfl|rfl|rfl|rfl|rfl|rfl
 ·exact UY
 ·exact Zbi
 ·exact Za0
 ·exact UX
 ·exact Zaw
 ·exact Zaz
 ·exact Zbf
 ·exact Zav
 ·exact Zau
 ·exact Za1
 ·exact Zbh
 ·exact Zax
 ·exact Zbg
 ·exact Zay
theorem Zcp {w f:Int} (h:0<=w/\w<14):Zv ZS (Zb0 (xw w f))=.ok (.bl (decide (((11:Nat):Int)=w))):=by
 rcases w14 h with rfl|rfl|rfl|rfl|rfl|rfl|rfl|rfl|rfl|rfl|rfl|rfl|rfl|rfl
 ·exact VH
 ·exact Zap
 ·exact UN
 ·exact VG
 ·exact UJ
 ·exact UM
 ·exact Zam
 ·exact UI
 ·exact UH
 ·exact UO
 ·exact Zao
 ·exact UK
 ·exact Zan
 ·exact UL
theorem ZcE {w f:Int} (h:0<=w/\w<14):Zv Je (Zb0 (xw w f))=.ok (.bl (decide (((12:Nat):Int)=w))):=by
 rcases w14 h with rfl|rfl|rfl|rfl|rfl|rfl|rfl|rfl|rfl|rfl|rfl|rfl|rfl|rfl
 ·exact UG
 ·exact Zbe
 ·exact Zak
 ·exact UF
 ·exact Zag
 ·exact Zaj
 ·exact Zbb
 ·exact Zaf
 ·exact Zae
 ·exact Zal
 ·exact Zbd
 ·exact Zah
 ·exact Zbc
 ·exact Zai
theorem Zcq {w f:Int} (h:0<=w/\w<14):Zv ZT (Zb0 (xw w f))=.ok (.bl (decide (((13:Nat):Int)=w))):=by
 rcases w14 h with rfl|rfl|rfl|rfl|rfl|rfl|rfl|rfl|rfl|rfl|rfl|rfl|rfl|rfl
 ·exact VJ
 ·exact Zat
 ·exact UV
 ·exact VI
 ·exact UR
 ·exact UU
 ·exact Zaq
 ·exact UQ
 ·exact UP
 ·exact UW
 ·exact Zas
 ·exact US
 ·exact Zar
 ·exact UT
theorem ZqK {w f:Int} (h:0<=w/\w<14):Zv ZA (Zb0 (xw w f))=.ok (.bl true):=by
 rcases w14 h with rfl|rfl|rfl|rfl|rfl|rfl|rfl|rfl|rfl|rfl|rfl|rfl|rfl|rfl
 ·exact JQ
 ·exact Vn
 ·exact Vg
 ·exact JP
 ·exact Vc
 ·exact Vf
 ·exact Vk
 ·exact Vb
 ·exact Va
 ·exact Vh
 ·exact Vm
 ·exact Vd
 ·exact Vl
 ·exact Ve
theorem ZmT {b0 b1 b2 b3 b4 b5:Bool}:newF [.bl b0,.bl b1,.bl b2,.bl b3,.bl b4,.bl b5]=.ok (.lst [.bl b0,.bl b1,.bl b2,.bl b3,.bl b4,.bl b5]):=rfl
theorem ZmS {b0 b1 b2 b3 b4 b5 b6 b7 b8:Bool}:newF [.bl b0,.bl b1,.bl b2,.bl b3,.bl b4,.bl b5,.bl b6,.bl b7,.bl b8]=.ok (.lst [.bl b0,.bl b1,.bl b2,.bl b3,.bl b4,.bl b5,.bl b6,.bl b7,.bl b8]):=rfl
theorem Zlc {b0 b1 b2 b3 b4 b5 b6 b7 b8 b9 b10 b11:Bool}:newF [.bl b0,.bl b1,.bl b2,.bl b3,.bl b4,.bl b5,.bl b6,.bl b7,.bl b8,.bl b9,.bl b10,.bl b11]=.ok (.lst [.bl b0,.bl b1,.bl b2,.bl b3,.bl b4,.bl b5,.bl b6,.bl b7,.bl b8,.bl b9,.bl b10,.bl b11]):=rfl
theorem Zlb {b0 b1 b2 b3 b4 b5 b6 b7 b8 b9 b10 b11 b12 b13:Bool}:newF [.bl b0,.bl b1,.bl b2,.bl b3,.bl b4,.bl b5,.bl b6,.bl b7,.bl b8,.bl b9,.bl b10,.bl b11,.bl b12,.bl b13]=.ok (.lst [.bl b0,.bl b1,.bl b2,.bl b3,.bl b4,.bl b5,.bl b6,.bl b7,.bl b8,.bl b9,.bl b10,.bl b11,.bl b12,.bl b13]):=rfl
noncomputable def ZrK:Pm:=⟨Int×Int,fun a=>[Zb0 (xw a.1 a.2)],fun a=>0<=a.1/\a.1<14,fun a=>.ok (ZnL a.1)⟩
theorem Zyb (T:Txt K mg) {f:Addr}{fd:FuncData} (F:Fun K "_law_takers" "_law_takers" Zsa f fd):J5 P w K mg base CX0 1 f fd ["caught"] (spF K 1 .F W0 ZrK.fn):=by
 obtain⟨I_BadBoard,hI_BadBoard,hT_BadBoard⟩:=Ju T.x_tab (c := "BadBoard") (L:=ZH) (by decide) (by decide)
 obtain⟨I_BadPit,hI_BadPit,hT_BadPit⟩:=Ju T.x_tab (c := "BadPit") (L:=Jg) (by decide) (by decide)
 obtain⟨I_BadPits,hI_BadPits,hT_BadPits⟩:=Ju T.x_tab (c := "BadPits") (L:=ZU) (by decide) (by decide)
 obtain⟨I_BadCount,hI_BadCount,hT_BadCount⟩:=Ju T.x_tab (c := "BadCount") (L:=ZG) (by decide) (by decide)
 obtain⟨I_NoSeeds,hI_NoSeeds,hT_NoSeeds⟩:=Ju T.x_tab (c := "NoSeeds") (L:=ZR) (by decide) (by decide)
 obtain⟨I_BadPlan,hI_BadPlan,hT_BadPlan⟩:=Ju T.x_tab (c := "BadPlan") (L:=ZI) (by decide) (by decide)
 obtain⟨I_Unlike,hI_Unlike,hT_Unlike⟩:=Ju T.x_tab (c := "Unlike") (L:=Jd) (by decide) (by decide)
 obtain⟨I_TooLong,hI_TooLong,hT_TooLong⟩:=Ju T.x_tab (c := "TooLong") (L:=ZQ) (by decide) (by decide)
 obtain⟨I_TooMany,hI_TooMany,hT_TooMany⟩:=Ju T.x_tab (c := "TooMany") (L:=ZP) (by decide) (by decide)
 obtain⟨I_BadLine,hI_BadLine,hT_BadLine⟩:=Ju T.x_tab (c := "BadLine") (L:=ZV) (by decide) (by decide)
 obtain⟨I_BadRow,hI_BadRow,hT_BadRow⟩:=Ju T.x_tab (c := "BadRow") (L:=Jf) (by decide) (by decide)
 obtain⟨I_BadYard,hI_BadYard,hT_BadYard⟩:=Ju T.x_tab (c := "BadYard") (L:=ZS) (by decide) (by decide)
 obtain⟨I_NoDeed,hI_NoDeed,hT_NoDeed⟩:=Ju T.x_tab (c := "NoDeed") (L:=Je) (by decide) (by decide)
 obtain⟨I_BadText,hI_BadText,hT_BadText⟩:=Ju T.x_tab (c := "BadText") (L:=ZT) (by decide) (by decide)
 refine F.okP ZsI rfl rfl (fun cdv A outer s H E hr=>?_)
 have hu:=hr.units
 refine⟨_,_,⟨[],[],[],.F⟩,rfl,(Zi (ZW (i:=1) ZsI.nd rfl (by first|exact Or.inl rfl|exact Or.inr rfl) (Jl (Za (Zr (Jr (K:=K) hT_BadBoard) rfl T.z_isinstance Zw (Za (pv 0) (Za (J8 (v:=.ref I_BadBoard) rfl (T.x_mg _ _ hI_BadBoard) rfl) Zg))) (Za (Zr (Jr (K:=K) hT_BadPit) rfl T.z_isinstance Zw (Za (pv 0) (Za (J8 (v:=.ref I_BadPit) rfl (T.x_mg _ _ hI_BadPit) rfl) Zg))) (Za (Zr (Jr (K:=K) hT_BadPits) rfl T.z_isinstance Zw (Za (pv 0) (Za (J8 (v:=.ref I_BadPits) rfl (T.x_mg _ _ hI_BadPits) rfl) Zg))) Zg)))))
   (Zi (ZW (i:=1) ZsI.nd rfl (by first|exact Or.inl rfl|exact Or.inr rfl) (ZF (Zbx (K:=K)) (pv 1) (Jl (Za (Zr (Jr (K:=K) hT_BadCount) rfl T.z_isinstance Zw (Za (pv 0) (Za (J8 (v:=.ref I_BadCount) rfl (T.x_mg _ _ hI_BadCount) rfl) Zg))) (Za (Zr (Jr (K:=K) hT_NoSeeds) rfl T.z_isinstance Zw (Za (pv 0) (Za (J8 (v:=.ref I_NoSeeds) rfl (T.x_mg _ _ hI_NoSeeds) rfl) Zg))) (Za (Zr (Jr (K:=K) hT_BadPlan) rfl T.z_isinstance Zw (Za (pv 0) (Za (J8 (v:=.ref I_BadPlan) rfl (T.x_mg _ _ hI_BadPlan) rfl) Zg))) Zg))))))
   (Zi (ZW (i:=1) ZsI.nd rfl (by first|exact Or.inl rfl|exact Or.inr rfl) (ZF (Zbx (K:=K)) (pv 1) (Jl (Za (Zr (Jr (K:=K) hT_Unlike) rfl T.z_isinstance Zw (Za (pv 0) (Za (J8 (v:=.ref I_Unlike) rfl (T.x_mg _ _ hI_Unlike) rfl) Zg))) (Za (Zr (Jr (K:=K) hT_TooLong) rfl T.z_isinstance Zw (Za (pv 0) (Za (J8 (v:=.ref I_TooLong) rfl (T.x_mg _ _ hI_TooLong) rfl) Zg))) (Za (Zr (Jr (K:=K) hT_TooMany) rfl T.z_isinstance Zw (Za (pv 0) (Za (J8 (v:=.ref I_TooMany) rfl (T.x_mg _ _ hI_TooMany) rfl) Zg))) Zg))))))
   (Zi (ZW (i:=1) ZsI.nd rfl (by first|exact Or.inl rfl|exact Or.inr rfl) (ZF (Zbx (K:=K)) (pv 1) (Jl (Za (Zr (Jr (K:=K) hT_BadLine) rfl T.z_isinstance Zw (Za (pv 0) (Za (J8 (v:=.ref I_BadLine) rfl (T.x_mg _ _ hI_BadLine) rfl) Zg))) (Za (Zr (Jr (K:=K) hT_BadRow) rfl T.z_isinstance Zw (Za (pv 0) (Za (J8 (v:=.ref I_BadRow) rfl (T.x_mg _ _ hI_BadRow) rfl) Zg))) (Za (Zr (Jr (K:=K) hT_BadYard) rfl T.z_isinstance Zw (Za (pv 0) (Za (J8 (v:=.ref I_BadYard) rfl (T.x_mg _ _ hI_BadYard) rfl) Zg))) Zg))))))
   (Zj (Zz (ZF (Zbx (K:=K)) (pv 1) (Jl (Za (Zr (Jr (K:=K) hT_NoDeed) rfl T.z_isinstance Zw (Za (pv 0) (Za (J8 (v:=.ref I_NoDeed) rfl (T.x_mg _ _ hI_NoDeed) rfl) Zg))) (Za (Zr (Jr (K:=K) hT_BadText) rfl T.z_isinstance Zw (Za (pv 0) (Za (J8 (v:=.ref I_BadText) rfl (T.x_mg _ _ hI_BadText) rfl) Zg))) Zg)))))))))),
   (Zp (Γm:=[.S,.O]) (JA (i:=1) (Ja (Zn (DE.PF (Vu (Zd (i:=0) (m:=.S) rfl (by decide)))) (Zn (DE.PF (Vu (Zd (i:=0) (m:=.S) rfl (by decide)))) (Zn (DE.PF (Vu (Zd (i:=0) (m:=.S) rfl (by decide)))) ZO)))) (by decide))
   (Zp (Γm:=[.S,.O]) (JA (i:=1) (Zb2 (Zd (i:=1) (m:=.O) rfl (by decide)) (DE.toA (Ja (Zn (DE.PF (Vu (Zd (i:=0) (m:=.S) rfl (by decide)))) (Zn (DE.PF (Vu (Zd (i:=0) (m:=.S) rfl (by decide)))) (Zn (DE.PF (Vu (Zd (i:=0) (m:=.S) rfl (by decide)))) ZO)))))) (by decide))
   (Zp (Γm:=[.S,.O]) (JA (i:=1) (Zb2 (Zd (i:=1) (m:=.O) rfl (by decide)) (DE.toA (Ja (Zn (DE.PF (Vu (Zd (i:=0) (m:=.S) rfl (by decide)))) (Zn (DE.PF (Vu (Zd (i:=0) (m:=.S) rfl (by decide)))) (Zn (DE.PF (Vu (Zd (i:=0) (m:=.S) rfl (by decide)))) ZO)))))) (by decide))
   (Zp (Γm:=[.S,.O]) (JA (i:=1) (Zb2 (Zd (i:=1) (m:=.O) rfl (by decide)) (DE.toA (Ja (Zn (DE.PF (Vu (Zd (i:=0) (m:=.S) rfl (by decide)))) (Zn (DE.PF (Vu (Zd (i:=0) (m:=.S) rfl (by decide)))) (Zn (DE.PF (Vu (Zd (i:=0) (m:=.S) rfl (by decide)))) ZO)))))) (by decide))
   (Jy (Zb2 (Zd (i:=1) (m:=.O) rfl (by decide)) (DE.toA (Ja (Zn (DE.PF (Vu (Zd (i:=0) (m:=.S) rfl (by decide)))) (Zn (DE.PF (Vu (Zd (i:=0) (m:=.S) rfl (by decide)))) ZO)))))))))), ?_⟩
 refine Pm.ref ZrK (g:=fun xs=>_) ?_
 rintro⟨w,f⟩ (h:0<=w/\w<14)
 simp only[ZrK]
 have h0:=ZbI (f:=f) h
 have h1:=ZcG (f:=f) h
 have h2:=Zcr (f:=f) h
 have h3:=ZbH (f:=f) h
 have h4:=Zco (f:=f) h
 have h5:=Zb4 (f:=f) h
 have h6:=ZcD (f:=f) h
 have h7:=Zcn (f:=f) h
 have h8:=Zcm (f:=f) h
 have h9:=Zcs (f:=f) h
 have h10:=ZcF (f:=f) h
 have h11:=Zcp (f:=f) h
 have h12:=ZcE (f:=f) h
 have h13:=Zcq (f:=f) h
 generalize Zb0 (xw w f)=x at *
 generalize hb0:decide (((0:Nat):Int)=w)=b0 at h0
 generalize hb1:decide (((1:Nat):Int)=w)=b1 at h1
 generalize hb2:decide (((2:Nat):Int)=w)=b2 at h2
 generalize hb3:decide (((3:Nat):Int)=w)=b3 at h3
 generalize hb4:decide (((4:Nat):Int)=w)=b4 at h4
 generalize hb5:decide (((5:Nat):Int)=w)=b5 at h5
 generalize hb6:decide (((6:Nat):Int)=w)=b6 at h6
 generalize hb7:decide (((7:Nat):Int)=w)=b7 at h7
 generalize hb8:decide (((8:Nat):Int)=w)=b8 at h8
 generalize hb9:decide (((9:Nat):Int)=w)=b9 at h9
 generalize hb10:decide (((10:Nat):Int)=w)=b10 at h10
 generalize hb11:decide (((11:Nat):Int)=w)=b11 at h11
 generalize hb12:decide (((12:Nat):Int)=w)=b12 at h12
 generalize hb13:decide (((13:Nat):Int)=w)=b13 at h13
 walk_at "pd"
 rw[h0,h1,h2]
 walk_at "pd"
 rw[h3,h4,h5]
 walk_at "pd"
 rw[ZmT]
 walk_at "pd"
 rw[h6,h7,h8]
 walk_at "pd"
 rw[ZmS]
 walk_at "pd"
 rw[h9,h10,h11]
 walk_at "pd"
 rw[Zlc]
 walk_at "pd"
 rw[h12,h13]
 walk_at "pd"
 rw[Zlb]
 walk_at "pd"
 rw[<- hb0,<- hb1,<- hb2,<- hb3,<- hb4,<- hb5,<- hb6,<- hb7,<- hb8,<- hb9,<- hb10,<- hb11,<- hb12,<- hb13]
 rfl
theorem ZnF {w f w' f':Int} (h:0<=w/\w<14) (h':0<=w'/\w'<14) (e:Zb0 (xw w' f')=Zb0 (xw w f)):w'=w:=by
 rcases w14 h' with rfl|rfl|rfl|rfl|rfl|rfl|rfl|rfl|rfl|rfl|rfl|rfl|rfl|rfl
 ·have a:=ZbI (f:=f') h'
  rw[e,ZbI h] at a
  have a:decide (((0:Nat):Int)=w)=decide (((0:Nat):Int)=0):=PV.bl.inj (Rr.ok.inj a)
  have:(((0:Nat):Int)=w):=of_decide_eq_true (a.trans (by decide))
  omega
 ·have a:=ZcG (f:=f') h'
  rw[e,ZcG h] at a
  have a:decide (((1:Nat):Int)=w)=decide (((1:Nat):Int)=1):=PV.bl.inj (Rr.ok.inj a)
  have:(((1:Nat):Int)=w):=of_decide_eq_true (a.trans (by decide))
  omega
 ·have a:=Zcr (f:=f') h'
  rw[e,Zcr h] at a
  have a:decide (((2:Nat):Int)=w)=decide (((2:Nat):Int)=2):=PV.bl.inj (Rr.ok.inj a)
  have:(((2:Nat):Int)=w):=of_decide_eq_true (a.trans (by decide))
  omega
 ·have a:=ZbH (f:=f') h'
  rw[e,ZbH h] at a
  have a:decide (((3:Nat):Int)=w)=decide (((3:Nat):Int)=3):=PV.bl.inj (Rr.ok.inj a)
  have:(((3:Nat):Int)=w):=of_decide_eq_true (a.trans (by decide))
  omega
 ·have a:=Zco (f:=f') h'
  rw[e,Zco h] at a
  have a:decide (((4:Nat):Int)=w)=decide (((4:Nat):Int)=4):=PV.bl.inj (Rr.ok.inj a)
  have:(((4:Nat):Int)=w):=of_decide_eq_true (a.trans (by decide))
  omega
 ·have a:=Zb4 (f:=f') h'
  rw[e,Zb4 h] at a
  have a:decide (((5:Nat):Int)=w)=decide (((5:Nat):Int)=5):=PV.bl.inj (Rr.ok.inj a)
  have:(((5:Nat):Int)=w):=of_decide_eq_true (a.trans (by decide))
  omega
 ·have a:=ZcD (f:=f') h'
  rw[e,ZcD h] at a
  have a:decide (((6:Nat):Int)=w)=decide (((6:Nat):Int)=6):=PV.bl.inj (Rr.ok.inj a)
  have:(((6:Nat):Int)=w):=of_decide_eq_true (a.trans (by decide))
  omega
 ·have a:=Zcn (f:=f') h'
  rw[e,Zcn h] at a
  have a:decide (((7:Nat):Int)=w)=decide (((7:Nat):Int)=7):=PV.bl.inj (Rr.ok.inj a)
  have:(((7:Nat):Int)=w):=of_decide_eq_true (a.trans (by decide))
  omega
 ·have a:=Zcm (f:=f') h'
  rw[e,Zcm h] at a
  have a:decide (((8:Nat):Int)=w)=decide (((8:Nat):Int)=8):=PV.bl.inj (Rr.ok.inj a)
  have:(((8:Nat):Int)=w):=of_decide_eq_true (a.trans (by decide))
  omega
 ·have a:=Zcs (f:=f') h'
  rw[e,Zcs h] at a
  have a:decide (((9:Nat):Int)=w)=decide (((9:Nat):Int)=9):=PV.bl.inj (Rr.ok.inj a)
  have:(((9:Nat):Int)=w):=of_decide_eq_true (a.trans (by decide))
  omega
 ·have a:=ZcF (f:=f') h'
  rw[e,ZcF h] at a
  have a:decide (((10:Nat):Int)=w)=decide (((10:Nat):Int)=10):=PV.bl.inj (Rr.ok.inj a)
  have:(((10:Nat):Int)=w):=of_decide_eq_true (a.trans (by decide))
  omega
 ·have a:=Zcp (f:=f') h'
  rw[e,Zcp h] at a
  have a:decide (((11:Nat):Int)=w)=decide (((11:Nat):Int)=11):=PV.bl.inj (Rr.ok.inj a)
  have:(((11:Nat):Int)=w):=of_decide_eq_true (a.trans (by decide))
  omega
 ·have a:=ZcE (f:=f') h'
  rw[e,ZcE h] at a
  have a:decide (((12:Nat):Int)=w)=decide (((12:Nat):Int)=12):=PV.bl.inj (Rr.ok.inj a)
  have:(((12:Nat):Int)=w):=of_decide_eq_true (a.trans (by decide))
  omega
 ·have a:=Zcq (f:=f') h'
  rw[e,Zcq h] at a
  have a:decide (((13:Nat):Int)=w)=decide (((13:Nat):Int)=13):=PV.bl.inj (Rr.ok.inj a)
  have:(((13:Nat):Int)=w):=of_decide_eq_true (a.trans (by decide))
  omega
theorem Zte {w f:Int} (h:0<=w/\w<14):ZrK.fn [Zb0 (xw w f)]=.ok (ZnL w):=by
 unfold Pm.fn
 have hx:∃b,ZrK.enc b=[Zb0 (xw w f)]/\ZrK.pre b:=⟨(w,f),rfl,h⟩
 rw[dif_pos hx]
 obtain⟨e,p⟩:=hx.choose_spec
 generalize hx.choose=b at e p
 obtain⟨w',f'⟩:=b
 have e:Zb0 (xw w' f')=Zb0 (xw w f):=(List.cons.inj e).1
 rw[<- ZnF h p e];rfl
noncomputable def Zr7:Pm:=⟨Int,fun f=>[.int f],fun f=>0<=f,fun f=>.ok (.int (plc f))⟩
theorem ZyB (T:Txt K mg) {f:Addr}{fd:FuncData} (F:Fun K "_law_place" "_law_place" Zsr f fd):J5 P w K mg base CX0 1 f fd ["far"] (spF K 1 .P W0 Zr7.fn):=by
 refine F.okP Zwl rfl rfl (fun cdv A outer s H E hr=>?_)
 have hu:=hr.units
 refine⟨_,_,⟨[],[],[],.P⟩,rfl,(Zi (ZeK PassesOwn.never rfl (Zbv rfl T.z_range (Za (ZF J9 (pv 0) Zl) Zg)) (ZaR (i:=1) Zwl.nd rfl (by first|exact Or.inl rfl|exact Or.inr rfl)) (Zj (Jo (Z2 (Zc3 (K:=K) hu) (ZF J9 (pv 0) Zl) (ZF J9 (pv 1) Zl) (Z9 _)) (Zj (Zz (pv 1))) Z7)))
   (Zj (Zz (ZF J9 (pv 0) Zl)))),
   (Zp (Γm:=[.S,.U]) (Zfq (Γl:=[.S,.U]) (Zds (Zc (DE.toA (JB (Zd (i:=0) (m:=.S) rfl (by decide)) (DE.toA Zk))) Zh)) rfl (Znh (i:=1) (by decide))
   (DS.out (Y:=⟨[.S,.P],[.S,.U],[.S,.U],.P⟩) (Y':=⟨[.S,.U],[.S,.U],[.S,.U],.P⟩) (Jp (Z1 (DE.toA (Jb (g:=(!·)) (DE.toA (JB (Zd (i:=0) (m:=.S) rfl (by decide)) (DE.toA Zk))) (DE.toA (JB (DE.toA (Z3 (i:=1) rfl)) (DE.toA Zk))))))
   (ZC (Z3 (i:=1) rfl))
   Z8) rfl rfl rfl rfl))
   (ZC (JB (Zd (i:=0) (m:=.S) rfl (by decide)) (DE.toA Zk)))), ?_⟩
 refine Pm.ref Zr7 (g:=fun xs=>_) ?_
 rintro(f:Int) (h:0<=f)
 simp only[Zr7]
 walk_at "pd"
 generalize hw:Zea _ _ _=W
 by_cases c1:1<=f%3/\f%2=1
 ·have hW:W=.ret (.int 0):=Zfl hw 0 (fun i ρ=>∃v,ρ=[.int f,v]) ⟨_,rfl⟩ (fun i x ρ hi=>by omega) (by rw[ZaQ];omega) (by
   rintro x ρ hx ⟨v,rfl⟩
   obtain⟨_,rfl⟩:=ZbV hx
   walk_at "pd"
   rw[c1.2]
   walk_at "pd"
   rfl)
  subst hW
  walk_at "pd"
  unfold plc
  rw[if_pos c1]
 ·by_cases c2:f%3=2
  ·have q:f%2=0:=by omega
   have hW:W=.ret (.int 1):=Zfl hw 1 (fun i ρ=>∃v,ρ=[.int f,v]) ⟨_,rfl⟩ (by
    rintro i x ρ hi hx ⟨v,rfl⟩
    have:i=0:=by omega
    subst this
    obtain⟨_,rfl⟩:=ZbV hx
    walk_at "pd"
    rw[q]
    walk_at "pd"
    exact ZeR ⟨_,rfl⟩) (by rw[ZaQ];omega) (by
    rintro x ρ hx ⟨v,rfl⟩
    obtain⟨_,rfl⟩:=ZbV hx
    walk_at "pd"
    rw[q]
    walk_at "pd"
    rfl)
   subst hW
   walk_at "pd"
   unfold plc
   rw[if_neg c1,if_pos c2]
  ·obtain⟨ρ',rfl,v,rfl⟩:=Zdm hw (fun i ρ=>∃v,ρ=[.int f,v]) ⟨_,rfl⟩ (by
    rintro i x ρ hx ⟨v,rfl⟩
    obtain⟨hi,rfl⟩:=ZbV hx
    have q:f%2=0:=by omega
    have:i=0:=by omega
    subst this
    walk_at "pd"
    rw[q]
    walk_at "pd"
    exact ZeR ⟨_,rfl⟩)
   walk_at "pd"
   unfold plc
   rw[if_neg c1,if_neg c2]
theorem Zt2 {f:Int} (h:0<=f):Zr7.fn [.int f]=.ok (.int (plc f)):=Pm.fn_eq Zr7 f h fun(a:Int) e=>by (simp only[Zr7,List.cons.injEq,PV.lst.injEq,PV.int.injEq,PV.str.injEq,PV.bl.injEq,PV.tup.injEq,ZN,and_true] at e ⊢;first|(simp only[e];done)|(subst e;rfl)|(rw[e]))
noncomputable def Zoy:List Str:=["BadBoard", "BadPit", "BadPits", "BadCount", "NoSeeds", "BadPlan", "Unlike", "TooLong", "TooMany", "BadLine", "BadRow", "BadYard", "NoDeed", "BadText"]
theorem ZqU {w f:Int} (h:0<=w/\w<14):Jm XN (Zb0 (xw w f))=.ok (.str (Zoy.getD w.toNat "")):=by
 rcases w14 h with rfl|rfl|rfl|rfl|rfl|rfl|rfl|rfl|rfl|rfl|rfl|rfl|rfl|rfl
 ·exact Zdh
 ·exact Zfa
 ·exact ZdU
 ·exact Zdg
 ·exact ZdQ
 ·exact ZdT
 ·exact ZeX
 ·exact ZdP
 ·exact ZdO
 ·exact ZdV
 ·exact ZeZ
 ·exact ZdR
 ·exact ZeY
 ·exact ZdS
theorem ZqQ {w:Int} (h:0<=w/\w<14) {g:Bool->Bool}:ZbP g (.str (Zoy.getD w.toNat "")) (.str (Zoy.getD w.toNat ""))=.ok (.bl (g true)):=by
 rcases w14 h with rfl|rfl|rfl|rfl|rfl|rfl|rfl|rfl|rfl|rfl|rfl|rfl|rfl|rfl
 ·exact Vt
 ·exact Zbq
 ·exact QD
 ·exact Vs
 ·exact Q9
 ·exact QC
 ·exact Zbn
 ·exact Q8
 ·exact Q7
 ·exact QE
 ·exact Zbp
 ·exact QA
 ·exact Zbo
 ·exact QB
theorem ZhH {g:Bool->Bool}{n:Nat}{x:PV} (h:Dat n x) (hn:n<=64:=by decide):ZbP g x x=.ok (.bl (g true)):=by
 unfold ZbP
 rw[h.ok hn,Bool.and_self,if_pos rfl,PySem.SeqAt.eqv_refl _ h.can]
noncomputable def Zsw:Pm:=⟨Int,fun c=>[.int c],fun _=>True,fun _=>.ok (.bl true)⟩
theorem ZyA (T:Txt K mg) {f:Addr}{fd:FuncData} (F:Fun K "_law_right" "_law_right" Zsq f fd):J5 P w K mg base CX0 11 f fd ["cell"] (spF K 1 .P W0 Zsw.fn):=by
 have Zze:=Zca (P:=P) (w:=w) (base:=base) T.ZyN Zyp (fun F=>Zyc T F)
 have Zzd:=Zca (P:=P) (w:=w) (base:=base) T.ZyM Zyo (fun F=>Zyb T F)
 have Zzw:=Zca (P:=P) (w:=w) (base:=base) T.Zzo ZyT (fun F=>ZyB T F)
 have hT_V:=Zkv T.x_tab (L:=ZA) (by decide)
 obtain⟨I_BadPlan,hI_BadPlan,hT_BadPlan⟩:=Ju T.x_tab (c := "BadPlan") (L:=ZI) (by decide) (by decide)
 refine F.okP Zst rfl rfl (fun cdv A outer s H E hr=>?_)
 have hu:=hr.units
 refine⟨_,_,⟨[],[],[],.P⟩,rfl,(Zi (ZW (i:=1) Zst.nd rfl (by first|exact Or.inl rfl|exact Or.inr rfl) (ZF J9 (pv 0) Zl))
   (Zi (ZW (i:=2) Zst.nd rfl (by first|exact Or.inl rfl|exact Or.inr rfl) (ZF J9 (ZF Zeq (pv 0) Zl) (ZF ZgP Zl Zl)))
   (Zi (ZW (i:=3) Zst.nd rfl (by first|exact Or.inl rfl|exact Or.inr rfl) (ZE Zze (hr.mono (by decide)) rfl (Za (pv 1) (Za (pv 2) Zg))))
   (Zi (Jo (JZ (JN (Zr (Jr (K:=K) hT_V) rfl T.z_isinstance Zw (Za (pv 3) (Za (Zcu (v:=.ty "ValueError") rfl T.z_ValueError Ze3 rfl) Zg))))) (Zj (Zz ZfT)) Z7)
   (Zi (ZW (i:=4) Zst.nd rfl (by first|exact Or.inl rfl|exact Or.inr rfl) (Jl (Za Z6 (Za Z6 (Za Z6 (Za Z6 (Za Z6 (Za Z6 (Za Z6 (Za Z6 (Za Z6 Zg)))))))))))
   (Zi (ZW (i:=4) Zst.nd rfl (by first|exact Or.inl rfl|exact Or.inr rfl) (ZF (Zbx (K:=K)) (pv 4) (Jl (Za Z6 (Za Z6 (Za Z6 (Za Z6 (Za Z6 Zg))))))))
   (Zi (Jo (PW.pt (ZgF (Z2 (Js (K:=K) hu) (pv 1) Zl (Z9 _)) (Zek (PW.pt (ZgF (JN (Zr (Jr (K:=K) hT_BadPlan) rfl T.z_isinstance Zw (Za (pv 3) (Za (J8 (v:=.ref I_BadPlan) rfl (T.x_mg _ _ hI_BadPlan) rfl) Zg)))) (Zek (Z2 (Zc3 (K:=K) hu) (ZpG (L:=XA) T.x_at (pv 3)) (ZE Zzw (hr.mono (by decide)) rfl (Za (pv 2) Zg)) (Z9 _)))))))) (Zj (Zz ZfT)) Z7)
   (Zj (Zz (ZcQ (JV (Js (K:=K) hu) (ZE Zzd (hr.mono (by decide)) rfl (Za (pv 3) Zg)) (Um (Zbv rfl T.z_range (Za Zl Zg)) (fun _ _ _ _=>(JV (Js (K:=K) hu) (pv 5) (pv 1) (Z9 _))) Zst.nd rfl) (Z9 _)) (ZcP (JV (Js (K:=K) hu) (ZiT (k:=1) (L:=XN) (Zoz T) (hr.mono (by decide)) (pv 3)) (Uk (Jq (K:=K)) (pv 4) (pv 1) (fun _ _=>rfl)) (Z9 _))))))))))))),
   (Zp (Γm:=[.S,.P,.U,.U,.U]) (Jt (i:=1) (JB (Zd (i:=0) (m:=.S) rfl (by decide)) (DE.toA Zk)) (by decide))
   (Zp (Γm:=[.S,.P,.P,.U,.U]) (Jt (i:=2) (JB (DE.toA (ZjR (Zd (i:=0) (m:=.S) rfl (by decide)) (DE.toA Zk))) (DE.toA (Zhu (DE.toA Zk) (DE.toA Zk)))) (by decide))
   (Zp (Γm:=[.S,.P,.P,.P,.U]) (Jt (i:=3) (ZjU (Zf (Zf Zm)) (Zc (DE.toA (Z3 (i:=1) rfl)) (Zc (DE.toA (Z3 (i:=2) rfl)) Zh))) (by decide))
   (Zp (Γm:=[.S,.P,.P,.P,.U]) (Jp (Vi (Ze7 (DE.toA (Vu (DE.toA (Z3 (i:=3) rfl))))))
   (ZC Zgp)
   Z8)
   (Zp (Γm:=[.S,.P,.P,.P,.O]) (JA (i:=4) (Ja (Zn (DE.PF Z5) (Zn (DE.PF Z5) (Zn (DE.PF Z5) (Zn (DE.PF Z5) (Zn (DE.PF Z5) (Zn (DE.PF Z5) (Zn (DE.PF Z5) (Zn (DE.PF Z5) (Zn (DE.PF Z5) ZO)))))))))) (by decide))
   (Zp (Γm:=[.S,.P,.P,.P,.O]) (JA (i:=4) (Zb2 (Zd (i:=4) (m:=.O) rfl (by decide)) (DE.toA (Ja (Zn (DE.PF Z5) (Zn (DE.PF Z5) (Zn (DE.PF Z5) (Zn (DE.PF Z5) (Zn (DE.PF Z5) ZO)))))))) (by decide))
   (Zp (Γm:=[.S,.P,.P,.P,.O]) (Jp (Zhs (Z1 (DE.toA (Jb (g:=id) (DE.toA (Z3 (i:=1) rfl)) (DE.toA Zk)))) (Zhs (Ze7 (DE.toA (Vu (DE.toA (Z3 (i:=3) rfl))))) (Z1 (DE.toA (Jb (g:=(!·)) (DE.toA (Zqb (DE.toA (Z3 (i:=3) rfl)))) (DE.toA (ZjU (Zf Zm) (Zc (DE.toA (Z3 (i:=2) rfl)) Zh))))))))
   (ZC Zgp)
   Z8)
   (ZC (Zdv (DE.toA (Jb (g:=id) (DE.toA (Zqc (Zf Zm) (Zc (DE.toA (Z3 (i:=3) rfl)) Zh))) (DE.toA (JL (DI.c (Zds (Zc (DE.toA Zk) Zh))) (DE.PF (Jb (g:=id) (Zd (i:=5) (m:=.S) rfl (by decide)) (DE.toA (Z3 (i:=1) rfl)))))))) (Jb (g:=id) (DE.toA (ZjT (DE.toA (Z3 (i:=3) rfl)))) (JH (te:=tC .non) (Zd (i:=4) (m:=.O) rfl (by decide)) (DE.toA (Z3 (i:=1) rfl))))))))))))), ?_⟩
 refine Pm.ref Zsw (g:=fun xs=>_) ?_
 rintro(c:Int) -
 simp only[Zsw]
 have hw:0<=c%14/\c%14<14:=by omega
 have hf:0<=c/14%10^60/\c/14%10^60<10^60:=⟨Z1g _ (by decide),Z1h _ (by decide)⟩
 walk_at "pd"
 generalize c%14=w at *
 generalize c/14%10^60=f at *
 rw[Ztf ⟨hw,hf⟩]
 walk_at "pd"
 rw[ZqK hw]
 walk_at "pd"
 rw[show newF [PV.str (PySem.Str.ofString "BadBoard"),PV.str (PySem.Str.ofString "BadPit"),PV.str (PySem.Str.ofString "BadPits"),PV.str (PySem.Str.ofString "BadCount"),PV.str (PySem.Str.ofString "NoSeeds"),PV.str (PySem.Str.ofString "BadPlan"),PV.str (PySem.Str.ofString "Unlike"),PV.str (PySem.Str.ofString "TooLong"),PV.str (PySem.Str.ofString "TooMany"),PV.str (PySem.Str.ofString "BadLine"),PV.str (PySem.Str.ofString "BadRow"),PV.str (PySem.Str.ofString "BadYard"),PV.str (PySem.Str.ofString "NoDeed"),PV.str (PySem.Str.ofString "BadText")]=.ok (.lst (Zoy.map PV.str)) from rfl]
 walk_at "pd"
 have hplan:(if decide (w=5)=true then ((Zv ZI (Zb0 (xw w f))).bind asB).bind fun b=>if b=true then ((pAt XA (Zb0 (xw w f))).bind fun x=>(Zr7.fn [PV.int f]).bind fun y=>ZbP (fun x=>!x) x y).bind asB else Rr.ok false else Rr.ok false)=Rr.ok false:=by
  by_cases e:w=5
  ·subst e
   rw[Zb4 hw,show pAt XA (Zb0 (xw 5 f))=.ok (.int (plc f)) from ZdW,Zt2 hf.1]
   walk_at "pd"
   rfl
  ·rw[decide_eq_false e]
   rfl
 rw[hplan]
 walk_at "pd"
 rw[Zte hw,Zhb (g:=fun(k:Nat)=>decide ((k:Int)=w)) (fun i hi=>by rw[Int.zero_add];walk_at "pd")]
 walk_at "pd"
 rw[show PV.lst (List.map PV.bl (List.map (fun(k:Nat)=>decide ((k:Int)=w)) (List.range 14)))=ZnL w by unfold ZnL;rw[Z11];rfl]
 rw[ZhH (show Dat 1 (ZnL w) from Znp fun x hx=>by
  obtain⟨k,_,rfl⟩:=Z1e.mp hx
  exact⟨rfl,by simp[PV.dat,PyData.canLay0],by simp[PV.dat,PyData.depth]⟩)]
 walk_at "pd"
 rw[ZqU hw,ZpK (q:=PV.str) (L:=Zoy) (d:=PySem.Str.ofString "") hw.1 (by show w<14;exact hw.2)]
 walk_at "pd"
 rw[ZqQ hw]
 walk_at "pd"
theorem ZsY {c:Int}:Zsw.fn [.int c]=.ok (.bl true):=Pm.fn_eq Zsw c trivial fun _ _=>rfl
noncomputable def Zxi:Pm:=⟨List Int,fun ns=>[.lst (ns.map PV.int)],fun ns=>ns.length<=63,fun _=>.ok (.bl true)⟩
theorem Z05 (T:Txt K mg) {f:Addr}{fd:FuncData} (F:Fun K "law" "law" Zzg f fd):J5 P w K mg base CX0 12 f fd ["script"] (spF K 1 .P W0 Zxi.fn):=by
 have ZwS:=Zca (P:=P) (w:=w) (base:=base) T.Zzn ZyS (fun F=>ZyA T F)
 refine F.okP Z0a rfl rfl (fun cdv A outer s H E hr=>?_)
 have hu:=hr.units
 refine⟨_,_,⟨[],[],[],.P⟩,rfl,(Zi (ZeK PassesOwn.never rfl (Ul (K:=K) (pv 0)) (ZaR (i:=1) Z0a.nd rfl (by first|exact Or.inl rfl|exact Or.inr rfl)) (Zj (Jo (JZ (JN (ZE ZwS (hr.mono (by decide)) rfl (Za (pv 1) Zg)))) (Zj (Zz ZfT)) Z7)))
   (Zj (Zz (Zr (Ui (K:=K) rfl) rfl T.z_all Zd2 (Za (Um (Zbv rfl T.z_range (Za Zl Zg)) (fun _ _ _ _=>(ZE ZwS (hr.mono (by decide)) rfl (Za (pv 2) Zg))) Z0a.nd rfl) Zg))))),
   (Zp (Γm:=[.S,.U]) (Zfq (Γl:=[.S,.U]) (Zdt (Zcy (i:=0) rfl)) rfl (Znh (i:=1) (by decide))
   (DS.out (Y:=⟨[.S,.P],[.S,.U],[.S,.U],.P⟩) (Y':=⟨[.S,.U],[.S,.U],[.S,.U],.P⟩) (Jp (Vi (Ze7 (DE.toA (ZjU (Zf Zm) (Zc (DE.toA (Z3 (i:=1) rfl)) Zh)))))
   (ZC Zgp)
   Z8) rfl rfl rfl rfl))
   (ZC (Zdw (Zc (DE.toA (JL (DI.c (Zds (Zc (DE.toA Zk) Zh))) (DE.PF (ZjU (Zf Zm) (Zc (Zd (i:=2) (m:=.S) rfl (by decide)) Zh))))) Zh)))), ?_⟩
 refine Pm.ref Zxi (g:=fun xs=>_) ?_
 rintro(ns:List Int) (hn:ns.length<=63)
 simp only[Zxi]
 walk_at "pd"
 generalize hw:Zea _ _ _=W
 obtain⟨ρ',rfl,v,rfl⟩:=Zdm hw (fun i ρ=>∃v,ρ=[.lst (ns.map PV.int),v]) ⟨_,rfl⟩ (by
  rintro i x ρ hx ⟨v,rfl⟩
  rw[Z0N] at hx
  cases ht:ns[i]? with
  |none=>rw[ht] at hx;cases hx
  |some c =>
   rw[ht] at hx
   cases hx
   walk_at "pd"
   rw[ZsY]
   walk_at "pd"
   exact ZeR ⟨_,rfl⟩)
 walk_at "pd"
 rw[Zhb (g:=fun _=>true) (fun i hi=>ZsY)]
 walk_at "pd"
 rfl
noncomputable def Zi8 (K:W.Frag):Sp:=spF K 1 .P W0 Zxi.fn
theorem Zo5 {l:PySem.W.OpenLaw} (T:Txt K mg) {fa:Addr} (hmg:mg "law"=some (.ref fa)):∃fd:FuncData,(∀(s:Shared) (u:Value),BindsTo s fd ⟨[u],[]⟩ [("script",u)]) /\
  ∀base:Heap,K.In base->base.Ns mainGlobals mg->J5 l.prog w K mg base CX0 12 fa fd ["script"] (Zi8 K):=by
 obtain⟨f,fd,F,hm⟩:=T.Z08
 rw[hmg] at hm
 cases hm
 refine⟨fd,fun s u=>?_,fun base _ _=>Z05 T F⟩
 obtain⟨oc,od,kV,doc,pm,an,cdv,ct,osl,rfl,lk,hcd⟩:=F.ex
 exact .of_eq (Z07 kV doc pm an cdv ct [u] rfl)
theorem Zj3 {H:Hp}{a:Addr}{ns:List Int} (hl:ns.length<=63) (hO:Zpk H) (hS:SqL K H a (ns.map V.int)):Zi8 K [.ref a] H (fun v _=>v=.bl true) fun _ _ _=>False:=
 ZhY (Pm.fn_eq Zxi ns hl fun _ _=>rfl) hS
end
theorem ZnK {K:W.Frag}{h:Heap}{mg:Str->Option Value}{ZwA ZtU ZsD Zv8 ZwB ZuX ZuY Ztm Zxz ZyC ZyE Zwc ZtC Z0g Zwa Zut ZvA Zx3 Zx1 ZuW ZuU Zva ZuZ Zur Zx2 ZyD ZtE Zwb Zv7 ZuV Zus Zw9 ZwC ZvB Zx0 ZtV Zvb Zw8 Zuv ZtT Zv9 Zuu ZtD Zvd Zvc ZvD ZvC Z01:Addr} (X:K.In h) (G:h.Ns mainGlobals mg)
  {od_is_whole an_is_whole:Option Addr}{sl_is_whole:Array (Option Value)}{oc_is_whole kV_is_whole dc_is_whole ZsP cd_is_whole ct_is_whole:Value}
  {od_is_whole_from an_is_whole_from:Option Addr}{sl_is_whole_from:Array (Option Value)}{oc_is_whole_from kV_is_whole_from dc_is_whole_from Zri cd_is_whole_from ct_is_whole_from:Value}
  {od_is_list_from_nought an_is_list_from_nought:Option Addr}{sl_is_list_from_nought:Array (Option Value)}{oc_is_list_from_nought kV_is_list_from_nought dc_is_list_from_nought Zrc cd_is_list_from_nought ct_is_list_from_nought:Value}
  {od_most_seeds an_most_seeds:Option Addr}{sl_most_seeds:Array (Option Value)}{oc_most_seeds kV_most_seeds dc_most_seeds Zr6 cd_most_seeds ct_most_seeds:Value}
  {od_is_board an_is_board:Option Addr}{sl_is_board:Array (Option Value)}{oc_is_board kV_is_board dc_is_board Zsg cd_is_board ct_is_board:Value}
  {od_check_board an_check_board:Option Addr}{sl_check_board:Array (Option Value)}{oc_check_board kV_check_board dc_check_board ZrI cd_check_board ct_check_board:Value}
  {od_check_alike an_check_alike:Option Addr}{sl_check_alike:Array (Option Value)}{oc_check_alike kV_check_alike dc_check_alike ZrJ cd_check_alike ct_check_alike:Value}
  {od_check_few_seeds an_check_few_seeds:Option Addr}{sl_check_few_seeds:Array (Option Value)}{oc_check_few_seeds kV_check_few_seeds dc_check_few_seeds Zrk cd_check_few_seeds ct_check_few_seeds:Value}
  {od_sow_pit an_sow_pit:Option Addr}{sl_sow_pit:Array (Option Value)}{oc_sow_pit kV_sow_pit dc_sow_pit Zs4 cd_sow_pit ct_sow_pit:Value}
  {od_way_to an_way_to:Option Addr}{sl_way_to:Array (Option Value)}{oc_way_to kV_way_to dc_way_to Ztw cd_way_to ct_way_to:Value}
  {od_is_pit an_is_pit:Option Addr}{sl_is_pit:Array (Option Value)}{oc_is_pit kV_is_pit dc_is_pit ZsK cd_is_pit ct_is_pit:Value}
  {od_check_pit an_check_pit:Option Addr}{sl_check_pit:Array (Option Value)}{oc_check_pit kV_check_pit dc_check_pit Zss cd_check_pit ct_check_pit:Value}
  {od_check_standing an_check_standing:Option Addr}{sl_check_standing:Array (Option Value)}{oc_check_standing kV_check_standing dc_check_standing Zro cd_check_standing ct_check_standing:Value}
  {od_sown an_sown:Option Addr}{sl_sown:Array (Option Value)}{oc_sown kV_sown dc_sown Zt4 cd_sown ct_sown:Value}
  {od_is_rising an_is_rising:Option Addr}{sl_is_rising:Array (Option Value)}{oc_is_rising kV_is_rising dc_is_rising ZrD cd_is_rising ct_is_rising:Value}
  {od_check_barred an_check_barred:Option Addr}{sl_check_barred:Array (Option Value)}{oc_check_barred kV_check_barred dc_check_barred Zr3 cd_check_barred ct_check_barred:Value}
  {od_check_play an_check_play:Option Addr}{sl_check_play:Array (Option Value)}{oc_check_play kV_check_play dc_check_play Zsv cd_check_play ct_check_play:Value}
  {od_come_to an_come_to:Option Addr}{sl_come_to:Array (Option Value)}{oc_come_to kV_come_to dc_come_to Ztj cd_come_to ct_come_to:Value}
  {od_ends_of an_ends_of:Option Addr}{sl_ends_of:Array (Option Value)}{oc_ends_of kV_ends_of dc_ends_of ZsW cd_ends_of ct_ends_of:Value}
  {od_check_count an_check_count:Option Addr}{sl_check_count:Array (Option Value)}{oc_check_count kV_check_count dc_check_count ZrH cd_check_count ct_check_count:Value}
  {od_check_sizes an_check_sizes:Option Addr}{sl_check_sizes:Array (Option Value)}{oc_check_sizes kV_check_sizes dc_check_sizes ZrF cd_check_sizes ct_check_sizes:Value}
  {od_board_count an_board_count:Option Addr}{sl_board_count:Array (Option Value)}{oc_board_count kV_board_count dc_board_count Zsh cd_board_count ct_board_count:Value}
  {od_can_be_done an_can_be_done:Option Addr}{sl_can_be_done:Array (Option Value)}{oc_can_be_done kV_can_be_done dc_can_be_done Zrr cd_can_be_done ct_can_be_done:Value}
  {od_take_back_at an_take_back_at:Option Addr}{sl_take_back_at:Array (Option Value)}{oc_take_back_at kV_take_back_at dc_take_back_at Zr1 cd_take_back_at ct_take_back_at:Value}
  {od_do_deed an_do_deed:Option Addr}{sl_do_deed:Array (Option Value)}{oc_do_deed kV_do_deed dc_do_deed Zs5 cd_do_deed ct_do_deed:Value}
  {od_walked an_walked:Option Addr}{sl_walked:Array (Option Value)}{oc_walked kV_walked dc_walked ZsJ cd_walked ct_walked:Value}
  {od__law_of_boards an__law_of_boards:Option Addr}{sl__law_of_boards:Array (Option Value)}{oc__law_of_boards kV__law_of_boards dc__law_of_boards Zrq cd__law_of_boards ct__law_of_boards:Value}
  {od_is_number an_is_number:Option Addr}{sl_is_number:Array (Option Value)}{oc_is_number kV_is_number dc_is_number ZrE cd_is_number ct_is_number:Value}
  {od_read_board an_read_board:Option Addr}{sl_read_board:Array (Option Value)}{oc_read_board kV_read_board dc_read_board Zsu cd_read_board ct_read_board:Value}
  {od_check_round an_check_round:Option Addr}{sl_check_round:Array (Option Value)}{oc_check_round kV_check_round dc_check_round ZrG cd_check_round ct_check_round:Value}
  {od_check_length an_check_length:Option Addr}{sl_check_length:Array (Option Value)}{oc_check_length kV_check_length dc_check_length Zr2 cd_check_length ct_check_length:Value}
  {od_round_of an_round_of:Option Addr}{sl_round_of:Array (Option Value)}{oc_round_of kV_round_of dc_round_of Zsf cd_round_of ct_round_of:Value}
  {od_gathered an_gathered:Option Addr}{sl_gathered:Array (Option Value)}{oc_gathered kV_gathered dc_gathered ZsA cd_gathered ct_gathered:Value}
  {od_check_line an_check_line:Option Addr}{sl_check_line:Array (Option Value)}{oc_check_line kV_check_line dc_check_line Zsd cd_check_line ct_check_line:Value}
  {od_marched an_marched:Option Addr}{sl_marched:Array (Option Value)}{oc_marched kV_marched dc_marched Zti cd_marched ct_marched:Value}
  {od_greatest_step an_greatest_step:Option Addr}{sl_greatest_step:Array (Option Value)}{oc_greatest_step kV_greatest_step dc_greatest_step Zrw cd_greatest_step ct_greatest_step:Value}
  {od_added_seeds an_added_seeds:Option Addr}{sl_added_seeds:Array (Option Value)}{oc_added_seeds kV_added_seeds dc_added_seeds Zrm cd_added_seeds ct_added_seeds:Value}
  {od_row_with an_row_with:Option Addr}{sl_row_with:Array (Option Value)}{oc_row_with kV_row_with dc_row_with Zth cd_row_with ct_row_with:Value}
  {od_added_in_row an_added_in_row:Option Addr}{sl_added_in_row:Array (Option Value)}{oc_added_in_row kV_added_in_row dc_added_in_row ZrM cd_added_in_row ct_added_in_row:Value}
  {od_number_of_row an_number_of_row:Option Addr}{sl_number_of_row:Array (Option Value)}{oc_number_of_row kV_number_of_row dc_number_of_row Zr5 cd_number_of_row ct_number_of_row:Value}
  {od_check_yard an_check_yard:Option Addr}{sl_check_yard:Array (Option Value)}{oc_check_yard kV_check_yard dc_check_yard Zsc cd_check_yard ct_check_yard:Value}
  {od_brought_home an_brought_home:Option Addr}{sl_brought_home:Array (Option Value)}{oc_brought_home kV_brought_home dc_brought_home Zr4 cd_brought_home ct_brought_home:Value}
  {od__law_of_others an__law_of_others:Option Addr}{sl__law_of_others:Array (Option Value)}{oc__law_of_others kV__law_of_others dc__law_of_others Zrp cd__law_of_others ct__law_of_others:Value}
  {od__law_caught an__law_caught:Option Addr}{sl__law_caught:Array (Option Value)}{oc__law_caught kV__law_caught dc__law_caught ZrL cd__law_caught ct__law_caught:Value}
  {od__law_takers an__law_takers:Option Addr}{sl__law_takers:Array (Option Value)}{oc__law_takers kV__law_takers dc__law_takers ZrK cd__law_takers ct__law_takers:Value}
  {od__law_place an__law_place:Option Addr}{sl__law_place:Array (Option Value)}{oc__law_place kV__law_place dc__law_place Zr7 cd__law_place ct__law_place:Value}
  {od__law_right an__law_right:Option Addr}{sl__law_right:Array (Option Value)}{oc__law_right kV__law_right dc__law_right Zsw cd__law_right ct__law_right:Value}
  {od_law an_law:Option Addr}{sl_law:Array (Option Value)}{oc_law kV_law dc_law Zxi cd_law ct_law:Value}
  (ZwJ:PySem.W.nsIn K mainGlobals "is_whole"=some (some (.ref ZwA))) (Zwx:K.lookup ZwA=some ⟨oc_is_whole,od_is_whole,.func (PySem.W.fnOf "is_whole" "is_whole" (Zq ZsT) (Zo ZsT) (Ze ZsT) .none kV_is_whole dc_is_whole ZsP an_is_whole cd_is_whole ct_is_whole),sl_is_whole⟩) (Zu4:PySem.W.codeIn K cd_is_whole "is_whole"=true) (Zw2:PySem.W.keepIn K (.ref ZwA)=true)
  (Zua:PySem.W.nsIn K mainGlobals "is_whole_from"=some (some (.ref ZtU))) (ZtO:K.lookup ZtU=some ⟨oc_is_whole_from,od_is_whole_from,.func (PySem.W.fnOf "is_whole_from" "is_whole_from" (Zq Zrz) (Zo Zrz) (Ze Zrz) .none kV_is_whole_from dc_is_whole_from Zri an_is_whole_from cd_is_whole_from ct_is_whole_from),sl_is_whole_from⟩) (ZrN:PySem.W.codeIn K cd_is_whole_from "is_whole_from"=true) (ZtR:PySem.W.keepIn K (.ref ZtU)=true)
  (ZsG:PySem.W.nsIn K mainGlobals "is_list_from_nought"=some (some (.ref ZsD))) (ZsB:K.lookup ZsD=some ⟨oc_is_list_from_nought,od_is_list_from_nought,.func (PySem.W.fnOf "is_list_from_nought" "is_list_from_nought" (Zq Zre) (Zo Zre) (Ze Zre) .none kV_is_list_from_nought dc_is_list_from_nought Zrc an_is_list_from_nought cd_is_list_from_nought ct_is_list_from_nought),sl_is_list_from_nought⟩) (Zrf:PySem.W.codeIn K cd_is_list_from_nought "is_list_from_nought"=true) (ZsC:PySem.W.keepIn K (.ref ZsD)=true)
  (ZvI:PySem.W.nsIn K mainGlobals "most_seeds"=some (some (.ref Zv8))) (Zvu:K.lookup Zv8=some ⟨oc_most_seeds,od_most_seeds,.func (PySem.W.fnOf "most_seeds" "most_seeds" (Zq Zsm) (Zo Zsm) (Ze Zsm) .none kV_most_seeds dc_most_seeds Zr6 an_most_seeds cd_most_seeds ct_most_seeds),sl_most_seeds⟩) (ZsX:PySem.W.codeIn K cd_most_seeds "most_seeds"=true) (Zv1:PySem.W.keepIn K (.ref Zv8)=true)
  (ZwK:PySem.W.nsIn K mainGlobals "is_board"=some (some (.ref ZwB))) (Zwy:K.lookup ZwB=some ⟨oc_is_board,od_is_board,.func (PySem.W.fnOf "is_board" "is_board" (Zq ZsU) (Zo ZsU) (Ze ZsU) .none kV_is_board dc_is_board Zsg an_is_board cd_is_board ct_is_board),sl_is_board⟩) (Zu5:PySem.W.codeIn K cd_is_board "is_board"=true) (Zw3:PySem.W.keepIn K (.ref ZwB)=true)
  (Zvi:PySem.W.nsIn K mainGlobals "check_board"=some (some (.ref ZuX))) (ZuD:K.lookup ZuX=some ⟨oc_check_board,od_check_board,.func (PySem.W.fnOf "check_board" "check_board" (Zq ZrV) (Zo ZrV) (Ze ZrV) .none kV_check_board dc_check_board ZrI an_check_board cd_check_board ct_check_board),sl_check_board⟩) (Zrs:PySem.W.codeIn K cd_check_board "check_board"=true) (ZuN:PySem.W.keepIn K (.ref ZuX)=true)
  (Zvj:PySem.W.nsIn K mainGlobals "check_alike"=some (some (.ref ZuY))) (ZuE:K.lookup ZuY=some ⟨oc_check_alike,od_check_alike,.func (PySem.W.fnOf "check_alike" "check_alike" (Zq ZrW) (Zo ZrW) (Ze ZrW) .none kV_check_alike dc_check_alike ZrJ an_check_alike cd_check_alike ct_check_alike),sl_check_alike⟩) (Ztb:PySem.W.codeIn K cd_check_alike "check_alike"=true) (ZuO:PySem.W.keepIn K (.ref ZuY)=true)
  (Zto:PySem.W.nsIn K mainGlobals "check_few_seeds"=some (some (.ref Ztm))) (Ztk:K.lookup Ztm=some ⟨oc_check_few_seeds,od_check_few_seeds,.func (PySem.W.fnOf "check_few_seeds" "check_few_seeds" (Zq Zrn) (Zo Zrn) (Ze Zrn) .none kV_check_few_seeds dc_check_few_seeds Zrk an_check_few_seeds cd_check_few_seeds ct_check_few_seeds),sl_check_few_seeds⟩) (Zsk:PySem.W.codeIn K cd_check_few_seeds "check_few_seeds"=true) (Ztl:PySem.W.keepIn K (.ref Ztm)=true)
  (ZxG:PySem.W.nsIn K mainGlobals "sow_pit"=some (some (.ref Zxz))) (Zxj:K.lookup Zxz=some ⟨oc_sow_pit,od_sow_pit,.func (PySem.W.fnOf "sow_pit" "sow_pit" (Zq Ztr) (Zo Ztr) (Ze Ztr) .none kV_sow_pit dc_sow_pit Zs4 an_sow_pit cd_sow_pit ct_sow_pit),sl_sow_pit⟩) (Ztx:PySem.W.codeIn K cd_sow_pit "sow_pit"=true) (Zxo:PySem.W.keepIn K (.ref Zxz)=true)
  (ZyU:PySem.W.nsIn K mainGlobals "way_to"=some (some (.ref ZyC))) (Zy0:K.lookup ZyC=some ⟨oc_way_to,od_way_to,.func (PySem.W.fnOf "way_to" "way_to" (Zq Zuc) (Zo Zuc) (Ze Zuc) .none kV_way_to dc_way_to Ztw an_way_to cd_way_to ct_way_to),sl_way_to⟩) (Zwo:PySem.W.codeIn K cd_way_to "way_to"=true) (Zy3:PySem.W.keepIn K (.ref ZyC)=true)
  (ZyW:PySem.W.nsIn K mainGlobals "is_pit"=some (some (.ref ZyE))) (Zy2:K.lookup ZyE=some ⟨oc_is_pit,od_is_pit,.func (PySem.W.fnOf "is_pit" "is_pit" (Zq Zue) (Zo Zue) (Ze Zue) .none kV_is_pit dc_is_pit ZsK an_is_pit cd_is_pit ct_is_pit),sl_is_pit⟩) (Zve:PySem.W.codeIn K cd_is_pit "is_pit"=true) (Zy5:PySem.W.keepIn K (.ref ZyE)=true)
  (Zwh:PySem.W.nsIn K mainGlobals "check_pit"=some (some (.ref Zwc))) (ZvW:K.lookup Zwc=some ⟨oc_check_pit,od_check_pit,.func (PySem.W.fnOf "check_pit" "check_pit" (Zq Zs9) (Zo Zs9) (Ze Zs9) .none kV_check_pit dc_check_pit Zss an_check_pit cd_check_pit ct_check_pit),sl_check_pit⟩) (Ztn:PySem.W.codeIn K cd_check_pit "check_pit"=true) (ZvZ:PySem.W.keepIn K (.ref Zwc)=true)
  (ZtG:PySem.W.nsIn K mainGlobals "check_standing"=some (some (.ref ZtC))) (Zt5:K.lookup ZtC=some ⟨oc_check_standing,od_check_standing,.func (PySem.W.fnOf "check_standing" "check_standing" (Zq Zrt) (Zo Zrt) (Ze Zrt) .none kV_check_standing dc_check_standing Zro an_check_standing cd_check_standing ct_check_standing),sl_check_standing⟩) (ZrR:PySem.W.codeIn K cd_check_standing "check_standing"=true) (Zt8:PySem.W.keepIn K (.ref ZtC)=true)
  (Z0n:PySem.W.nsIn K mainGlobals "sown"=some (some (.ref Z0g))) (Z0c:K.lookup Z0g=some ⟨oc_sown,od_sown,.func (PySem.W.fnOf "sown" "sown" (Zq ZwO) (Zo ZwO) (Ze ZwO) .none kV_sown dc_sown Zt4 an_sown cd_sown ct_sown),sl_sown⟩) (Zzp:PySem.W.codeIn K cd_sown "sown"=true) (Z0d:PySem.W.keepIn K (.ref Z0g)=true)
  (Zwf:PySem.W.nsIn K mainGlobals "is_rising"=some (some (.ref Zwa))) (ZvU:K.lookup Zwa=some ⟨oc_is_rising,od_is_rising,.func (PySem.W.fnOf "is_rising" "is_rising" (Zq Zs7) (Zo Zs7) (Ze Zs7) .none kV_is_rising dc_is_rising ZrD an_is_rising cd_is_rising ct_is_rising),sl_is_rising⟩) (ZtX:PySem.W.codeIn K cd_is_rising "is_rising"=true) (ZvX:PySem.W.keepIn K (.ref Zwa)=true)
  (Zuy:PySem.W.nsIn K mainGlobals "check_barred"=some (some (.ref Zut))) (Zuj:K.lookup Zut=some ⟨oc_check_barred,od_check_barred,.func (PySem.W.fnOf "check_barred" "check_barred" (Zq ZrA) (Zo ZrA) (Ze ZrA) .none kV_check_barred dc_check_barred Zr3 an_check_barred cd_check_barred ct_check_barred),sl_check_barred⟩) (ZsM:PySem.W.codeIn K cd_check_barred "check_barred"=true) (Zuo:PySem.W.keepIn K (.ref Zut)=true)
  (ZvK:PySem.W.nsIn K mainGlobals "check_play"=some (some (.ref ZvA))) (Zvw:K.lookup ZvA=some ⟨oc_check_play,od_check_play,.func (PySem.W.fnOf "check_play" "check_play" (Zq Zso) (Zo Zso) (Ze Zso) .none kV_check_play dc_check_play Zsv an_check_play cd_check_play ct_check_play),sl_check_play⟩) (Zt0:PySem.W.codeIn K cd_check_play "check_play"=true) (Zv3:PySem.W.keepIn K (.ref ZvA)=true)
  (ZxK:PySem.W.nsIn K mainGlobals "come_to"=some (some (.ref Zx3))) (Zxn:K.lookup Zx3=some ⟨oc_come_to,od_come_to,.func (PySem.W.fnOf "come_to" "come_to" (Zq Ztv) (Zo Ztv) (Ze Ztv) .none kV_come_to dc_come_to Ztj an_come_to cd_come_to ct_come_to),sl_come_to⟩) (ZvG:PySem.W.codeIn K cd_come_to "come_to"=true) (Zxs:PySem.W.keepIn K (.ref Zx3)=true)
  (ZxI:PySem.W.nsIn K mainGlobals "ends_of"=some (some (.ref Zx1))) (Zxl:K.lookup Zx1=some ⟨oc_ends_of,od_ends_of,.func (PySem.W.fnOf "ends_of" "ends_of" (Zq Ztt) (Zo Ztt) (Ze Ztt) .none kV_ends_of dc_ends_of ZsW an_ends_of cd_ends_of ct_ends_of),sl_ends_of⟩) (ZvF:PySem.W.codeIn K cd_ends_of "ends_of"=true) (Zxq:PySem.W.keepIn K (.ref Zx1)=true)
  (Zvh:PySem.W.nsIn K mainGlobals "check_count"=some (some (.ref ZuW))) (ZuC:K.lookup ZuW=some ⟨oc_check_count,od_check_count,.func (PySem.W.fnOf "check_count" "check_count" (Zq ZrU) (Zo ZrU) (Ze ZrU) .none kV_check_count dc_check_count ZrH an_check_count cd_check_count ct_check_count),sl_check_count⟩) (Zsy:PySem.W.codeIn K cd_check_count "check_count"=true) (ZuM:PySem.W.keepIn K (.ref ZuW)=true)
  (Zvf:PySem.W.nsIn K mainGlobals "check_sizes"=some (some (.ref ZuU))) (ZuA:K.lookup ZuU=some ⟨oc_check_sizes,od_check_sizes,.func (PySem.W.fnOf "check_sizes" "check_sizes" (Zq ZrS) (Zo ZrS) (Ze ZrS) .none kV_check_sizes dc_check_sizes ZrF an_check_sizes cd_check_sizes ct_check_sizes),sl_check_sizes⟩) (ZsZ:PySem.W.codeIn K cd_check_sizes "check_sizes"=true) (ZuK:PySem.W.keepIn K (.ref ZuU)=true)
  (Zvl:PySem.W.nsIn K mainGlobals "board_count"=some (some (.ref Zva))) (ZuG:K.lookup Zva=some ⟨oc_board_count,od_board_count,.func (PySem.W.fnOf "board_count" "board_count" (Zq ZrY) (Zo ZrY) (Ze ZrY) .none kV_board_count dc_board_count Zsh an_board_count cd_board_count ct_board_count),sl_board_count⟩) (Ztc:PySem.W.codeIn K cd_board_count "board_count"=true) (ZuQ:PySem.W.keepIn K (.ref Zva)=true)
  (Zvk:PySem.W.nsIn K mainGlobals "can_be_done"=some (some (.ref ZuZ))) (ZuF:K.lookup ZuZ=some ⟨oc_can_be_done,od_can_be_done,.func (PySem.W.fnOf "can_be_done" "can_be_done" (Zq ZrX) (Zo ZrX) (Ze ZrX) .none kV_can_be_done dc_can_be_done Zrr an_can_be_done cd_can_be_done ct_can_be_done),sl_can_be_done⟩) (Zsz:PySem.W.codeIn K cd_can_be_done "can_be_done"=true) (ZuP:PySem.W.keepIn K (.ref ZuZ)=true)
  (Zuw:PySem.W.nsIn K mainGlobals "take_back_at"=some (some (.ref Zur))) (Zuh:K.lookup Zur=some ⟨oc_take_back_at,od_take_back_at,.func (PySem.W.fnOf "take_back_at" "take_back_at" (Zq Zr8) (Zo Zr8) (Ze Zr8) .none kV_take_back_at dc_take_back_at Zr1 an_take_back_at cd_take_back_at ct_take_back_at),sl_take_back_at⟩) (ZsL:PySem.W.codeIn K cd_take_back_at "take_back_at"=true) (Zum:PySem.W.keepIn K (.ref Zur)=true)
  (ZxJ:PySem.W.nsIn K mainGlobals "do_deed"=some (some (.ref Zx2))) (Zxm:K.lookup Zx2=some ⟨oc_do_deed,od_do_deed,.func (PySem.W.fnOf "do_deed" "do_deed" (Zq Ztu) (Zo Ztu) (Ze Ztu) .none kV_do_deed dc_do_deed Zs5 an_do_deed cd_do_deed ct_do_deed),sl_do_deed⟩) (Zu7:PySem.W.codeIn K cd_do_deed "do_deed"=true) (Zxr:PySem.W.keepIn K (.ref Zx2)=true)
  (ZyV:PySem.W.nsIn K mainGlobals "walked"=some (some (.ref ZyD))) (Zy1:K.lookup ZyD=some ⟨oc_walked,od_walked,.func (PySem.W.fnOf "walked" "walked" (Zq Zud) (Zo Zud) (Ze Zud) .none kV_walked dc_walked ZsJ an_walked cd_walked ct_walked),sl_walked⟩) (Zwp:PySem.W.codeIn K cd_walked "walked"=true) (Zy4:PySem.W.keepIn K (.ref ZyD)=true)
  (ZtI:PySem.W.nsIn K mainGlobals "_law_of_boards"=some (some (.ref ZtE))) (Zt7:K.lookup ZtE=some ⟨oc__law_of_boards,od__law_of_boards,.func (PySem.W.fnOf "_law_of_boards" "_law_of_boards" (Zq Zrv) (Zo Zrv) (Ze Zrv) .none kV__law_of_boards dc__law_of_boards Zrq an__law_of_boards cd__law_of_boards ct__law_of_boards),sl__law_of_boards⟩) (Zs2:PySem.W.codeIn K cd__law_of_boards "_law_of_boards"=true) (ZtA:PySem.W.keepIn K (.ref ZtE)=true)
  (Zwg:PySem.W.nsIn K mainGlobals "is_number"=some (some (.ref Zwb))) (ZvV:K.lookup Zwb=some ⟨oc_is_number,od_is_number,.func (PySem.W.fnOf "is_number" "is_number" (Zq Zs8) (Zo Zs8) (Ze Zs8) .none kV_is_number dc_is_number ZrE an_is_number cd_is_number ct_is_number),sl_is_number⟩) (ZtY:PySem.W.codeIn K cd_is_number "is_number"=true) (ZvY:PySem.W.keepIn K (.ref Zwb)=true)
  (ZvH:PySem.W.nsIn K mainGlobals "read_board"=some (some (.ref Zv7))) (Zvt:K.lookup Zv7=some ⟨oc_read_board,od_read_board,.func (PySem.W.fnOf "read_board" "read_board" (Zq Zsl) (Zo Zsl) (Ze Zsl) .none kV_read_board dc_read_board Zsu an_read_board cd_read_board ct_read_board),sl_read_board⟩) (Zty:PySem.W.codeIn K cd_read_board "read_board"=true) (Zv0:PySem.W.keepIn K (.ref Zv7)=true)
  (Zvg:PySem.W.nsIn K mainGlobals "check_round"=some (some (.ref ZuV))) (ZuB:K.lookup ZuV=some ⟨oc_check_round,od_check_round,.func (PySem.W.fnOf "check_round" "check_round" (Zq ZrT) (Zo ZrT) (Ze ZrT) .none kV_check_round dc_check_round ZrG an_check_round cd_check_round ct_check_round),sl_check_round⟩) (Zta:PySem.W.codeIn K cd_check_round "check_round"=true) (ZuL:PySem.W.keepIn K (.ref ZuV)=true)
  (Zux:PySem.W.nsIn K mainGlobals "check_length"=some (some (.ref Zus))) (Zui:K.lookup Zus=some ⟨oc_check_length,od_check_length,.func (PySem.W.fnOf "check_length" "check_length" (Zq Zr9) (Zo Zr9) (Ze Zr9) .none kV_check_length dc_check_length Zr2 an_check_length cd_check_length ct_check_length),sl_check_length⟩) (Zs6:PySem.W.codeIn K cd_check_length "check_length"=true) (Zun:PySem.W.keepIn K (.ref Zus)=true)
  (ZwI:PySem.W.nsIn K mainGlobals "round_of"=some (some (.ref Zw9))) (Zww:K.lookup Zw9=some ⟨oc_round_of,od_round_of,.func (PySem.W.fnOf "round_of" "round_of" (Zq ZsS) (Zo ZsS) (Ze ZsS) .none kV_round_of dc_round_of Zsf an_round_of cd_round_of ct_round_of),sl_round_of⟩) (Zu3:PySem.W.codeIn K cd_round_of "round_of"=true) (Zw1:PySem.W.keepIn K (.ref Zw9)=true)
  (ZwL:PySem.W.nsIn K mainGlobals "gathered"=some (some (.ref ZwC))) (Zwz:K.lookup ZwC=some ⟨oc_gathered,od_gathered,.func (PySem.W.fnOf "gathered" "gathered" (Zq ZsV) (Zo ZsV) (Ze ZsV) .none kV_gathered dc_gathered ZsA an_gathered cd_gathered ct_gathered),sl_gathered⟩) (Zu6:PySem.W.codeIn K cd_gathered "gathered"=true) (Zw4:PySem.W.keepIn K (.ref ZwC)=true)
  (ZvL:PySem.W.nsIn K mainGlobals "check_line"=some (some (.ref ZvB))) (Zvx:K.lookup ZvB=some ⟨oc_check_line,od_check_line,.func (PySem.W.fnOf "check_line" "check_line" (Zq Zsp) (Zo Zsp) (Ze Zsp) .none kV_check_line dc_check_line Zsd an_check_line cd_check_line ct_check_line),sl_check_line⟩) (Zt1:PySem.W.codeIn K cd_check_line "check_line"=true) (Zv4:PySem.W.keepIn K (.ref ZvB)=true)
  (ZxH:PySem.W.nsIn K mainGlobals "marched"=some (some (.ref Zx0))) (Zxk:K.lookup Zx0=some ⟨oc_marched,od_marched,.func (PySem.W.fnOf "marched" "marched" (Zq Zts) (Zo Zts) (Ze Zts) .none kV_marched dc_marched Zti an_marched cd_marched ct_marched),sl_marched⟩) (ZvE:PySem.W.codeIn K cd_marched "marched"=true) (Zxp:PySem.W.keepIn K (.ref Zx0)=true)
  (Zub:PySem.W.nsIn K mainGlobals "greatest_step"=some (some (.ref ZtV))) (ZtP:K.lookup ZtV=some ⟨oc_greatest_step,od_greatest_step,.func (PySem.W.fnOf "greatest_step" "greatest_step" (Zq Zr0) (Zo Zr0) (Ze Zr0) .none kV_greatest_step dc_greatest_step Zrw an_greatest_step cd_greatest_step ct_greatest_step),sl_greatest_step⟩) (ZsF:PySem.W.codeIn K cd_greatest_step "greatest_step"=true) (ZtS:PySem.W.keepIn K (.ref ZtV)=true)
  (Zvm:PySem.W.nsIn K mainGlobals "added_seeds"=some (some (.ref Zvb))) (ZuH:K.lookup Zvb=some ⟨oc_added_seeds,od_added_seeds,.func (PySem.W.fnOf "added_seeds" "added_seeds" (Zq ZrZ) (Zo ZrZ) (Ze ZrZ) .none kV_added_seeds dc_added_seeds Zrm an_added_seeds cd_added_seeds ct_added_seeds),sl_added_seeds⟩) (Ztd:PySem.W.codeIn K cd_added_seeds "added_seeds"=true) (ZuR:PySem.W.keepIn K (.ref Zvb)=true)
  (ZwH:PySem.W.nsIn K mainGlobals "row_with"=some (some (.ref Zw8))) (Zwv:K.lookup Zw8=some ⟨oc_row_with,od_row_with,.func (PySem.W.fnOf "row_with" "row_with" (Zq ZsR) (Zo ZsR) (Ze ZsR) .none kV_row_with dc_row_with Zth an_row_with cd_row_with ct_row_with),sl_row_with⟩) (ZwD:PySem.W.codeIn K cd_row_with "row_with"=true) (Zw0:PySem.W.keepIn K (.ref Zw8)=true)
  (Zu0:PySem.W.nsIn K mainGlobals "added_in_row"=some (some (.ref Zuv))) (Zul:K.lookup Zuv=some ⟨oc_added_in_row,od_added_in_row,.func (PySem.W.fnOf "added_in_row" "added_in_row" (Zq ZrC) (Zo ZrC) (Ze ZrC) .none kV_added_in_row dc_added_in_row ZrM an_added_in_row cd_added_in_row ct_added_in_row),sl_added_in_row⟩) (ZsO:PySem.W.codeIn K cd_added_in_row "added_in_row"=true) (Zuq:PySem.W.keepIn K (.ref Zuv)=true)
  (ZtZ:PySem.W.nsIn K mainGlobals "number_of_row"=some (some (.ref ZtT))) (ZtN:K.lookup ZtT=some ⟨oc_number_of_row,od_number_of_row,.func (PySem.W.fnOf "number_of_row" "number_of_row" (Zq Zry) (Zo Zry) (Ze Zry) .none kV_number_of_row dc_number_of_row Zr5 an_number_of_row cd_number_of_row ct_number_of_row),sl_number_of_row⟩) (ZsE:PySem.W.codeIn K cd_number_of_row "number_of_row"=true) (ZtQ:PySem.W.keepIn K (.ref ZtT)=true)
  (ZvJ:PySem.W.nsIn K mainGlobals "check_yard"=some (some (.ref Zv9))) (Zvv:K.lookup Zv9=some ⟨oc_check_yard,od_check_yard,.func (PySem.W.fnOf "check_yard" "check_yard" (Zq Zsn) (Zo Zsn) (Ze Zsn) .none kV_check_yard dc_check_yard Zsc an_check_yard cd_check_yard ct_check_yard),sl_check_yard⟩) (Ztz:PySem.W.codeIn K cd_check_yard "check_yard"=true) (Zv2:PySem.W.keepIn K (.ref Zv9)=true)
  (Zuz:PySem.W.nsIn K mainGlobals "brought_home"=some (some (.ref Zuu))) (Zuk:K.lookup Zuu=some ⟨oc_brought_home,od_brought_home,.func (PySem.W.fnOf "brought_home" "brought_home" (Zq ZrB) (Zo ZrB) (Ze ZrB) .none kV_brought_home dc_brought_home Zr4 an_brought_home cd_brought_home ct_brought_home),sl_brought_home⟩) (ZsN:PySem.W.codeIn K cd_brought_home "brought_home"=true) (Zup:PySem.W.keepIn K (.ref Zuu)=true)
  (ZtH:PySem.W.nsIn K mainGlobals "_law_of_others"=some (some (.ref ZtD))) (Zt6:K.lookup ZtD=some ⟨oc__law_of_others,od__law_of_others,.func (PySem.W.fnOf "_law_of_others" "_law_of_others" (Zq Zru) (Zo Zru) (Ze Zru) .none kV__law_of_others dc__law_of_others Zrp an__law_of_others cd__law_of_others ct__law_of_others),sl__law_of_others⟩) (Zs1:PySem.W.codeIn K cd__law_of_others "_law_of_others"=true) (Zt9:PySem.W.keepIn K (.ref ZtD)=true)
  (Zvo:PySem.W.nsIn K mainGlobals "_law_caught"=some (some (.ref Zvd))) (ZuJ:K.lookup Zvd=some ⟨oc__law_caught,od__law_caught,.func (PySem.W.fnOf "_law_caught" "_law_caught" (Zq Zsb) (Zo Zsb) (Ze Zsb) .none kV__law_caught dc__law_caught ZrL an__law_caught cd__law_caught ct__law_caught),sl__law_caught⟩) (Ztf:PySem.W.codeIn K cd__law_caught "_law_caught"=true) (ZuT:PySem.W.keepIn K (.ref Zvd)=true)
  (Zvn:PySem.W.nsIn K mainGlobals "_law_takers"=some (some (.ref Zvc))) (ZuI:K.lookup Zvc=some ⟨oc__law_takers,od__law_takers,.func (PySem.W.fnOf "_law_takers" "_law_takers" (Zq Zsa) (Zo Zsa) (Ze Zsa) .none kV__law_takers dc__law_takers ZrK an__law_takers cd__law_takers ct__law_takers),sl__law_takers⟩) (Zte:PySem.W.codeIn K cd__law_takers "_law_takers"=true) (ZuS:PySem.W.keepIn K (.ref Zvc)=true)
  (ZvN:PySem.W.nsIn K mainGlobals "_law_place"=some (some (.ref ZvD))) (Zvz:K.lookup ZvD=some ⟨oc__law_place,od__law_place,.func (PySem.W.fnOf "_law_place" "_law_place" (Zq Zsr) (Zo Zsr) (Ze Zsr) .none kV__law_place dc__law_place Zr7 an__law_place cd__law_place ct__law_place),sl__law_place⟩) (Zt2:PySem.W.codeIn K cd__law_place "_law_place"=true) (Zv6:PySem.W.keepIn K (.ref ZvD)=true)
  (ZvM:PySem.W.nsIn K mainGlobals "_law_right"=some (some (.ref ZvC))) (Zvy:K.lookup ZvC=some ⟨oc__law_right,od__law_right,.func (PySem.W.fnOf "_law_right" "_law_right" (Zq Zsq) (Zo Zsq) (Ze Zsq) .none kV__law_right dc__law_right Zsw an__law_right cd__law_right ct__law_right),sl__law_right⟩) (ZsY:PySem.W.codeIn K cd__law_right "_law_right"=true) (Zv5:PySem.W.keepIn K (.ref ZvC)=true)
  (Z04:PySem.W.nsIn K mainGlobals "law"=some (some (.ref Z01))) (Z0y:K.lookup Z01=some ⟨oc_law,od_law,.func (PySem.W.fnOf "law" "law" (Zq Zzg) (Zo Zzg) (Ze Zzg) .none kV_law dc_law Zxi an_law cd_law ct_law),sl_law⟩) (Z02:PySem.W.codeIn K cd_law "law"=true) (Z0z:PySem.W.keepIn K (.ref Z01)=true)
  {t_FEWEST_PITS:Tok} (a_FEWEST_PITS:PySem.W.nsIn K mainGlobals "FEWEST_PITS"=some (some (.int 2 t_FEWEST_PITS)))
  {t_FIGURES:Tok} (a_FIGURES:PySem.W.nsIn K mainGlobals "FIGURES"=some (some (.str "0123456789" t_FIGURES)))
  {t_LONGEST:Tok} (a_LONGEST:PySem.W.nsIn K mainGlobals "LONGEST"=some (some (.int 20000 t_LONGEST)))
  {t_MOST_GATHERED:Tok} (a_MOST_GATHERED:PySem.W.nsIn K mainGlobals "MOST_GATHERED"=some (some (.int 60 t_MOST_GATHERED)))
  {t_MOST_LINE_PITS:Tok} (a_MOST_LINE_PITS:PySem.W.nsIn K mainGlobals "MOST_LINE_PITS"=some (some (.int 100 t_MOST_LINE_PITS)))
  {t_MOST_LINE_SEEDS:Tok} (a_MOST_LINE_SEEDS:PySem.W.nsIn K mainGlobals "MOST_LINE_SEEDS"=some (some (.int 100 t_MOST_LINE_SEEDS)))
  {t_MOST_PITS:Tok} (a_MOST_PITS:PySem.W.nsIn K mainGlobals "MOST_PITS"=some (some (.int 24 t_MOST_PITS)))
  {t_MOST_ROW_SEEDS:Tok} (a_MOST_ROW_SEEDS:PySem.W.nsIn K mainGlobals "MOST_ROW_SEEDS"=some (some (.int 2000 t_MOST_ROW_SEEDS)))
  {t_MOST_YARD_PITS:Tok} (a_MOST_YARD_PITS:PySem.W.nsIn K mainGlobals "MOST_YARD_PITS"=some (some (.int 200 t_MOST_YARD_PITS)))
  {t_MOST_YARD_SEEDS:Tok} (a_MOST_YARD_SEEDS:PySem.W.nsIn K mainGlobals "MOST_YARD_SEEDS"=some (some (.int 10000 t_MOST_YARD_SEEDS)))
  (z_ValueError:PySem.W.nsIn K mainGlobals "ValueError"=some none)
  (z_all:PySem.W.nsIn K mainGlobals "all"=some none)
  (z_bool:PySem.W.nsIn K mainGlobals "bool"=some none)
  (z_enumerate:PySem.W.nsIn K mainGlobals "enumerate"=some none)
  (z_int:PySem.W.nsIn K mainGlobals "int"=some none)
  (z_isinstance:PySem.W.nsIn K mainGlobals "isinstance"=some none)
  (z_len:PySem.W.nsIn K mainGlobals "len"=some none)
  (z_list:PySem.W.nsIn K mainGlobals "list"=some none)
  (z_min:PySem.W.nsIn K mainGlobals "min"=some none)
  (z_range:PySem.W.nsIn K mainGlobals "range"=some none)
  (z_str:PySem.W.nsIn K mainGlobals "str"=some none)
  (z_sum:PySem.W.nsIn K mainGlobals "sum"=some none)
  (z_tuple:PySem.W.nsIn K mainGlobals "tuple"=some none)
  (x_tab:Zkn K XN XS=true) (x_exc:Zmu K XR=true) (x_at:(XA.all (ZlA K))=true)
  {C_SowError fm_SowError:Addr}{odm_SowError anm_SowError:Option Addr}{slm_SowError:Array (Option Value)}{ocm_SowError kVm_SowError dcm_SowError pmm_SowError cdm_SowError ctm_SowError:Value}
  (am_SowError:PySem.W.nsIn K mainGlobals "SowError"=some (some (.ref C_SowError))) (fm1_SowError:PySem.W.findIn K (.ref C_SowError) "called"=some (some (.ref fm_SowError))) (tm_SowError:PySem.W.typeIn K (.ref fm_SowError)=some (.type "function")) (lm_SowError:K.lookup fm_SowError=some ⟨ocm_SowError,odm_SowError,.func (PySem.W.fnOf "called" "SowError.called" (Zq JS) (Zo JS) (Ze JS) .none kVm_SowError dcm_SowError pmm_SowError anm_SowError cdm_SowError ctm_SowError),slm_SowError⟩) (cm_SowError:PySem.W.codeIn K cdm_SowError "SowError.called"=true) (km_SowError:PySem.W.keepIn K (.ref fm_SowError)=true)
  {C_BadBoard fm_BadBoard:Addr}{odm_BadBoard anm_BadBoard:Option Addr}{slm_BadBoard:Array (Option Value)}{ocm_BadBoard kVm_BadBoard dcm_BadBoard pmm_BadBoard cdm_BadBoard ctm_BadBoard:Value}
  (am_BadBoard:PySem.W.nsIn K mainGlobals "BadBoard"=some (some (.ref C_BadBoard))) (fm1_BadBoard:PySem.W.findIn K (.ref C_BadBoard) "called"=some (some (.ref fm_BadBoard))) (tm_BadBoard:PySem.W.typeIn K (.ref fm_BadBoard)=some (.type "function")) (lm_BadBoard:K.lookup fm_BadBoard=some ⟨ocm_BadBoard,odm_BadBoard,.func (PySem.W.fnOf "called" "BadBoard.called" (Zq JU) (Zo JU) (Ze JU) .none kVm_BadBoard dcm_BadBoard pmm_BadBoard anm_BadBoard cdm_BadBoard ctm_BadBoard),slm_BadBoard⟩) (cm_BadBoard:PySem.W.codeIn K cdm_BadBoard "BadBoard.called"=true) (km_BadBoard:PySem.W.keepIn K (.ref fm_BadBoard)=true)
  {C_BadPit fm_BadPit:Addr}{odm_BadPit anm_BadPit:Option Addr}{slm_BadPit:Array (Option Value)}{ocm_BadPit kVm_BadPit dcm_BadPit pmm_BadPit cdm_BadPit ctm_BadPit:Value}
  (am_BadPit:PySem.W.nsIn K mainGlobals "BadPit"=some (some (.ref C_BadPit))) (fm1_BadPit:PySem.W.findIn K (.ref C_BadPit) "called"=some (some (.ref fm_BadPit))) (tm_BadPit:PySem.W.typeIn K (.ref fm_BadPit)=some (.type "function")) (lm_BadPit:K.lookup fm_BadPit=some ⟨ocm_BadPit,odm_BadPit,.func (PySem.W.fnOf "called" "BadPit.called" (Zq QJ) (Zo QJ) (Ze QJ) .none kVm_BadPit dcm_BadPit pmm_BadPit anm_BadPit cdm_BadPit ctm_BadPit),slm_BadPit⟩) (cm_BadPit:PySem.W.codeIn K cdm_BadPit "BadPit.called"=true) (km_BadPit:PySem.W.keepIn K (.ref fm_BadPit)=true)
  {C_BadPits fm_BadPits:Addr}{odm_BadPits anm_BadPits:Option Addr}{slm_BadPits:Array (Option Value)}{ocm_BadPits kVm_BadPits dcm_BadPits pmm_BadPits cdm_BadPits ctm_BadPits:Value}
  (am_BadPits:PySem.W.nsIn K mainGlobals "BadPits"=some (some (.ref C_BadPits))) (fm1_BadPits:PySem.W.findIn K (.ref C_BadPits) "called"=some (some (.ref fm_BadPits))) (tm_BadPits:PySem.W.typeIn K (.ref fm_BadPits)=some (.type "function")) (lm_BadPits:K.lookup fm_BadPits=some ⟨ocm_BadPits,odm_BadPits,.func (PySem.W.fnOf "called" "BadPits.called" (Zq V3) (Zo V3) (Ze V3) .none kVm_BadPits dcm_BadPits pmm_BadPits anm_BadPits cdm_BadPits ctm_BadPits),slm_BadPits⟩) (cm_BadPits:PySem.W.codeIn K cdm_BadPits "BadPits.called"=true) (km_BadPits:PySem.W.keepIn K (.ref fm_BadPits)=true)
  {C_BadCount fm_BadCount:Addr}{odm_BadCount anm_BadCount:Option Addr}{slm_BadCount:Array (Option Value)}{ocm_BadCount kVm_BadCount dcm_BadCount pmm_BadCount cdm_BadCount ctm_BadCount:Value}
  (am_BadCount:PySem.W.nsIn K mainGlobals "BadCount"=some (some (.ref C_BadCount))) (fm1_BadCount:PySem.W.findIn K (.ref C_BadCount) "called"=some (some (.ref fm_BadCount))) (tm_BadCount:PySem.W.typeIn K (.ref fm_BadCount)=some (.type "function")) (lm_BadCount:K.lookup fm_BadCount=some ⟨ocm_BadCount,odm_BadCount,.func (PySem.W.fnOf "called" "BadCount.called" (Zq JT) (Zo JT) (Ze JT) .none kVm_BadCount dcm_BadCount pmm_BadCount anm_BadCount cdm_BadCount ctm_BadCount),slm_BadCount⟩) (cm_BadCount:PySem.W.codeIn K cdm_BadCount "BadCount.called"=true) (km_BadCount:PySem.W.keepIn K (.ref fm_BadCount)=true)
  {C_NoSeeds fm_NoSeeds:Addr}{odm_NoSeeds anm_NoSeeds:Option Addr}{slm_NoSeeds:Array (Option Value)}{ocm_NoSeeds kVm_NoSeeds dcm_NoSeeds pmm_NoSeeds cdm_NoSeeds ctm_NoSeeds:Value}
  (am_NoSeeds:PySem.W.nsIn K mainGlobals "NoSeeds"=some (some (.ref C_NoSeeds))) (fm1_NoSeeds:PySem.W.findIn K (.ref C_NoSeeds) "called"=some (some (.ref fm_NoSeeds))) (tm_NoSeeds:PySem.W.typeIn K (.ref fm_NoSeeds)=some (.type "function")) (lm_NoSeeds:K.lookup fm_NoSeeds=some ⟨ocm_NoSeeds,odm_NoSeeds,.func (PySem.W.fnOf "called" "NoSeeds.called" (Zq Vz) (Zo Vz) (Ze Vz) .none kVm_NoSeeds dcm_NoSeeds pmm_NoSeeds anm_NoSeeds cdm_NoSeeds ctm_NoSeeds),slm_NoSeeds⟩) (cm_NoSeeds:PySem.W.codeIn K cdm_NoSeeds "NoSeeds.called"=true) (km_NoSeeds:PySem.W.keepIn K (.ref fm_NoSeeds)=true)
  {C_BadPlan fm_BadPlan:Addr}{odm_BadPlan anm_BadPlan:Option Addr}{slm_BadPlan:Array (Option Value)}{ocm_BadPlan kVm_BadPlan dcm_BadPlan pmm_BadPlan cdm_BadPlan ctm_BadPlan:Value}
  (am_BadPlan:PySem.W.nsIn K mainGlobals "BadPlan"=some (some (.ref C_BadPlan))) (fm1_BadPlan:PySem.W.findIn K (.ref C_BadPlan) "called"=some (some (.ref fm_BadPlan))) (tm_BadPlan:PySem.W.typeIn K (.ref fm_BadPlan)=some (.type "function")) (lm_BadPlan:K.lookup fm_BadPlan=some ⟨ocm_BadPlan,odm_BadPlan,.func (PySem.W.fnOf "called" "BadPlan.called" (Zq V2) (Zo V2) (Ze V2) .none kVm_BadPlan dcm_BadPlan pmm_BadPlan anm_BadPlan cdm_BadPlan ctm_BadPlan),slm_BadPlan⟩) (cm_BadPlan:PySem.W.codeIn K cdm_BadPlan "BadPlan.called"=true) (km_BadPlan:PySem.W.keepIn K (.ref fm_BadPlan)=true)
  {C_Unlike fm_Unlike:Addr}{odm_Unlike anm_Unlike:Option Addr}{slm_Unlike:Array (Option Value)}{ocm_Unlike kVm_Unlike dcm_Unlike pmm_Unlike cdm_Unlike ctm_Unlike:Value}
  (am_Unlike:PySem.W.nsIn K mainGlobals "Unlike"=some (some (.ref C_Unlike))) (fm1_Unlike:PySem.W.findIn K (.ref C_Unlike) "called"=some (some (.ref fm_Unlike))) (tm_Unlike:PySem.W.typeIn K (.ref fm_Unlike)=some (.type "function")) (lm_Unlike:K.lookup fm_Unlike=some ⟨ocm_Unlike,odm_Unlike,.func (PySem.W.fnOf "called" "Unlike.called" (Zq QG) (Zo QG) (Ze QG) .none kVm_Unlike dcm_Unlike pmm_Unlike anm_Unlike cdm_Unlike ctm_Unlike),slm_Unlike⟩) (cm_Unlike:PySem.W.codeIn K cdm_Unlike "Unlike.called"=true) (km_Unlike:PySem.W.keepIn K (.ref fm_Unlike)=true)
  {C_TooLong fm_TooLong:Addr}{odm_TooLong anm_TooLong:Option Addr}{slm_TooLong:Array (Option Value)}{ocm_TooLong kVm_TooLong dcm_TooLong pmm_TooLong cdm_TooLong ctm_TooLong:Value}
  (am_TooLong:PySem.W.nsIn K mainGlobals "TooLong"=some (some (.ref C_TooLong))) (fm1_TooLong:PySem.W.findIn K (.ref C_TooLong) "called"=some (some (.ref fm_TooLong))) (tm_TooLong:PySem.W.typeIn K (.ref fm_TooLong)=some (.type "function")) (lm_TooLong:K.lookup fm_TooLong=some ⟨ocm_TooLong,odm_TooLong,.func (PySem.W.fnOf "called" "TooLong.called" (Zq Vy) (Zo Vy) (Ze Vy) .none kVm_TooLong dcm_TooLong pmm_TooLong anm_TooLong cdm_TooLong ctm_TooLong),slm_TooLong⟩) (cm_TooLong:PySem.W.codeIn K cdm_TooLong "TooLong.called"=true) (km_TooLong:PySem.W.keepIn K (.ref fm_TooLong)=true)
  {C_TooMany fm_TooMany:Addr}{odm_TooMany anm_TooMany:Option Addr}{slm_TooMany:Array (Option Value)}{ocm_TooMany kVm_TooMany dcm_TooMany pmm_TooMany cdm_TooMany ctm_TooMany:Value}
  (am_TooMany:PySem.W.nsIn K mainGlobals "TooMany"=some (some (.ref C_TooMany))) (fm1_TooMany:PySem.W.findIn K (.ref C_TooMany) "called"=some (some (.ref fm_TooMany))) (tm_TooMany:PySem.W.typeIn K (.ref fm_TooMany)=some (.type "function")) (lm_TooMany:K.lookup fm_TooMany=some ⟨ocm_TooMany,odm_TooMany,.func (PySem.W.fnOf "called" "TooMany.called" (Zq Vx) (Zo Vx) (Ze Vx) .none kVm_TooMany dcm_TooMany pmm_TooMany anm_TooMany cdm_TooMany ctm_TooMany),slm_TooMany⟩) (cm_TooMany:PySem.W.codeIn K cdm_TooMany "TooMany.called"=true) (km_TooMany:PySem.W.keepIn K (.ref fm_TooMany)=true)
  {C_BadLine fm_BadLine:Addr}{odm_BadLine anm_BadLine:Option Addr}{slm_BadLine:Array (Option Value)}{ocm_BadLine kVm_BadLine dcm_BadLine pmm_BadLine cdm_BadLine ctm_BadLine:Value}
  (am_BadLine:PySem.W.nsIn K mainGlobals "BadLine"=some (some (.ref C_BadLine))) (fm1_BadLine:PySem.W.findIn K (.ref C_BadLine) "called"=some (some (.ref fm_BadLine))) (tm_BadLine:PySem.W.typeIn K (.ref fm_BadLine)=some (.type "function")) (lm_BadLine:K.lookup fm_BadLine=some ⟨ocm_BadLine,odm_BadLine,.func (PySem.W.fnOf "called" "BadLine.called" (Zq V4) (Zo V4) (Ze V4) .none kVm_BadLine dcm_BadLine pmm_BadLine anm_BadLine cdm_BadLine ctm_BadLine),slm_BadLine⟩) (cm_BadLine:PySem.W.codeIn K cdm_BadLine "BadLine.called"=true) (km_BadLine:PySem.W.keepIn K (.ref fm_BadLine)=true)
  {C_BadRow fm_BadRow:Addr}{odm_BadRow anm_BadRow:Option Addr}{slm_BadRow:Array (Option Value)}{ocm_BadRow kVm_BadRow dcm_BadRow pmm_BadRow cdm_BadRow ctm_BadRow:Value}
  (am_BadRow:PySem.W.nsIn K mainGlobals "BadRow"=some (some (.ref C_BadRow))) (fm1_BadRow:PySem.W.findIn K (.ref C_BadRow) "called"=some (some (.ref fm_BadRow))) (tm_BadRow:PySem.W.typeIn K (.ref fm_BadRow)=some (.type "function")) (lm_BadRow:K.lookup fm_BadRow=some ⟨ocm_BadRow,odm_BadRow,.func (PySem.W.fnOf "called" "BadRow.called" (Zq QI) (Zo QI) (Ze QI) .none kVm_BadRow dcm_BadRow pmm_BadRow anm_BadRow cdm_BadRow ctm_BadRow),slm_BadRow⟩) (cm_BadRow:PySem.W.codeIn K cdm_BadRow "BadRow.called"=true) (km_BadRow:PySem.W.keepIn K (.ref fm_BadRow)=true)
  {C_BadYard fm_BadYard:Addr}{odm_BadYard anm_BadYard:Option Addr}{slm_BadYard:Array (Option Value)}{ocm_BadYard kVm_BadYard dcm_BadYard pmm_BadYard cdm_BadYard ctm_BadYard:Value}
  (am_BadYard:PySem.W.nsIn K mainGlobals "BadYard"=some (some (.ref C_BadYard))) (fm1_BadYard:PySem.W.findIn K (.ref C_BadYard) "called"=some (some (.ref fm_BadYard))) (tm_BadYard:PySem.W.typeIn K (.ref fm_BadYard)=some (.type "function")) (lm_BadYard:K.lookup fm_BadYard=some ⟨ocm_BadYard,odm_BadYard,.func (PySem.W.fnOf "called" "BadYard.called" (Zq V0) (Zo V0) (Ze V0) .none kVm_BadYard dcm_BadYard pmm_BadYard anm_BadYard cdm_BadYard ctm_BadYard),slm_BadYard⟩) (cm_BadYard:PySem.W.codeIn K cdm_BadYard "BadYard.called"=true) (km_BadYard:PySem.W.keepIn K (.ref fm_BadYard)=true)
  {C_NoDeed fm_NoDeed:Addr}{odm_NoDeed anm_NoDeed:Option Addr}{slm_NoDeed:Array (Option Value)}{ocm_NoDeed kVm_NoDeed dcm_NoDeed pmm_NoDeed cdm_NoDeed ctm_NoDeed:Value}
  (am_NoDeed:PySem.W.nsIn K mainGlobals "NoDeed"=some (some (.ref C_NoDeed))) (fm1_NoDeed:PySem.W.findIn K (.ref C_NoDeed) "called"=some (some (.ref fm_NoDeed))) (tm_NoDeed:PySem.W.typeIn K (.ref fm_NoDeed)=some (.type "function")) (lm_NoDeed:K.lookup fm_NoDeed=some ⟨ocm_NoDeed,odm_NoDeed,.func (PySem.W.fnOf "called" "NoDeed.called" (Zq QH) (Zo QH) (Ze QH) .none kVm_NoDeed dcm_NoDeed pmm_NoDeed anm_NoDeed cdm_NoDeed ctm_NoDeed),slm_NoDeed⟩) (cm_NoDeed:PySem.W.codeIn K cdm_NoDeed "NoDeed.called"=true) (km_NoDeed:PySem.W.keepIn K (.ref fm_NoDeed)=true)
  {C_BadText fm_BadText:Addr}{odm_BadText anm_BadText:Option Addr}{slm_BadText:Array (Option Value)}{ocm_BadText kVm_BadText dcm_BadText pmm_BadText cdm_BadText ctm_BadText:Value}
  (am_BadText:PySem.W.nsIn K mainGlobals "BadText"=some (some (.ref C_BadText))) (fm1_BadText:PySem.W.findIn K (.ref C_BadText) "called"=some (some (.ref fm_BadText))) (tm_BadText:PySem.W.typeIn K (.ref fm_BadText)=some (.type "function")) (lm_BadText:K.lookup fm_BadText=some ⟨ocm_BadText,odm_BadText,.func (PySem.W.fnOf "called" "BadText.called" (Zq V1) (Zo V1) (Ze V1) .none kVm_BadText dcm_BadText pmm_BadText anm_BadText cdm_BadText ctm_BadText),slm_BadText⟩) (cm_BadText:PySem.W.codeIn K cdm_BadText "BadText.called"=true) (km_BadText:PySem.W.keepIn K (.ref fm_BadText)=true)
  {CI_BadPlan fi_BadPlan S_BadPlan:Addr}{odi_BadPlan ani_BadPlan:Option Addr}{sli_BadPlan:Array (Option Value)}{oci_BadPlan kVi_BadPlan dci_BadPlan pmi_BadPlan cdi_BadPlan cti_BadPlan:Value}
  (ai_BadPlan:PySem.W.nsIn K mainGlobals "BadPlan"=some (some (.ref CI_BadPlan))) (nsi_BadPlan:PySem.W.findIn K (.ref CI_BadPlan) "__init__"=some (some (.ref fi_BadPlan))) (ki_BadPlan:PySem.W.keepIn K (.ref CI_BadPlan)=true) (ti_BadPlan:PySem.W.typeIn K (.ref fi_BadPlan)=some (.type "function")) (li_BadPlan:K.lookup fi_BadPlan=some ⟨oci_BadPlan,odi_BadPlan,.func (PySem.W.fnOf "__init__" "BadPlan.__init__" (Zq V5) (Zo V5) (Ze V5) .none kVi_BadPlan dci_BadPlan pmi_BadPlan ani_BadPlan cdi_BadPlan cti_BadPlan),sli_BadPlan⟩) (ci_BadPlan:PySem.W.codeIn K cdi_BadPlan "BadPlan.__init__"=true) (kf_BadPlan:PySem.W.keepIn K (.ref fi_BadPlan)=true)
  (as_BadPlan:PySem.W.nsIn K mainGlobals "SowError"=some (some (.ref S_BadPlan))) (xi_BadPlan:ZjD K "BadPlan" "SowError"=true)
  {C_RingBook_undo fm_RingBook_undo:Addr}{odm_RingBook_undo anm_RingBook_undo:Option Addr}{slm_RingBook_undo:Array (Option Value)}{ocm_RingBook_undo kVm_RingBook_undo dcm_RingBook_undo pmm_RingBook_undo cdm_RingBook_undo ctm_RingBook_undo:Value}
  (am_RingBook_undo:PySem.W.nsIn K mainGlobals "RingBook"=some (some (.ref C_RingBook_undo))) (fm1_RingBook_undo:PySem.W.findIn K (.ref C_RingBook_undo) "undo"=some (some (.ref fm_RingBook_undo))) (tm_RingBook_undo:PySem.W.typeIn K (.ref fm_RingBook_undo)=some (.type "function")) (lm_RingBook_undo:K.lookup fm_RingBook_undo=some ⟨ocm_RingBook_undo,odm_RingBook_undo,.func (PySem.W.fnOf "undo" "RingBook.undo" (Zq Zrl) (Zo Zrl) (Ze Zrl) .none kVm_RingBook_undo dcm_RingBook_undo pmm_RingBook_undo anm_RingBook_undo cdm_RingBook_undo ctm_RingBook_undo),slm_RingBook_undo⟩) (cm_RingBook_undo:PySem.W.codeIn K cdm_RingBook_undo "RingBook.undo"=true) (km_RingBook_undo:PySem.W.keepIn K (.ref fm_RingBook_undo)=true)
  {C_RingBook___init__ fm_RingBook___init__:Addr}{odm_RingBook___init__ anm_RingBook___init__:Option Addr}{slm_RingBook___init__:Array (Option Value)}{ocm_RingBook___init__ kVm_RingBook___init__ dcm_RingBook___init__ pmm_RingBook___init__ cdm_RingBook___init__ ctm_RingBook___init__:Value}
  (am_RingBook___init__:PySem.W.nsIn K mainGlobals "RingBook"=some (some (.ref C_RingBook___init__))) (fm1_RingBook___init__:PySem.W.findIn K (.ref C_RingBook___init__) "__init__"=some (some (.ref fm_RingBook___init__))) (tm_RingBook___init__:PySem.W.typeIn K (.ref fm_RingBook___init__)=some (.type "function")) (lm_RingBook___init__:K.lookup fm_RingBook___init__=some ⟨ocm_RingBook___init__,odm_RingBook___init__,.func (PySem.W.fnOf "__init__" "RingBook.__init__" (Zq Zrd) (Zo Zrd) (Ze Zrd) .none kVm_RingBook___init__ dcm_RingBook___init__ pmm_RingBook___init__ anm_RingBook___init__ cdm_RingBook___init__ ctm_RingBook___init__),slm_RingBook___init__⟩) (cm_RingBook___init__:PySem.W.codeIn K cdm_RingBook___init__ "RingBook.__init__"=true) (km_RingBook___init__:PySem.W.keepIn K (.ref fm_RingBook___init__)=true)
  (o_RingBook:Zdz K "RingBook" JX=true)
  :Txt K mg:=by
 refine⟨?_, ?_, ?_, ?_, ?_, ?_, ?_, ?_, ?_, ?_, ?_, ?_, ?_, ?_, ?_, ?_, ?_, ?_, ?_, ?_, ?_, ?_, ?_, ?_, ?_, ?_, ?_, ?_, ?_, ?_, ?_, ?_, ?_, ?_, ?_, ?_, ?_, ?_, ?_, ?_, ?_, ?_, ?_, ?_, ?_, ?_, ?_, ?_, ?_, ?_, ?_, ?_, ?_, ?_, ?_, ?_, ?_, ?_, ?_, ?_, ?_, ?_, ?_, ?_, ?_, ?_, ?_, ?_, ?_, ?_, ?_,x_tab,x_exc,x_at,fun n C e=>PySem.W.mg_of X G e,⟨_,_,_,am_SowError,fm1_SowError,tm_SowError,Zy (st:=JS) lm_SowError cm_SowError km_SowError⟩,⟨_,_,_,am_BadBoard,fm1_BadBoard,tm_BadBoard,Zy (st:=JU) lm_BadBoard cm_BadBoard km_BadBoard⟩,⟨_,_,_,am_BadPit,fm1_BadPit,tm_BadPit,Zy (st:=QJ) lm_BadPit cm_BadPit km_BadPit⟩,⟨_,_,_,am_BadPits,fm1_BadPits,tm_BadPits,Zy (st:=V3) lm_BadPits cm_BadPits km_BadPits⟩,⟨_,_,_,am_BadCount,fm1_BadCount,tm_BadCount,Zy (st:=JT) lm_BadCount cm_BadCount km_BadCount⟩,⟨_,_,_,am_NoSeeds,fm1_NoSeeds,tm_NoSeeds,Zy (st:=Vz) lm_NoSeeds cm_NoSeeds km_NoSeeds⟩,⟨_,_,_,am_BadPlan,fm1_BadPlan,tm_BadPlan,Zy (st:=V2) lm_BadPlan cm_BadPlan km_BadPlan⟩,⟨_,_,_,am_Unlike,fm1_Unlike,tm_Unlike,Zy (st:=QG) lm_Unlike cm_Unlike km_Unlike⟩,⟨_,_,_,am_TooLong,fm1_TooLong,tm_TooLong,Zy (st:=Vy) lm_TooLong cm_TooLong km_TooLong⟩,⟨_,_,_,am_TooMany,fm1_TooMany,tm_TooMany,Zy (st:=Vx) lm_TooMany cm_TooMany km_TooMany⟩,⟨_,_,_,am_BadLine,fm1_BadLine,tm_BadLine,Zy (st:=V4) lm_BadLine cm_BadLine km_BadLine⟩,⟨_,_,_,am_BadRow,fm1_BadRow,tm_BadRow,Zy (st:=QI) lm_BadRow cm_BadRow km_BadRow⟩,⟨_,_,_,am_BadYard,fm1_BadYard,tm_BadYard,Zy (st:=V0) lm_BadYard cm_BadYard km_BadYard⟩,⟨_,_,_,am_NoDeed,fm1_NoDeed,tm_NoDeed,Zy (st:=QH) lm_NoDeed cm_NoDeed km_NoDeed⟩,⟨_,_,_,am_BadText,fm1_BadText,tm_BadText,Zy (st:=V1) lm_BadText cm_BadText km_BadText⟩,Zku ai_BadPlan nsi_BadPlan ki_BadPlan ti_BadPlan (Zy (st:=V5) li_BadPlan ci_BadPlan kf_BadPlan) as_BadPlan xi_BadPlan,⟨_,_,_,am_RingBook_undo,fm1_RingBook_undo,tm_RingBook_undo,Zy (st:=Zrl) lm_RingBook_undo cm_RingBook_undo km_RingBook_undo⟩,⟨_,_,_,am_RingBook___init__,fm1_RingBook___init__,tm_RingBook___init__,Zy (st:=Zrd) lm_RingBook___init__ cm_RingBook___init__ km_RingBook___init__⟩,o_RingBook⟩
 ·exact⟨_,_,Zy (st:=ZsT) Zwx Zu4 Zw2,PySem.W.mg_of X G ZwJ⟩
 ·exact⟨_,_,Zy (st:=Zrz) ZtO ZrN ZtR,PySem.W.mg_of X G Zua⟩
 ·exact⟨_,_,Zy (st:=Zre) ZsB Zrf ZsC,PySem.W.mg_of X G ZsG⟩
 ·exact⟨_,_,Zy (st:=Zsm) Zvu ZsX Zv1,PySem.W.mg_of X G ZvI⟩
 ·exact⟨_,_,Zy (st:=ZsU) Zwy Zu5 Zw3,PySem.W.mg_of X G ZwK⟩
 ·exact⟨_,_,Zy (st:=ZrV) ZuD Zrs ZuN,PySem.W.mg_of X G Zvi⟩
 ·exact⟨_,_,Zy (st:=ZrW) ZuE Ztb ZuO,PySem.W.mg_of X G Zvj⟩
 ·exact⟨_,_,Zy (st:=Zrn) Ztk Zsk Ztl,PySem.W.mg_of X G Zto⟩
 ·exact⟨_,_,Zy (st:=Ztr) Zxj Ztx Zxo,PySem.W.mg_of X G ZxG⟩
 ·exact⟨_,_,Zy (st:=Zuc) Zy0 Zwo Zy3,PySem.W.mg_of X G ZyU⟩
 ·exact⟨_,_,Zy (st:=Zue) Zy2 Zve Zy5,PySem.W.mg_of X G ZyW⟩
 ·exact⟨_,_,Zy (st:=Zs9) ZvW Ztn ZvZ,PySem.W.mg_of X G Zwh⟩
 ·exact⟨_,_,Zy (st:=Zrt) Zt5 ZrR Zt8,PySem.W.mg_of X G ZtG⟩
 ·exact⟨_,_,Zy (st:=ZwO) Z0c Zzp Z0d,PySem.W.mg_of X G Z0n⟩
 ·exact⟨_,_,Zy (st:=Zs7) ZvU ZtX ZvX,PySem.W.mg_of X G Zwf⟩
 ·exact⟨_,_,Zy (st:=ZrA) Zuj ZsM Zuo,PySem.W.mg_of X G Zuy⟩
 ·exact⟨_,_,Zy (st:=Zso) Zvw Zt0 Zv3,PySem.W.mg_of X G ZvK⟩
 ·exact⟨_,_,Zy (st:=Ztv) Zxn ZvG Zxs,PySem.W.mg_of X G ZxK⟩
 ·exact⟨_,_,Zy (st:=Ztt) Zxl ZvF Zxq,PySem.W.mg_of X G ZxI⟩
 ·exact⟨_,_,Zy (st:=ZrU) ZuC Zsy ZuM,PySem.W.mg_of X G Zvh⟩
 ·exact⟨_,_,Zy (st:=ZrS) ZuA ZsZ ZuK,PySem.W.mg_of X G Zvf⟩
 ·exact⟨_,_,Zy (st:=ZrY) ZuG Ztc ZuQ,PySem.W.mg_of X G Zvl⟩
 ·exact⟨_,_,Zy (st:=ZrX) ZuF Zsz ZuP,PySem.W.mg_of X G Zvk⟩
 ·exact⟨_,_,Zy (st:=Zr8) Zuh ZsL Zum,PySem.W.mg_of X G Zuw⟩
 ·exact⟨_,_,Zy (st:=Ztu) Zxm Zu7 Zxr,PySem.W.mg_of X G ZxJ⟩
 ·exact⟨_,_,Zy (st:=Zud) Zy1 Zwp Zy4,PySem.W.mg_of X G ZyV⟩
 ·exact⟨_,_,Zy (st:=Zrv) Zt7 Zs2 ZtA,PySem.W.mg_of X G ZtI⟩
 ·exact⟨_,_,Zy (st:=Zs8) ZvV ZtY ZvY,PySem.W.mg_of X G Zwg⟩
 ·exact⟨_,_,Zy (st:=Zsl) Zvt Zty Zv0,PySem.W.mg_of X G ZvH⟩
 ·exact⟨_,_,Zy (st:=ZrT) ZuB Zta ZuL,PySem.W.mg_of X G Zvg⟩
 ·exact⟨_,_,Zy (st:=Zr9) Zui Zs6 Zun,PySem.W.mg_of X G Zux⟩
 ·exact⟨_,_,Zy (st:=ZsS) Zww Zu3 Zw1,PySem.W.mg_of X G ZwI⟩
 ·exact⟨_,_,Zy (st:=ZsV) Zwz Zu6 Zw4,PySem.W.mg_of X G ZwL⟩
 ·exact⟨_,_,Zy (st:=Zsp) Zvx Zt1 Zv4,PySem.W.mg_of X G ZvL⟩
 ·exact⟨_,_,Zy (st:=Zts) Zxk ZvE Zxp,PySem.W.mg_of X G ZxH⟩
 ·exact⟨_,_,Zy (st:=Zr0) ZtP ZsF ZtS,PySem.W.mg_of X G Zub⟩
 ·exact⟨_,_,Zy (st:=ZrZ) ZuH Ztd ZuR,PySem.W.mg_of X G Zvm⟩
 ·exact⟨_,_,Zy (st:=ZsR) Zwv ZwD Zw0,PySem.W.mg_of X G ZwH⟩
 ·exact⟨_,_,Zy (st:=ZrC) Zul ZsO Zuq,PySem.W.mg_of X G Zu0⟩
 ·exact⟨_,_,Zy (st:=Zry) ZtN ZsE ZtQ,PySem.W.mg_of X G ZtZ⟩
 ·exact⟨_,_,Zy (st:=Zsn) Zvv Ztz Zv2,PySem.W.mg_of X G ZvJ⟩
 ·exact⟨_,_,Zy (st:=ZrB) Zuk ZsN Zup,PySem.W.mg_of X G Zuz⟩
 ·exact⟨_,_,Zy (st:=Zru) Zt6 Zs1 Zt9,PySem.W.mg_of X G ZtH⟩
 ·exact⟨_,_,Zy (st:=Zsb) ZuJ Ztf ZuT,PySem.W.mg_of X G Zvo⟩
 ·exact⟨_,_,Zy (st:=Zsa) ZuI Zte ZuS,PySem.W.mg_of X G Zvn⟩
 ·exact⟨_,_,Zy (st:=Zsr) Zvz Zt2 Zv6,PySem.W.mg_of X G ZvN⟩
 ·exact⟨_,_,Zy (st:=Zsq) Zvy ZsY Zv5,PySem.W.mg_of X G ZvM⟩
 ·exact⟨_,_,Zy (st:=Zzg) Z0y Z02 Z0z,PySem.W.mg_of X G Z04⟩
 ·exact⟨_,PySem.W.mg_of X G a_FEWEST_PITS⟩
 ·exact⟨_,PySem.W.mg_of X G a_FIGURES⟩
 ·exact⟨_,PySem.W.mg_of X G a_LONGEST⟩
 ·exact⟨_,PySem.W.mg_of X G a_MOST_GATHERED⟩
 ·exact⟨_,PySem.W.mg_of X G a_MOST_LINE_PITS⟩
 ·exact⟨_,PySem.W.mg_of X G a_MOST_LINE_SEEDS⟩
 ·exact⟨_,PySem.W.mg_of X G a_MOST_PITS⟩
 ·exact⟨_,PySem.W.mg_of X G a_MOST_ROW_SEEDS⟩
 ·exact⟨_,PySem.W.mg_of X G a_MOST_YARD_PITS⟩
 ·exact⟨_,PySem.W.mg_of X G a_MOST_YARD_SEEDS⟩
 ·exact PySem.W.mg_none_of X G z_ValueError
 ·exact PySem.W.mg_none_of X G z_all
 ·exact PySem.W.mg_none_of X G z_bool
 ·exact PySem.W.mg_none_of X G z_enumerate
 ·exact PySem.W.mg_none_of X G z_int
 ·exact PySem.W.mg_none_of X G z_isinstance
 ·exact PySem.W.mg_none_of X G z_len
 ·exact PySem.W.mg_none_of X G z_list
 ·exact PySem.W.mg_none_of X G z_min
 ·exact PySem.W.mg_none_of X G z_range
 ·exact PySem.W.mg_none_of X G z_str
 ·exact PySem.W.mg_none_of X G z_sum
 ·exact PySem.W.mg_none_of X G z_tuple
end My
namespace PySem.W.Fast
noncomputable def tw11789857227833001984:=()
noncomputable def tw4775405361233709280:=()
noncomputable def tw13224365376857305344:=()
noncomputable def tw12348139400707992832:=()
noncomputable def tw3016069123739742528:=()
noncomputable def tw10875946618283998560:=()
noncomputable def tw14168718472016216416:=()
noncomputable def tw8131636506254923104:=()
noncomputable def tw10966838653349846496:=()
noncomputable def tw6139568952949744224:=()
noncomputable def tw14401111400787167840:=()
noncomputable def tw15272330791182503552:=()
noncomputable def tw10071362425902471968:=()
noncomputable def tw10798211109881573184:=()
noncomputable def tw9177378537232231296:=()
noncomputable def tw7574473147771234272:=()
noncomputable def tw8150697913206701024:=()
noncomputable def tw14198591524447766561:=()
noncomputable def tw8184504351363529761:=()
noncomputable def tw10038864535038462017:=()
noncomputable def tw13014417708124170305:=()
noncomputable def tw2608770700723650657:=()
noncomputable def tw7166295017877426305:=()
noncomputable def tw8707592681252212897:=()
noncomputable def tw10798478374759186721:=()
noncomputable def tw2020652056035873057:=()
noncomputable def tw13039782808319698241:=()
noncomputable def tw7635680040922136993:=()
noncomputable def tw13754889486119499233:=()
noncomputable def tw13414579661740106241:=()
noncomputable def tw6978555119000860193:=()
noncomputable def tw8006053928517026337:=()
noncomputable def tw9591115349451536961:=()
noncomputable def tw2913332186384944737:=()
noncomputable def tw11148978715289172609:=()
noncomputable def tw14530920255761240833:=()
noncomputable def tw7095553955440676673:=()
noncomputable def tw17714966934143200065:=()
noncomputable def tw12954234900649790305:=()
noncomputable def tw9492692619181178753:=()
noncomputable def tw8869596975891507234:=()
noncomputable def tw5831453134182930498:=()
noncomputable def tw1115663220627986498:=()
noncomputable def tw471661737672094946:=()
noncomputable def tw11936953492527931746:=()
noncomputable def tw5550138655231871426:=()
noncomputable def tw16775604656759410146:=()
noncomputable def tw14301218825841188322:=()
noncomputable def tw15307228192266233346:=()
noncomputable def tw15306014498035690018:=()
noncomputable def tw16542065198945998498:=()
noncomputable def tw5778994603840565954:=()
noncomputable def tw2779253024714138402:=()
noncomputable def tw15462635794865851266:=()
noncomputable def tw3096198356712083491:=()
noncomputable def tw15064254761922126083:=()
noncomputable def tw13376198276043729155:=()
noncomputable def tw6190299654155989251:=()
noncomputable def tw11163805180539278819:=()
noncomputable def tw5699189112867301859:=()
noncomputable def tw15467439468599588483:=()
noncomputable def tw6027668644349665923:=()
noncomputable def tw4553093768205232835:=()
noncomputable def tw3422542147495402211:=()
noncomputable def tw10392661315200010979:=()
noncomputable def tw2078682573532228323:=()
noncomputable def tw7797178223076972291:=()
noncomputable def tw16489784460910208835:=()
noncomputable def tw17362636149855895395:=()
noncomputable def tw6592921527702013859:=()
noncomputable def tw5593937492840213411:=()
noncomputable def tw16957900207804128420:=()
noncomputable def tw4264557308061810884:=()
noncomputable def tw13397676554862680324:=()
noncomputable def tw9967679244785065252:=()
noncomputable def tw1572870313859740964:=()
noncomputable def tw3551436460428531044:=()
noncomputable def tw18422030893278224740:=()
noncomputable def tw10059473648274168196:=()
noncomputable def tw13892603774726906308:=()
noncomputable def tw4820375743932831204:=()
noncomputable def tw14362452235245753924:=()
noncomputable def tw11799403687659608676:=()
noncomputable def tw14677819734513586788:=()
noncomputable def tw2909857546131316356:=()
noncomputable def tw10640475846294966948:=()
noncomputable def tw424046250804952740:=()
noncomputable def tw8584714089280221892:=()
noncomputable def tw17917453273000839972:=()
noncomputable def tw3146352731813122852:=()
noncomputable def tw6550353489141261092:=()
noncomputable def tw13682530608005335908:=()
noncomputable def tw2470085275455771588:=()
noncomputable def tw16368205346014655460:=()
noncomputable def tw3199982179137173509:=()
noncomputable def tw10087779555307875365:=()
noncomputable def tw1472463929564600357:=()
noncomputable def tw3348020314911565861:=()
noncomputable def tw10627375901912468549:=()
noncomputable def tw5403897429762986053:=()
noncomputable def tw17540116354963582053:=()
noncomputable def tw7328228211977778277:=()
noncomputable def tw9785477354086468741:=()
noncomputable def tw6671288164820245637:=()
noncomputable def tw18139142236660179269:=()
noncomputable def tw13303670757812608389:=()
noncomputable def tw4158114121394641285:=()
noncomputable def tw10478859635822858661:=()
noncomputable def tw10608753221609684389:=()
noncomputable def tw17321958256153055685:=()
noncomputable def tw5056239003906025957:=()
noncomputable def tw4664273029681923589:=()
noncomputable def tw12418191270893324837:=()
noncomputable def tw16831625894011860549:=()
noncomputable def tw14049281958443093733:=()
noncomputable def tw4001026860367886117:=()
noncomputable def tw2584252813794773829:=()
noncomputable def tw6775040618721968997:=()
noncomputable def tw3559999294437715845:=()
noncomputable def tw10045373605185110949:=()
noncomputable def tw15704749051470185574:=()
noncomputable def tw4014033389267338374:=()
noncomputable def tw16778311099086209222:=()
noncomputable def tw2436278183166061766:=()
noncomputable def tw15546176850369820902:=()
noncomputable def tw4811694975179001094:=()
noncomputable def tw10370226436277624102:=()
noncomputable def tw13342348490335006054:=()
noncomputable def tw6344728204924638566:=()
noncomputable def tw11170543470748754278:=()
noncomputable def tw16193163225775304038:=()
noncomputable def tw2066815493734016422:=()
noncomputable def tw15637459506922860966:=()
noncomputable def tw3023274910423228934:=()
noncomputable def tw6576884027653125670:=()
noncomputable def tw7949653458160030470:=()
noncomputable def tw14772151184518840070:=()
noncomputable def tw16451179971835969382:=()
noncomputable def tw3043886377135923046:=()
noncomputable def tw13905620133464246150:=()
noncomputable def tw3527288395934093190:=()
noncomputable def tw4758265718708724614:=()
noncomputable def tw4698718761859000262:=()
noncomputable def tw11238582915803874278:=()
noncomputable def tw11873053521074508774:=()
noncomputable def tw11588161522661414886:=()
noncomputable def tw18316994790176587815:=()
noncomputable def tw9731750930699268167:=()
noncomputable def tw7900884221344768103:=()
noncomputable def tw3396733222324527207:=()
noncomputable def tw12447372273355912295:=()
noncomputable def tw4774288214545443015:=()
noncomputable def tw5293510904108246247:=()
noncomputable def tw2856276492148499687:=()
noncomputable def tw15418282706068468967:=()
noncomputable def tw4549565684190279911:=()
noncomputable def tw16671726508828365063:=()
noncomputable def tw17597884666375993639:=()
noncomputable def tw15496097144590818695:=()
noncomputable def tw12776595269442240935:=()
noncomputable def tw11269332712486823335:=()
noncomputable def tw17008637107910493639:=()
noncomputable def tw17680784251555607015:=()
noncomputable def tw8209495269977862663:=()
noncomputable def tw7324520311288656423:=()
noncomputable def tw1485733237827732039:=()
noncomputable def tw9115257593677215303:=()
noncomputable def tw7978982752666903143:=()
noncomputable def tw8009836017652229895:=()
noncomputable def tw16192325585648878471:=()
noncomputable def tw15653401603291809671:=()
noncomputable def tw16203298160973420423:=()
noncomputable def tw13270072852871742407:=()
noncomputable def tw17755463488550771655:=()
noncomputable def tw16160532243991344103:=()
noncomputable def tw5055856657853920264:=()
noncomputable def tw17112090606987940936:=()
noncomputable def tw16073436786218410056:=()
noncomputable def tw10499222036332596360:=()
noncomputable def tw15028093674667813000:=()
noncomputable def tw6508631021186976904:=()
noncomputable def tw8988979193287099560:=()
noncomputable def tw12134316605710773416:=()
noncomputable def tw3113073871860795592:=()
noncomputable def tw7571387959766658248:=()
noncomputable def tw10058094648735159528:=()
noncomputable def tw11805967050462141704:=()
noncomputable def tw9968843346116856072:=()
noncomputable def tw14244439331346821448:=()
noncomputable def tw7971583898881932616:=()
noncomputable def tw16312541984377548168:=()
noncomputable def tw16406032915145095656:=()
noncomputable def tw3317057855090042440:=()
noncomputable def tw13572406969180827208:=()
noncomputable def tw9728439609159839336:=()
noncomputable def tw13376620829920467624:=()
noncomputable def tw4036142497883795176:=()
noncomputable def tw17513271786031152872:=()
noncomputable def tw13357737121883539240:=()
noncomputable def tw17525045867442533160:=()
noncomputable def tw927040057271588712:=()
noncomputable def tw15611639019125083080:=()
noncomputable def tw18188594912240912360:=()
noncomputable def tw5901839205217719433:=()
noncomputable def tw549320474418347241:=()
noncomputable def tw12707107617109194985:=()
noncomputable def tw872310230792597801:=()
noncomputable def tw10913820019987038665:=()
noncomputable def tw2274658314385588713:=()
noncomputable def tw3720489560679676425:=()
noncomputable def tw2085415961683949065:=()
noncomputable def tw12806696905570319945:=()
noncomputable def tw16536915078895517417:=()
noncomputable def tw4706357136901591817:=()
noncomputable def tw15988501571140982633:=()
noncomputable def tw12905260213091592169:=()
noncomputable def tw10440930151295965194:=()
noncomputable def tw13723167716010466474:=()
noncomputable def tw18274894248127317226:=()
noncomputable def tw1926743316052481258:=()
noncomputable def tw13662251057118291210:=()
noncomputable def tw1168532412991502698:=()
noncomputable def tw8549218875577123210:=()
noncomputable def tw1898133594574034346:=()
noncomputable def tw10265822932146925994:=()
noncomputable def tw8370317294614354410:=()
noncomputable def tw9249097925538196042:=()
noncomputable def tw10048391978519084650:=()
noncomputable def tw14597893816107268746:=()
noncomputable def tw1737126367055744682:=()
noncomputable def tw9754155940762593962:=()
noncomputable def tw15360727461683839690:=()
noncomputable def tw13011411946610281194:=()
noncomputable def tw1374161116383567626:=()
noncomputable def tw7983934878745526058:=()
noncomputable def tw15689947076072189930:=()
noncomputable def tw17771077906739090443:=()
noncomputable def tw5531436698987420683:=()
noncomputable def tw4055576078957532203:=()
noncomputable def tw494773505590540363:=()
noncomputable def tw8679129179906562155:=()
noncomputable def tw16241717639663639659:=()
noncomputable def tw9322292939005083787:=()
noncomputable def tw16906505586096278731:=()
noncomputable def tw17091650921096588491:=()
noncomputable def tw7688445878156157195:=()
noncomputable def tw424478539923949867:=()
noncomputable def tw11759645232018549099:=()
noncomputable def tw15186668321950738827:=()
noncomputable def tw3323370997468271083:=()
noncomputable def tw1836843056660131435:=()
noncomputable def tw684327772612114027:=()
noncomputable def tw12782675916950709899:=()
noncomputable def tw14596842156812247723:=()
noncomputable def tw17945489702411236075:=()
noncomputable def tw14740953807879650059:=()
noncomputable def tw7458393152394320683:=()
noncomputable def tw14022996576357742604:=()
noncomputable def tw5511087558564255820:=()
noncomputable def tw6873587645760283724:=()
noncomputable def tw8999130707448581260:=()
noncomputable def tw8598744724393566380:=()
noncomputable def tw103001045766161580:=()
noncomputable def tw96071142570177836:=()
noncomputable def tw7115194323475829068:=()
noncomputable def tw10138785594760770892:=()
noncomputable def tw1895861265049357676:=()
noncomputable def tw607867686251199852:=()
noncomputable def tw13171946912736309644:=()
noncomputable def tw6274582970801464748:=()
noncomputable def tw1442865443659134476:=()
noncomputable def tw13006485819853134348:=()
noncomputable def tw12658199883031006796:=()
noncomputable def tw11717433068500765292:=()
noncomputable def tw4459816197379878540:=()
noncomputable def tw18143505355707090796:=()
noncomputable def tw2108627514134359085:=()
noncomputable def tw583018517311130765:=()
noncomputable def tw6654718793584080013:=()
noncomputable def tw10010171749333169325:=()
noncomputable def tw10013962729539661037:=()
noncomputable def tw4420957525155785005:=()
noncomputable def tw6174601313049498925:=()
noncomputable def tw8253028391585942893:=()
noncomputable def tw5618013037949236621:=()
noncomputable def tw3757552317190636013:=()
noncomputable def tw2871652314097099277:=()
noncomputable def tw10432670872891971085:=()
noncomputable def tw3453797289412591181:=()
noncomputable def tw16794298265992261261:=()
noncomputable def tw11705368739038618253:=()
noncomputable def tw6523077970942365357:=()
noncomputable def tw10207952256961726125:=()
noncomputable def tw3702532330554876589:=()
noncomputable def tw16202579425133317837:=()
noncomputable def tw671795794010143437:=()
noncomputable def tw12790468545991115501:=()
noncomputable def tw11956922778024467181:=()
noncomputable def tw16024068824122116941:=()
noncomputable def tw11456723692845090733:=()
noncomputable def tw12784252766580368333:=()
noncomputable def tw10930505466504044493:=()
noncomputable def tw8756536179232009230:=()
noncomputable def tw2608010832767085614:=()
noncomputable def tw1904084319471857710:=()
noncomputable def tw3159446613385426094:=()
noncomputable def tw17642093385852721358:=()
noncomputable def tw17826329147839286510:=()
noncomputable def tw12796262367560613166:=()
noncomputable def tw8613175320975555886:=()
noncomputable def tw6496623070591005006:=()
noncomputable def tw2085434866884581742:=()
noncomputable def tw9529642676570369518:=()
noncomputable def tw9292849630775313934:=()
noncomputable def tw12673506358175599182:=()
noncomputable def tw1387391427003093582:=()
noncomputable def tw260396908791384654:=()
noncomputable def tw3655805575555869262:=()
noncomputable def tw7616495495614829166:=()
noncomputable def tw16125189871871983374:=()
noncomputable def tw10504448283292284750:=()
noncomputable def tw17340031410222749582:=()
noncomputable def tw10903456989070487438:=()
noncomputable def tw6904964927283560334:=()
noncomputable def tw13820506116618179502:=()
noncomputable def tw6724256590212136910:=()
noncomputable def tw9921637913543734254:=()
noncomputable def tw12867952718615695:=()
noncomputable def tw17360468976204449935:=()
noncomputable def tw18379810117016424623:=()
noncomputable def tw16059856853942440143:=()
noncomputable def tw10718742354321583311:=()
noncomputable def tw1942647084038310127:=()
noncomputable def tw4741439246754772463:=()
noncomputable def tw12431858044418770479:=()
noncomputable def tw844208707818035855:=()
noncomputable def tw7524421935147002575:=()
noncomputable def tw10274950618464635631:=()
noncomputable def tw16877684203617122095:=()
noncomputable def tw7150764070932070191:=()
noncomputable def tw12970851668506866575:=()
noncomputable def tw15691858150592708495:=()
noncomputable def tw647208835984834511:=()
noncomputable def tw4544117678167798896:=()
noncomputable def tw12633113518640424112:=()
noncomputable def tw2052524263908681968:=()
noncomputable def tw10519993564606545200:=()
noncomputable def tw1917988519115723088:=()
noncomputable def tw5371725632112716176:=()
noncomputable def tw1465053275370875280:=()
noncomputable def tw6746190202378632624:=()
noncomputable def tw14212595916735444400:=()
noncomputable def tw16608718276161021424:=()
noncomputable def tw17892848793718054416:=()
noncomputable def tw4125936449812560400:=()
noncomputable def tw13699005021817195056:=()
noncomputable def tw11182719107676067376:=()
noncomputable def tw12843610940193931856:=()
noncomputable def tw17034828957884305040:=()
noncomputable def tw14337523908617392848:=()
noncomputable def tw2292769801129062128:=()
noncomputable def tw7978927924357102352:=()
noncomputable def tw14333488953511375696:=()
noncomputable def tw6831901013760238448:=()
noncomputable def tw11181133237298761584:=()
noncomputable def tw5158940355043494832:=()
noncomputable def tw15149828768155458480:=()
noncomputable def tw17190149488397907888:=()
noncomputable def tw6146909394123677648:=()
noncomputable def tw7426092382018130961:=()
noncomputable def tw17405434691236338737:=()
noncomputable def tw6234008831424870513:=()
noncomputable def tw12139053654665065681:=()
noncomputable def tw1278211006394363121:=()
noncomputable def tw6613689360674991409:=()
noncomputable def tw10223181339291401649:=()
noncomputable def tw3871870341792385489:=()
noncomputable def tw13547345942611529233:=()
noncomputable def tw5386212878974729841:=()
noncomputable def tw13114162190314640081:=()
noncomputable def tw18129683402649641681:=()
noncomputable def tw876535445837536977:=()
noncomputable def tw1425633203767159633:=()
noncomputable def tw7757337064409772881:=()
noncomputable def tw8506780394752296817:=()
noncomputable def tw11574960316625841041:=()
noncomputable def tw197757704294392817:=()
noncomputable def tw10980827900446922770:=()
noncomputable def tw4596750546120042514:=()
noncomputable def tw3325027202809660466:=()
noncomputable def tw16313602785291367474:=()
noncomputable def tw5897798322908659794:=()
noncomputable def tw16450360888984914034:=()
noncomputable def tw17338081690591998066:=()
noncomputable def tw11035045603188382898:=()
noncomputable def tw8074952273286324434:=()
noncomputable def tw7105136232556143954:=()
noncomputable def tw17021400004431770994:=()
noncomputable def tw16430287573408666994:=()
noncomputable def tw16211297350950659506:=()
noncomputable def tw11558765187021495730:=()
noncomputable def tw13874604117817435602:=()
noncomputable def tw7029210367138191826:=()
noncomputable def tw7690386039442573906:=()
noncomputable def tw10719182369176041042:=()
noncomputable def tw10887215592458562194:=()
noncomputable def tw772626135257028274:=()
noncomputable def tw7294559448684009138:=()
noncomputable def tw8633309951317263026:=()
noncomputable def tw14631260031294225106:=()
noncomputable def tw15546401088550519570:=()
noncomputable def tw754607571746830130:=()
noncomputable def tw4746735702558568242:=()
noncomputable def tw5652266409040037714:=()
noncomputable def tw12064081227946187602:=()
noncomputable def tw11063334550512163666:=()
noncomputable def tw6336877758636204946:=()
noncomputable def tw5400496842731401106:=()
noncomputable def tw5335740102841451410:=()
noncomputable def tw9341203011166783378:=()
noncomputable def tw14573131013333527474:=()
noncomputable def tw17280562808250052562:=()
noncomputable def tw16595507315724968914:=()
noncomputable def tw12279990544654788562:=()
noncomputable def tw5446558416872342514:=()
noncomputable def tw9212819729448067058:=()
noncomputable def tw17863344316991049779:=()
noncomputable def tw1606484908714299475:=()
noncomputable def tw13822774959734217875:=()
noncomputable def tw18158514673680546963:=()
noncomputable def tw13738011504431489331:=()
noncomputable def tw16935580127360858451:=()
noncomputable def tw1371752751973113299:=()
noncomputable def tw307630484656536083:=()
noncomputable def tw8709772637052831283:=()
noncomputable def tw10198771189852102259:=()
noncomputable def tw2763195858988895891:=()
noncomputable def tw16030338946585293459:=()
noncomputable def tw11289464237150512819:=()
noncomputable def tw11555527486482377395:=()
noncomputable def tw4061338560391572179:=()
noncomputable def tw17241565031009674003:=()
noncomputable def tw4976309795041482675:=()
noncomputable def tw14658407488064198611:=()
noncomputable def tw7833773008632523731:=()
noncomputable def tw3143605112471429107:=()
noncomputable def tw765266981829324820:=()
noncomputable def tw2081810942858685460:=()
noncomputable def tw10149789100340262036:=()
noncomputable def tw7895474661977903444:=()
noncomputable def tw634354826885579124:=()
noncomputable def tw4477237184243497396:=()
noncomputable def tw17519213987663174100:=()
noncomputable def tw2154239307331309172:=()
noncomputable def tw17955023349211418260:=()
noncomputable def tw170582312746587828:=()
noncomputable def tw15937182446723865364:=()
noncomputable def tw7997659636183940948:=()
noncomputable def tw13802033460965392212:=()
noncomputable def tw11960869648154945364:=()
noncomputable def tw17627209652009882484:=()
noncomputable def tw16276339399660408756:=()
noncomputable def tw16898418708989724596:=()
noncomputable def tw10256051421350501332:=()
noncomputable def tw10160430079995862996:=()
noncomputable def tw2236966926778146933:=()
noncomputable def tw7079809636593224853:=()
noncomputable def tw17214294514439093429:=()
noncomputable def tw16456000068598651093:=()
noncomputable def tw16492580900825939189:=()
noncomputable def tw16906644283188657397:=()
noncomputable def tw15632765608443291989:=()
noncomputable def tw2439514972552132949:=()
noncomputable def tw4717924307713622389:=()
noncomputable def tw941147027705999733:=()
noncomputable def tw17832107626461902197:=()
noncomputable def tw14036068419496166837:=()
noncomputable def tw7649794984737034709:=()
noncomputable def tw2506368851921132085:=()
noncomputable def tw69556085675801205:=()
noncomputable def tw665515089505074805:=()
noncomputable def tw16832193127827800725:=()
noncomputable def tw5705392802101923541:=()
noncomputable def tw10559842495472146133:=()
noncomputable def tw10574618909281565397:=()
noncomputable def tw6523980176547341237:=()
noncomputable def tw14581756790719199221:=()
noncomputable def tw6517228767355756533:=()
noncomputable def tw12051486627090426869:=()
noncomputable def tw14089036622642125878:=()
noncomputable def tw147493353954848822:=()
noncomputable def tw7601994433783384182:=()
noncomputable def tw5689509436092869750:=()
noncomputable def tw12078759412144884982:=()
noncomputable def tw13147002907380066582:=()
noncomputable def tw16691346595073436022:=()
noncomputable def tw6112875606859522582:=()
noncomputable def tw14756298717519513174:=()
noncomputable def tw16798579448290721398:=()
noncomputable def tw4455587096991059606:=()
noncomputable def tw6025723800705702582:=()
noncomputable def tw6655591280089208534:=()
noncomputable def tw2648052549747288822:=()
noncomputable def tw8496274582224488182:=()
noncomputable def tw8120168559493648182:=()
noncomputable def tw11275692965378143030:=()
noncomputable def tw6611917527320600599:=()
noncomputable def tw8666159761516990551:=()
noncomputable def tw4014475006531795063:=()
noncomputable def tw10475845176980228279:=()
noncomputable def tw1948409234395861207:=()
noncomputable def tw2799087378310240471:=()
noncomputable def tw14990175440866811095:=()
noncomputable def tw16538014251972584663:=()
noncomputable def tw18037585843678121271:=()
noncomputable def tw10668725825381227831:=()
noncomputable def tw959285563272198455:=()
noncomputable def tw17115038971407911255:=()
noncomputable def tw3122704992879409591:=()
noncomputable def tw17243516414107841079:=()
noncomputable def tw5091267967919867447:=()
noncomputable def tw4187883409243507319:=()
noncomputable def tw12128683204565605015:=()
noncomputable def tw9582838224816465559:=()
noncomputable def tw13026233268756080279:=()
noncomputable def tw18371673308246744823:=()
noncomputable def tw7779345529707102967:=()
noncomputable def tw18419342878084312887:=()
noncomputable def tw6445694569564605399:=()
noncomputable def tw16765648288437436375:=()
noncomputable def tw17701029913846975479:=()
noncomputable def tw17103918645915198488:=()
noncomputable def tw9062628804117568824:=()
noncomputable def tw7434528714347301208:=()
noncomputable def tw15985928023966268824:=()
noncomputable def tw12822268967674121656:=()
noncomputable def tw13507951959880760760:=()
noncomputable def tw6049049893625640408:=()
noncomputable def tw15242851748639859192:=()
noncomputable def tw12071421904443554424:=()
noncomputable def tw10670894441817555704:=()
noncomputable def tw17388772033063748376:=()
noncomputable def tw13309109127032376152:=()
noncomputable def tw10798878876479644504:=()
noncomputable def tw12275488293456245656:=()
noncomputable def tw12525752602565155768:=()
noncomputable def tw368188696343235705:=()
noncomputable def tw5259403599970079033:=()
noncomputable def tw13870459810042883417:=()
noncomputable def tw2575880217766725017:=()
noncomputable def tw18323321229360462233:=()
noncomputable def tw14995382230136516025:=()
noncomputable def tw6629807142792209881:=()
noncomputable def tw3725231895953278521:=()
noncomputable def tw4851636285571567161:=()
noncomputable def tw12404239431413357113:=()
noncomputable def tw17294460622714635865:=()
noncomputable def tw12108896997567803001:=()
noncomputable def tw14255270512628647545:=()
noncomputable def tw9790649266072469113:=()
noncomputable def tw8086021163141846681:=()
noncomputable def tw3003307635230962361:=()
noncomputable def tw6937671251287899865:=()
noncomputable def tw7533257938506732281:=()
noncomputable def tw7700600955693116249:=()
noncomputable def tw10598065968271403001:=()
noncomputable def tw17138820677240348698:=()
noncomputable def tw345241932881668218:=()
noncomputable def tw3770608536524234970:=()
noncomputable def tw8860929759652240634:=()
noncomputable def tw15363655613159861562:=()
noncomputable def tw11631448950139758970:=()
noncomputable def tw3953842538404597146:=()
noncomputable def tw7042299131421862330:=()
noncomputable def tw4041541994355817978:=()
noncomputable def tw9095566816938054234:=()
noncomputable def tw16896023386440881882:=()
noncomputable def tw10666135862731042522:=()
noncomputable def tw1025877462831269754:=()
noncomputable def tw4927123296287834010:=()
noncomputable def tw15750313511290945530:=()
noncomputable def tw15683473059296411642:=()
noncomputable def tw15355018231873932315:=()
noncomputable def tw16180761089618422843:=()
noncomputable def tw12282248507975280763:=()
noncomputable def tw7366497219048818811:=()
noncomputable def tw13853458554841080059:=()
noncomputable def tw13004336885728523547:=()
noncomputable def tw843101561634091355:=()
noncomputable def tw11835817082178679195:=()
noncomputable def tw2864236111925705179:=()
noncomputable def tw17645813801416537627:=()
noncomputable def tw11966462338430453275:=()
noncomputable def tw7467477278885399099:=()
noncomputable def tw5881073490715792955:=()
noncomputable def tw10662030674665287227:=()
noncomputable def tw1254751980458923643:=()
noncomputable def tw9670675511819932315:=()
noncomputable def tw11240012313629025979:=()
noncomputable def tw2823914336468593339:=()
noncomputable def tw10442049286710937307:=()
noncomputable def tw15870280329671774971:=()
noncomputable def tw7651853008949676827:=()
noncomputable def tw2251004658423455515:=()
noncomputable def tw398251653867726619:=()
noncomputable def tw4279151561864571675:=()
noncomputable def tw9208813534763436859:=()
noncomputable def tw12143482946376724283:=()
noncomputable def tw13216460350652274651:=()
noncomputable def tw4960067754067371036:=()
noncomputable def tw14159029125232955452:=()
noncomputable def tw5693235105685200956:=()
noncomputable def tw6432332861232085084:=()
noncomputable def tw15383362623201209500:=()
noncomputable def tw14689495460019907740:=()
noncomputable def tw7365230750795941084:=()
noncomputable def tw13287426498247760092:=()
noncomputable def tw17815747529272765756:=()
noncomputable def tw6448142819843514748:=()
noncomputable def tw17478386982338274684:=()
noncomputable def tw17422673572078045564:=()
noncomputable def tw182409345889422748:=()
noncomputable def tw8552737971922823612:=()
noncomputable def tw11212661286510815676:=()
noncomputable def tw16891009120834029148:=()
noncomputable def tw3011244102372133500:=()
noncomputable def tw8668138620012925628:=()
noncomputable def tw6819045426134445820:=()
noncomputable def tw8490272548097980156:=()
noncomputable def tw8060306139819274108:=()
noncomputable def tw15167438007048350620:=()
noncomputable def tw6987779240193802204:=()
noncomputable def tw2774489568959858684:=()
noncomputable def tw7928239504428908637:=()
noncomputable def tw5210656312706587901:=()
noncomputable def tw11002609509272820125:=()
noncomputable def tw17119718577921637789:=()
noncomputable def tw6759156942168402429:=()
noncomputable def tw4292231766459330141:=()
noncomputable def tw4898588095873497693:=()
noncomputable def tw13942980740389066333:=()
noncomputable def tw10239854612842537597:=()
noncomputable def tw7874786621669049149:=()
noncomputable def tw17457631410642856765:=()
noncomputable def tw12194741166427495261:=()
noncomputable def tw8029796255958875133:=()
noncomputable def tw1651586496146079806:=()
noncomputable def tw18349678647549695102:=()
noncomputable def tw17990644448840176766:=()
noncomputable def tw8176406330391440574:=()
noncomputable def tw16705653872725759230:=()
noncomputable def tw3012816013949460734:=()
noncomputable def tw13403847788101903646:=()
noncomputable def tw14784810604863796606:=()
noncomputable def tw8569670406165482910:=()
noncomputable def tw17804024996058423742:=()
noncomputable def tw2742142048731189726:=()
noncomputable def tw3709200432967780926:=()
noncomputable def tw12651845567164009246:=()
noncomputable def tw15620665573731162974:=()
noncomputable def tw11530031985495850878:=()
noncomputable def tw11985893509523726238:=()
noncomputable def tw9600857920220261374:=()
noncomputable def tw16100821613138249726:=()
noncomputable def tw6589105473853670495:=()
noncomputable def tw7701986892737550463:=()
noncomputable def tw2816610269750729855:=()
noncomputable def tw17371187117147055263:=()
noncomputable def tw14195255703450925279:=()
noncomputable def tw4882454701598165311:=()
noncomputable def tw18274938996344235359:=()
noncomputable def tw9684026101272435039:=()
noncomputable def tw6959729137578570207:=()
noncomputable def tw16838503718899977727:=()
noncomputable def tw6788636175844475487:=()
noncomputable def tw2677152655212503647:=()
noncomputable def tw17623339145018477247:=()
noncomputable def tw2687144116453222111:=()
noncomputable def tw4477863519735032607:=()
noncomputable def tw6412964852977414015:=()
noncomputable def tw13353263220027907967:=()
noncomputable def tw11860166295431658463:=()
noncomputable def tw15112584156666337647:=()
noncomputable def tw4465209059028055478:=()
noncomputable def tw12769992898960875591:=()
noncomputable def tw13687092909564610149:=()
noncomputable def tw18210345677519152866:=()
noncomputable def tw12446183538189993410:=()
noncomputable def tw8236544713589899879:=()
noncomputable def tw1456870115214720628:=()
noncomputable def tw8880285676415345848:=()
noncomputable def tw1129883516367264503:=()
noncomputable def tw12090989320590438078:=()
noncomputable def tw6670434401747257765:=()
noncomputable def tw12164231152956279199:=()
noncomputable def tw5901624290273454376:=()
noncomputable def tw16876125931123940178:=()
noncomputable def tw1994536987040635402:=()
noncomputable def tw4832717366129503794:=()
noncomputable def tw431272391477210309:=()
noncomputable def tw4986025972059043053:=()
noncomputable def tw1491804213855252272:=()
noncomputable def tw16956084045400897730:=()
noncomputable def tw2520858397718361722:=()
noncomputable def tw5804768584877503295:=()
noncomputable def tw3612488547038849880:=()
noncomputable def tw16729042039854766801:=()
end PySem.W.Fast
open PySem PySem.W PyProof.Rows
set_option maxRecDepth 100000 in
set_option maxHeartbeats 0 in
theorem PySem.Challenge.cw_sowring_k70_refusals_stand_alone_holds : PySem.Challenge.rw_sowring_k70_refusals_stand_alone.Holds := by
 w_on;o_law;k_head;(case hw=>w_witness2)
 k_fill
 refine L2.Zkz (l:=PySem.Challenge.rw_sowring_k70_refusals_stand_alone) (n:=63) (k:=12) (x := "script") (CX:=L2.CX0) (sp:=My.Zi8) rfl (by decide) rfl ⟨rfl,by decide,by decide⟩ (fun w h Y=>by first|exact PySem.W.kIn_of Y|exact PySem.W.km_in_of Y) ?F ?S ?C
 case F =>
  intro w mg fa h KX G hmg
  have T:My.Txt (L2.KOf KX) mg:=by
   dsimp only[L2.KOf]
   refine' My.ZnK KX G ?ZwJ ?Zwx ?Zu4 ?Zw2 ?Zua ?ZtO ?ZrN ?ZtR ?ZsG ?ZsB ?Zrf ?ZsC ?ZvI ?Zvu ?ZsX ?Zv1 ?ZwK ?Zwy ?Zu5 ?Zw3 ?Zvi ?ZuD ?Zrs ?ZuN ?Zvj ?ZuE ?Ztb ?ZuO ?Zto ?Ztk ?Zsk ?Ztl ?ZxG ?Zxj ?Ztx ?Zxo ?ZyU ?Zy0 ?Zwo ?Zy3 ?ZyW ?Zy2 ?Zve ?Zy5 ?Zwh ?ZvW ?Ztn ?ZvZ ?ZtG ?Zt5 ?ZrR ?Zt8 ?Z0n ?Z0c ?Zzp ?Z0d ?Zwf ?ZvU ?ZtX ?ZvX ?Zuy ?Zuj ?ZsM ?Zuo ?ZvK ?Zvw ?Zt0 ?Zv3 ?ZxK ?Zxn ?ZvG ?Zxs ?ZxI ?Zxl ?ZvF ?Zxq ?Zvh ?ZuC ?Zsy ?ZuM ?Zvf ?ZuA ?ZsZ ?ZuK ?Zvl ?ZuG ?Ztc ?ZuQ ?Zvk ?ZuF ?Zsz ?ZuP ?Zuw ?Zuh ?ZsL ?Zum ?ZxJ ?Zxm ?Zu7 ?Zxr ?ZyV ?Zy1 ?Zwp ?Zy4 ?ZtI ?Zt7 ?Zs2 ?ZtA ?Zwg ?ZvV ?ZtY ?ZvY ?ZvH ?Zvt ?Zty ?Zv0 ?Zvg ?ZuB ?Zta ?ZuL ?Zux ?Zui ?Zs6 ?Zun ?ZwI ?Zww ?Zu3 ?Zw1 ?ZwL ?Zwz ?Zu6 ?Zw4 ?ZvL ?Zvx ?Zt1 ?Zv4 ?ZxH ?Zxk ?ZvE ?Zxp ?Zub ?ZtP ?ZsF ?ZtS ?Zvm ?ZuH ?Ztd ?ZuR ?ZwH ?Zwv ?ZwD ?Zw0 ?Zu0 ?Zul ?ZsO ?Zuq ?ZtZ ?ZtN ?ZsE ?ZtQ ?ZvJ ?Zvv ?Ztz ?Zv2 ?Zuz ?Zuk ?ZsN ?Zup ?ZtH ?Zt6 ?Zs1 ?Zt9 ?Zvo ?ZuJ ?Ztf ?ZuT ?Zvn ?ZuI ?Zte ?ZuS ?ZvN ?Zvz ?Zt2 ?Zv6 ?ZvM ?Zvy ?ZsY ?Zv5 ?Z04 ?Z0y ?Z02 ?Z0z ?a_FEWEST_PITS ?a_FIGURES ?a_LONGEST ?a_MOST_GATHERED ?a_MOST_LINE_PITS ?a_MOST_LINE_SEEDS ?a_MOST_PITS ?a_MOST_ROW_SEEDS ?a_MOST_YARD_PITS ?a_MOST_YARD_SEEDS ?z_ValueError ?z_all ?z_bool ?z_enumerate ?z_int ?z_isinstance ?z_len ?z_list ?z_min ?z_range ?z_str ?z_sum ?z_tuple ?x_tab ?x_exc ?x_at ?am_SowError ?fm1_SowError ?tm_SowError ?lm_SowError ?cm_SowError ?km_SowError ?am_BadBoard ?fm1_BadBoard ?tm_BadBoard ?lm_BadBoard ?cm_BadBoard ?km_BadBoard ?am_BadPit ?fm1_BadPit ?tm_BadPit ?lm_BadPit ?cm_BadPit ?km_BadPit ?am_BadPits ?fm1_BadPits ?tm_BadPits ?lm_BadPits ?cm_BadPits ?km_BadPits ?am_BadCount ?fm1_BadCount ?tm_BadCount ?lm_BadCount ?cm_BadCount ?km_BadCount ?am_NoSeeds ?fm1_NoSeeds ?tm_NoSeeds ?lm_NoSeeds ?cm_NoSeeds ?km_NoSeeds ?am_BadPlan ?fm1_BadPlan ?tm_BadPlan ?lm_BadPlan ?cm_BadPlan ?km_BadPlan ?am_Unlike ?fm1_Unlike ?tm_Unlike ?lm_Unlike ?cm_Unlike ?km_Unlike ?am_TooLong ?fm1_TooLong ?tm_TooLong ?lm_TooLong ?cm_TooLong ?km_TooLong ?am_TooMany ?fm1_TooMany ?tm_TooMany ?lm_TooMany ?cm_TooMany ?km_TooMany ?am_BadLine ?fm1_BadLine ?tm_BadLine ?lm_BadLine ?cm_BadLine ?km_BadLine ?am_BadRow ?fm1_BadRow ?tm_BadRow ?lm_BadRow ?cm_BadRow ?km_BadRow ?am_BadYard ?fm1_BadYard ?tm_BadYard ?lm_BadYard ?cm_BadYard ?km_BadYard ?am_NoDeed ?fm1_NoDeed ?tm_NoDeed ?lm_NoDeed ?cm_NoDeed ?km_NoDeed ?am_BadText ?fm1_BadText ?tm_BadText ?lm_BadText ?cm_BadText ?km_BadText ?ai_BadPlan ?nsi_BadPlan ?ki_BadPlan ?ti_BadPlan ?li_BadPlan ?ci_BadPlan ?kf_BadPlan ?as_BadPlan ?xi_BadPlan ?am_RingBook_undo ?fm1_RingBook_undo ?tm_RingBook_undo ?lm_RingBook_undo ?cm_RingBook_undo ?km_RingBook_undo ?am_RingBook___init__ ?fm1_RingBook___init__ ?tm_RingBook___init__ ?lm_RingBook___init__ ?cm_RingBook___init__ ?km_RingBook___init__ ?o_RingBook
   (case ZwJ=>k_is)
   (case Zwx=>k_is)
   (case Zu4=>k_is)
   (case Zw2=>k_is)
   (case Zua=>k_is)
   (case ZtO=>k_is)
   (case ZrN=>k_is)
   (case ZtR=>k_is)
   (case ZsG=>k_is)
   (case ZsB=>k_is)
   (case Zrf=>k_is)
   (case ZsC=>k_is)
   (case ZvI=>k_is)
   (case Zvu=>k_is)
   (case ZsX=>k_is)
   (case Zv1=>k_is)
   (case ZwK=>k_is)
   (case Zwy=>k_is)
   (case Zu5=>k_is)
   (case Zw3=>k_is)
   (case Zvi=>k_is)
   (case ZuD=>k_is)
   (case Zrs=>k_is)
   (case ZuN=>k_is)
   (case Zvj=>k_is)
   (case ZuE=>k_is)
   (case Ztb=>k_is)
   (case ZuO=>k_is)
   (case Zto=>k_is)
   (case Ztk=>k_is)
   (case Zsk=>k_is)
   (case Ztl=>k_is)
   (case ZxG=>k_is)
   (case Zxj=>k_is)
   (case Ztx=>k_is)
   (case Zxo=>k_is)
   (case ZyU=>k_is)
   (case Zy0=>k_is)
   (case Zwo=>k_is)
   (case Zy3=>k_is)
   (case ZyW=>k_is)
   (case Zy2=>k_is)
   (case Zve=>k_is)
   (case Zy5=>k_is)
   (case Zwh=>k_is)
   (case ZvW=>k_is)
   (case Ztn=>k_is)
   (case ZvZ=>k_is)
   (case ZtG=>k_is)
   (case Zt5=>k_is)
   (case ZrR=>k_is)
   (case Zt8=>k_is)
   (case Z0n=>k_is)
   (case Z0c=>k_is)
   (case Zzp=>k_is)
   (case Z0d=>k_is)
   (case Zwf=>k_is)
   (case ZvU=>k_is)
   (case ZtX=>k_is)
   (case ZvX=>k_is)
   (case Zuy=>k_is)
   (case Zuj=>k_is)
   (case ZsM=>k_is)
   (case Zuo=>k_is)
   (case ZvK=>k_is)
   (case Zvw=>k_is)
   (case Zt0=>k_is)
   (case Zv3=>k_is)
   (case ZxK=>k_is)
   (case Zxn=>k_is)
   (case ZvG=>k_is)
   (case Zxs=>k_is)
   (case ZxI=>k_is)
   (case Zxl=>k_is)
   (case ZvF=>k_is)
   (case Zxq=>k_is)
   (case Zvh=>k_is)
   (case ZuC=>k_is)
   (case Zsy=>k_is)
   (case ZuM=>k_is)
   (case Zvf=>k_is)
   (case ZuA=>k_is)
   (case ZsZ=>k_is)
   (case ZuK=>k_is)
   (case Zvl=>k_is)
   (case ZuG=>k_is)
   (case Ztc=>k_is)
   (case ZuQ=>k_is)
   (case Zvk=>k_is)
   (case ZuF=>k_is)
   (case Zsz=>k_is)
   (case ZuP=>k_is)
   (case Zuw=>k_is)
   (case Zuh=>k_is)
   (case ZsL=>k_is)
   (case Zum=>k_is)
   (case ZxJ=>k_is)
   (case Zxm=>k_is)
   (case Zu7=>k_is)
   (case Zxr=>k_is)
   (case ZyV=>k_is)
   (case Zy1=>k_is)
   (case Zwp=>k_is)
   (case Zy4=>k_is)
   (case ZtI=>k_is)
   (case Zt7=>k_is)
   (case Zs2=>k_is)
   (case ZtA=>k_is)
   (case Zwg=>k_is)
   (case ZvV=>k_is)
   (case ZtY=>k_is)
   (case ZvY=>k_is)
   (case ZvH=>k_is)
   (case Zvt=>k_is)
   (case Zty=>k_is)
   (case Zv0=>k_is)
   (case Zvg=>k_is)
   (case ZuB=>k_is)
   (case Zta=>k_is)
   (case ZuL=>k_is)
   (case Zux=>k_is)
   (case Zui=>k_is)
   (case Zs6=>k_is)
   (case Zun=>k_is)
   (case ZwI=>k_is)
   (case Zww=>k_is)
   (case Zu3=>k_is)
   (case Zw1=>k_is)
   (case ZwL=>k_is)
   (case Zwz=>k_is)
   (case Zu6=>k_is)
   (case Zw4=>k_is)
   (case ZvL=>k_is)
   (case Zvx=>k_is)
   (case Zt1=>k_is)
   (case Zv4=>k_is)
   (case ZxH=>k_is)
   (case Zxk=>k_is)
   (case ZvE=>k_is)
   (case Zxp=>k_is)
   (case Zub=>k_is)
   (case ZtP=>k_is)
   (case ZsF=>k_is)
   (case ZtS=>k_is)
   (case Zvm=>k_is)
   (case ZuH=>k_is)
   (case Ztd=>k_is)
   (case ZuR=>k_is)
   (case ZwH=>k_is)
   (case Zwv=>k_is)
   (case ZwD=>k_is)
   (case Zw0=>k_is)
   (case Zu0=>k_is)
   (case Zul=>k_is)
   (case ZsO=>k_is)
   (case Zuq=>k_is)
   (case ZtZ=>k_is)
   (case ZtN=>k_is)
   (case ZsE=>k_is)
   (case ZtQ=>k_is)
   (case ZvJ=>k_is)
   (case Zvv=>k_is)
   (case Ztz=>k_is)
   (case Zv2=>k_is)
   (case Zuz=>k_is)
   (case Zuk=>k_is)
   (case ZsN=>k_is)
   (case Zup=>k_is)
   (case ZtH=>k_is)
   (case Zt6=>k_is)
   (case Zs1=>k_is)
   (case Zt9=>k_is)
   (case Zvo=>k_is)
   (case ZuJ=>k_is)
   (case Ztf=>k_is)
   (case ZuT=>k_is)
   (case Zvn=>k_is)
   (case ZuI=>k_is)
   (case Zte=>k_is)
   (case ZuS=>k_is)
   (case ZvN=>k_is)
   (case Zvz=>k_is)
   (case Zt2=>k_is)
   (case Zv6=>k_is)
   (case ZvM=>k_is)
   (case Zvy=>k_is)
   (case ZsY=>k_is)
   (case Zv5=>k_is)
   (case Z04=>k_is)
   (case Z0y=>k_is)
   (case Z02=>k_is)
   (case Z0z=>k_is)
   (case a_FEWEST_PITS=>k_is)
   (case a_FIGURES=>k_is)
   (case a_LONGEST=>k_is)
   (case a_MOST_GATHERED=>k_is)
   (case a_MOST_LINE_PITS=>k_is)
   (case a_MOST_LINE_SEEDS=>k_is)
   (case a_MOST_PITS=>k_is)
   (case a_MOST_ROW_SEEDS=>k_is)
   (case a_MOST_YARD_PITS=>k_is)
   (case a_MOST_YARD_SEEDS=>k_is)
   (case z_ValueError=>k_is)
   (case z_all=>k_is)
   (case z_bool=>k_is)
   (case z_enumerate=>k_is)
   (case z_int=>k_is)
   (case z_isinstance=>k_is)
   (case z_len=>k_is)
   (case z_list=>k_is)
   (case z_min=>k_is)
   (case z_range=>k_is)
   (case z_str=>k_is)
   (case z_sum=>k_is)
   (case z_tuple=>k_is)
   (case x_tab=>kernel_rfl)
   (case x_exc=>kernel_rfl)
   (case x_at=>kernel_rfl)
   (case am_SowError=>k_is)
   (case fm1_SowError=>k_is)
   (case tm_SowError=>k_is)
   (case lm_SowError=>k_is)
   (case cm_SowError=>k_is)
   (case km_SowError=>k_is)
   (case am_BadBoard=>k_is)
   (case fm1_BadBoard=>k_is)
   (case tm_BadBoard=>k_is)
   (case lm_BadBoard=>k_is)
   (case cm_BadBoard=>k_is)
   (case km_BadBoard=>k_is)
   (case am_BadPit=>k_is)
   (case fm1_BadPit=>k_is)
   (case tm_BadPit=>k_is)
   (case lm_BadPit=>k_is)
   (case cm_BadPit=>k_is)
   (case km_BadPit=>k_is)
   (case am_BadPits=>k_is)
   (case fm1_BadPits=>k_is)
   (case tm_BadPits=>k_is)
   (case lm_BadPits=>k_is)
   (case cm_BadPits=>k_is)
   (case km_BadPits=>k_is)
   (case am_BadCount=>k_is)
   (case fm1_BadCount=>k_is)
   (case tm_BadCount=>k_is)
   (case lm_BadCount=>k_is)
   (case cm_BadCount=>k_is)
   (case km_BadCount=>k_is)
   (case am_NoSeeds=>k_is)
   (case fm1_NoSeeds=>k_is)
   (case tm_NoSeeds=>k_is)
   (case lm_NoSeeds=>k_is)
   (case cm_NoSeeds=>k_is)
   (case km_NoSeeds=>k_is)
   (case am_BadPlan=>k_is)
   (case fm1_BadPlan=>k_is)
   (case tm_BadPlan=>k_is)
   (case lm_BadPlan=>k_is)
   (case cm_BadPlan=>k_is)
   (case km_BadPlan=>k_is)
   (case am_Unlike=>k_is)
   (case fm1_Unlike=>k_is)
   (case tm_Unlike=>k_is)
   (case lm_Unlike=>k_is)
   (case cm_Unlike=>k_is)
   (case km_Unlike=>k_is)
   (case am_TooLong=>k_is)
   (case fm1_TooLong=>k_is)
   (case tm_TooLong=>k_is)
   (case lm_TooLong=>k_is)
   (case cm_TooLong=>k_is)
   (case km_TooLong=>k_is)
   (case am_TooMany=>k_is)
   (case fm1_TooMany=>k_is)
   (case tm_TooMany=>k_is)
   (case lm_TooMany=>k_is)
   (case cm_TooMany=>k_is)
   (case km_TooMany=>k_is)
   (case am_BadLine=>k_is)
   (case fm1_BadLine=>k_is)
   (case tm_BadLine=>k_is)
   (case lm_BadLine=>k_is)
   (case cm_BadLine=>k_is)
   (case km_BadLine=>k_is)
   (case am_BadRow=>k_is)
   (case fm1_BadRow=>k_is)
   (case tm_BadRow=>k_is)
   (case lm_BadRow=>k_is)
   (case cm_BadRow=>k_is)
   (case km_BadRow=>k_is)
   (case am_BadYard=>k_is)
   (case fm1_BadYard=>k_is)
   (case tm_BadYard=>k_is)
   (case lm_BadYard=>k_is)
   (case cm_BadYard=>k_is)
   (case km_BadYard=>k_is)
   (case am_NoDeed=>k_is)
   (case fm1_NoDeed=>k_is)
   (case tm_NoDeed=>k_is)
   (case lm_NoDeed=>k_is)
   (case cm_NoDeed=>k_is)
   (case km_NoDeed=>k_is)
   (case am_BadText=>k_is)
   (case fm1_BadText=>k_is)
   (case tm_BadText=>k_is)
   (case lm_BadText=>k_is)
   (case cm_BadText=>k_is)
   (case km_BadText=>k_is)
   (case ai_BadPlan=>k_is)
   (case nsi_BadPlan=>k_is)
   (case ki_BadPlan=>k_is)
   (case ti_BadPlan=>k_is)
   (case li_BadPlan=>k_is)
   (case ci_BadPlan=>k_is)
   (case kf_BadPlan=>k_is)
   (case as_BadPlan=>k_is)
   (case xi_BadPlan=>kernel_rfl)
   (case am_RingBook_undo=>k_is)
   (case fm1_RingBook_undo=>k_is)
   (case tm_RingBook_undo=>k_is)
   (case lm_RingBook_undo=>k_is)
   (case cm_RingBook_undo=>k_is)
   (case km_RingBook_undo=>k_is)
   (case am_RingBook___init__=>k_is)
   (case fm1_RingBook___init__=>k_is)
   (case tm_RingBook___init__=>k_is)
   (case lm_RingBook___init__=>k_is)
   (case cm_RingBook___init__=>k_is)
   (case km_RingBook___init__=>k_is)
   (case o_RingBook=>kernel_rfl)
  exact My.Zo5 T hmg
 case S=>exact fun K H a ns hl hO hS=>My.Zj3 hl hO hS
 case C=>exact fun _ _ _ _ z=>z
