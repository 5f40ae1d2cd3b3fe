import PyProof.Rows.All
import Wide.All
import OpenK.AllK
import Wide.FinOn
import Lean
import PyProof.EqAt
import PyProof.EqKinds
import PyProof.TupleCall
import KE.KTryMore
import PyProof.NsDelKeeps
import PyProof.EnumStmt
import KE.KRevIter
import PyProof.ListNew
import KE.KIntText
import PyProof.ListRange
import PyProof.Rows.Range3
import PyProof.Rows.TupDisplay
import PyProof.DictWalks
import PySem.Challenge.RW_sowring_k10_rings_counted
set_option Elab.async false
set_option linter.all false
set_option maxRecDepth 100000
namespace L2
open PySem PySem.Spec PyProof.Rows
noncomputable abbrev Key:=Sum Int Str
noncomputable def keyIs:Key→Value→Bool
  | .inl k,v=>Value.isInt k v
  | .inr x,v=>Value.isStrOf x v
noncomputable def keyH (w:World):Key→Int
  | .inl k=>hashInt k
  | .inr x=>hashStr w x
theorem keyIs_shape:∀ {k:Key} {v:Value},keyIs k v=true→(∃ i t,k=Sum.inl i∧v=Value.int i t) ∨ (∃ x t,k=Sum.inr x∧v=Value.str x t)
  | .inl i,v,h=>by
    obtain ⟨t,e⟩:=Value.isInt_shape (k:=i) (v:=v) h
    exact .inl ⟨i,t,rfl,e⟩
  | .inr x,v,h=>by
    obtain ⟨t,e⟩:=Value.isStrOf_shape (x:=x) (v:=v) h
    exact .inr ⟨x,t,rfl,e⟩
theorem keyIs_int (i:Int) (t:Tok):keyIs (.inl i) (.int i t)=true:=by simp [keyIs,Value.isInt]
theorem keyIs_str (x:Str) (t:Tok):keyIs (.inr x) (.str x t)=true:=by simp [keyIs,Value.isStrOf]
theorem key_ll (a b:Int):decide ((Sum.inl a:Key)=Sum.inl b)=(a == b):=by
  by_cases e:a=b
  · subst e; simp
  · have h:¬ (Sum.inl a:Key)=Sum.inl b:=fun q=>e (Sum.inl.inj q)
    rw [decide_eq_false h]
    exact (beq_eq_false_iff_ne.mpr e).symm
theorem key_rr (a b:Str):decide ((Sum.inr a:Key)=Sum.inr b)=decide (a=b):=by
  by_cases e:a=b
  · subst e; simp
  · have h:¬ (Sum.inr a:Key)=Sum.inr b:=fun q=>e (Sum.inr.inj q)
    rw [decide_eq_false h,decide_eq_false e]
theorem key_lr (a:Int) (b:Str):decide ((Sum.inl a:Key)=Sum.inr b)=false:=decide_eq_false (fun q=>nomatch q)
theorem key_rl (a:Str) (b:Int):decide ((Sum.inr a:Key)=Sum.inl b)=false:=decide_eq_false (fun q=>nomatch q)
noncomputable def mixKind (prog:Program) (w:World):PySem.KeyKind prog w Key where
  is:=keyIs
  hash:=keyH w
  inj:=fun v a b ha hb=>by
    rcases keyIs_shape ha with ⟨i,t,rfl,rfl⟩ | ⟨x,t,rfl,rfl⟩
    · rcases keyIs_shape hb with ⟨j,u,rfl,e⟩ | ⟨y,u,rfl,e⟩
      · injection e with e1 _; rw [e1]
      · exact nomatch e
    · rcases keyIs_shape hb with ⟨j,u,rfl,e⟩ | ⟨y,u,rfl,e⟩
      · exact nomatch e
      · injection e with e1 _; rw [e1]
  byValue:=fun k v h=>by
    rcases keyIs_shape h with ⟨i,t,rfl,rfl⟩ | ⟨x,t,rfl,rfl⟩ <;> rfl
  pyHash:=fun hv h=>by
    rcases keyIs_shape hv with ⟨i,t,rfl,rfl⟩ | ⟨x,t,rfl,rfl⟩
    · exact wpAny_pyHash_int h
    · exact wpAny_pyHash_str h
  eqBool:=fun hu hv h=>by
    rcases keyIs_shape hu with ⟨i,t,rfl,rfl⟩ | ⟨x,t,rfl,rfl⟩
    · rcases keyIs_shape hv with ⟨j,u,rfl,rfl⟩ | ⟨y,u,rfl,rfl⟩
      · rw [key_ll] at h; exact wpAny_eqBool_int h
      · rw [key_lr] at h; exact SeqAt.EqAt.int_str i t y u _ _ _ _ h
    · rcases keyIs_shape hv with ⟨j,u,rfl,rfl⟩ | ⟨y,u,rfl,rfl⟩
      · rw [key_rl] at h; exact SeqAt.EqAt.str_int x t j u _ _ _ _ h
      · rw [key_rr] at h; exact wpAny_eqBool_str h
  «strs»:=fun k x t v h=>by
    rcases keyIs_shape h with ⟨i,u,rfl,e⟩ | ⟨y,u,rfl,e⟩
    · exact nomatch e
    · injection e with e1 _
      subst e1
      cases v <;> rfl
theorem mixKind_int (prog:Program) (w:World) (i:Int) (t:Tok):(mixKind prog w).is (.inl i) (.int i t)=true:=keyIs_int i t
theorem mixKind_str (prog:Program) (w:World) (x:Str) (t:Tok):(mixKind prog w).is (.inr x) (.str x t)=true:=keyIs_str x t
end L2
namespace L2
open PySem PySem.Spec PyProof.Rows
inductive V where
  | non | bl (b:Bool) | int (i:Int) | str (x:Str) | byt (b:Array UInt8) | flt (b:UInt64) | ref (a:Addr) | ty (n:String)
  deriving DecidableEq
noncomputable def RelV:V→Value→Prop
  | .non,u=>u=Value.none
  | .bl b,u=>u=Value.bool b
  | .int i,u=>∃ t,u=Value.int i t
  | .str x,u=>∃ t,u=Value.str x t
  | .byt b,u=>∃ t,u=Value.bytes b t
  | .flt b,u=>∃ t,u=Value.float b t
  | .ref a,u=>u=Value.ref a
  | .ty n,u=>u=Value.type n
noncomputable abbrev Vals:List V→List Value→Prop:=Paired RelV
theorem Vals.length {xs:List V} {us:List Value} (r:Vals xs us):xs.length=us.length:=Paired.length r
theorem Vals.get:∀ {xs:List V} {us:List Value} {i:Nat} {x:V},Vals xs us→xs[i]?=some x→∃ u,us[i]?=some u∧RelV x u
  | _,_,_,_,.nil,e=>by simp at e
  | _,_,0,_,.cons r _,e=>by simp at e; subst e; exact ⟨_,rfl,r⟩
  | _,_,i + 1,x,.cons _ t,e=>by
    obtain ⟨u,h1,h2⟩:=Vals.get (i:=i) (x:=x) t (by simpa using e)
    exact ⟨u,by simpa using h1,h2⟩
theorem Vals.append:∀ {xs ys:List V} {us ws:List Value},Vals xs us→Vals ys ws→Vals (xs ++ ys) (us ++ ws)
  | _,_,_,_,.nil,s=>s
  | _,_,_,_,.cons r t,s=>.cons r (Vals.append t s)
theorem Vals.take:∀ {xs:List V} {us:List Value} (n:Nat),Vals xs us→Vals (xs.take n) (us.take n)
  | _,_,0,_=>.nil
  | _,_,_ + 1,.nil=>.nil
  | _,_,n + 1,.cons r t=>.cons r (Vals.take n t)
theorem Vals.drop:∀ {xs:List V} {us:List Value} (n:Nat),Vals xs us→Vals (xs.drop n) (us.drop n)
  | _,_,0,r=>r
  | _,_,_ + 1,.nil=>.nil
  | _,_,n + 1,.cons _ t=>Vals.drop n t
noncomputable def RelO:Option V→Option Value→Prop
  | some v,some u=>RelV v u
  | none,none=>True
  | _,_=>False
noncomputable def KV {κ:Type}:List (κ × V)→List (κ × Value)→Prop:=Paired fun (p:κ × V) (q:κ × Value)=>p.1=q.1∧RelV p.2 q.2
noncomputable def kV:Key→V
  | .inl i=>.int i
  | .inr x=>.str x
inductive HO where
    | lst (xs:List V)
    | tup (xs:List V)
    | dK (kvs:List (Key × V)) | dT (kvs:List (List Key × V))
    | set (S:Int→Bool) (n:Nat)
    | ins (C dx:Addr) (fs:List (Str × V))
    | own (x:Addr)
    | xd (fs:List (Str × V))
    | met (f x:Addr)
    | rng (lo hi:Int)
    | frz (o:Obj) (u:HO)
    | tbl (ps:Array Value)
    | ext (φ:Heap→Prop)
noncomputable abbrev Hp:=Addr→Option HO
noncomputable def upd (H:Hp) (a:Addr) (o:HO):Hp:=fun b=>if b=a then some o else H b
theorem upd_same {H:Hp} {a:Addr} {o:HO}:upd H a o a=some o:=by unfold upd; rw [if_pos rfl]
theorem upd_ne {H:Hp} {a b:Addr} {o:HO} (h:b≠a):upd H a o b=H b:=by unfold upd; rw [if_neg h]
theorem ne_of {H:Hp} {a b:Addr} {o u:HO} (h:H a=some o) (h':H b=some u) (d:o≠u):a≠b:=by
  intro e; subst e; rw [h] at h'; exact d (Option.some.inj h')
theorem ne_of_none {H:Hp} {a b:Addr} {o:HO} (h:H a=some o) (h':H b=none):a≠b:=by
  intro e; subst e; rw [h] at h'; cases h'
section
variable (P:Program) (w:World)
noncomputable def ObjOk (H:Hp) (h:Heap) (a:Addr):HO→Prop
  | .lst xs=>xs.length≤sizeLine∧∃ (its:List Value) (n:Nat),Vals xs its∧h.get? a=some { cls:=.type "list",data:=.seq its.toArray n }
  | .tup xs=>xs.length≤sizeLine∧∃ its:List Value,Vals xs its∧IsTup h a its.toArray
  | .dK kvs=>kvs.length≤sizeLine∧(a == sysModules)=false∧∃ vs,KV kvs vs∧h.DictOf (mixKind P w) a vs
  | .dT kvs=>kvs.length≤sizeLine∧(a == sysModules)=false∧∃ xs:List (List Key × Addr × Value),
      Paired (fun (p:List Key × V) (q:List Key × Addr × Value)=>p.1=q.1∧H q.2.1=some (.tup (p.1.map kV))∧RelV p.2 q.2.2) kvs xs ∧
      ∃ o es ep,h.get? a=some o∧o.ExactDict∧o.data=.dict es ep∧es.toList=xs.map (entryOfKey (tupleKind (mixKind P w)))∧(xs.map (·.1)).Nodup
  | .set S n=>h.SetOf (intKind P w) a S n
  | .ins C dx fs=>H dx=some (.own a)∧fs.length≤1000∧dx≠a∧h.get? a=some (PySem.W.instObj C dx) ∧
      ∃ mA,h.Ns1 dx mA∧(∀ f,RelO (fs.lookup f) (mA f))∧PySem.Within mA (fs.map (·.1))
  | .own _=>∃ o,h.get? a=some o
  | .xd fs=>∃ mA,h.Ns1 a mA∧∀ f,RelO (fs.lookup f) (mA f)
  | .rng lo hi=>∃ t u v,h.get? a=some { cls:=.type "range",data:=.fields #[.int lo t,.int hi u,.int 1 v] }
  | .frz o u=>h.get? a=some o∧ObjOk H h a u
  | .tbl ps=>h.get? a=some { cls:=.none,data:=.fields ps }
  | .met f x=>h.get? a=some (PySem.W.methodObj (.ref f) (.ref x))
  | .ext φ=>φ h∧(∃ o,h.get? a=some o)∧∀ h1 h2:Heap,φ h1→(∀ o,h1.get? a=some o→h2.get? a=some o)→φ h2
noncomputable def HOk (H:Hp) (h:Heap):Prop:=∀ a o,H a=some o→ObjOk P w H h a o
end
section
variable {P:Program} {w:World} {H H':Hp} {h h':Heap} {a:Addr} {o:HO}
theorem ObjOk.lt (x:ObjOk P w H h a o):a < h.objs.size:=by
  cases o with
  | lst xs=>obtain ⟨_,_,_,_,e⟩:=x; exact Heap.lt_size e
  | tup xs=>obtain ⟨_,_,_,p⟩:=x; exact p.lt
  | dK kvs=>obtain ⟨_,_,_,_,o,_,_,e,_⟩:=x; exact Heap.lt_size e
  | dT kvs=>obtain ⟨_,_,_,_,o,_,_,e,_⟩:=x; exact Heap.lt_size e
  | set S n=>obtain ⟨o,_,_,_,e,_⟩:=x; exact Heap.lt_size e
  | ins C dx fs=>obtain ⟨_,_,_,e,_⟩:=x; exact Heap.lt_size e
  | own y=>obtain ⟨_,e⟩:=x; exact Heap.lt_size e
  | xd fs=>obtain ⟨_,⟨_,_,_,e,_⟩,_⟩:=x; exact Heap.lt_size e
  | rng lo hi=>obtain ⟨_,_,_,e⟩:=x; exact Heap.lt_size e
  | frz ob u=>obtain ⟨e,_⟩:=x; exact Heap.lt_size e
  | tbl ps=>exact Heap.lt_size (show h.get? a=some _ from x)
  | met f y=>exact Heap.lt_size (show h.get? a=some _ from x)
  | ext φ=>obtain ⟨_,⟨_,e⟩,_⟩:=x; exact Heap.lt_size e
theorem Paired.mapP {α β:Type} {F G:α→β→Prop}:∀ {l₁:List α} {l₂:List β},Paired F l₁ l₂→(∀ a b,F a b→G a b)→Paired G l₁ l₂
  | _,_,.nil,_=>.nil
  | _,_,.cons r t,f=>.cons (f _ _ r) (Paired.mapP t f)
theorem ObjOk.stay (x:ObjOk P w H h a o) (k:∀ b u,(b=a ∨ H b=some (.own a))→h.get? b=some u→h'.get? b=some u)
    (ho:∀ b,H b=some (.own a)→H' b=some (.own a)) (ht:∀ b xs,H b=some (.tup xs)→H' b=some (.tup xs)):ObjOk P w H' h' a o:=by
  induction o with
  | lst xs=>obtain ⟨z,its,n,r,e⟩:=x; exact ⟨z,its,n,r,k _ _ (.inl rfl) e⟩
  | tup xs=>obtain ⟨z,its,r,ob,e,c⟩:=x; exact ⟨z,its,r,ob,k _ _ (.inl rfl) e,c⟩
  | dK kvs=>obtain ⟨z,y,vs,r,ob,es,ep,e,c⟩:=x; exact ⟨z,y,vs,r,ob,es,ep,k _ _ (.inl rfl) e,c⟩
  | dT kvs =>
    obtain ⟨z,y,xs,r,ob,es,ep,e,c⟩:=x
    exact ⟨z,y,xs,Paired.mapP r fun p q z=>⟨z.1,ht _ _ z.2.1,z.2.2⟩,ob,es,ep,k _ _ (.inl rfl) e,c⟩
  | set S n=>obtain ⟨ob,es,ep,t,e,c⟩:=x; exact ⟨ob,es,ep,t,k _ _ (.inl rfl) e,c⟩
  | ins C dx fs =>
    obtain ⟨d,z,ne,e,mA,⟨od,es,ep,e2,c⟩,r⟩:=x
    exact ⟨ho _ d,z,ne,k _ _ (.inl rfl) e,mA,⟨od,es,ep,k _ _ (.inr d) e2,c⟩,r⟩
  | own y=>obtain ⟨ob,e⟩:=x; exact ⟨ob,k _ _ (.inl rfl) e⟩
  | xd fs=>obtain ⟨mA,⟨od,es,ep,e,c⟩,r⟩:=x; exact ⟨mA,⟨od,es,ep,k _ _ (.inl rfl) e,c⟩,r⟩
  | rng lo hi=>obtain ⟨t,u,v,e⟩:=x; exact ⟨t,u,v,k _ _ (.inl rfl) e⟩
  | frz ob u ih=>obtain ⟨e,q⟩:=x; exact ⟨k _ _ (.inl rfl) e,ih q⟩
  | tbl ps =>
    have e:h.get? a=some { cls:=.none,data:=.fields ps }:=x
    show h'.get? a=some { cls:=.none,data:=.fields ps }
    exact k a _ (.inl rfl) e
  | met f y =>
    have e:h.get? a=some (PySem.W.methodObj (.ref f) (.ref y)):=x
    show h'.get? a=some (PySem.W.methodObj (.ref f) (.ref y))
    exact k a _ (.inl rfl) e
  | ext φ=>obtain ⟨p,⟨o,e⟩,st⟩:=x; exact ⟨st _ _ p fun o q=>k _ _ (.inl rfl) q,⟨o,k _ _ (.inl rfl) e⟩,st⟩
theorem HOk.lt (x:HOk P w H h) (e:H a=some o):a < h.objs.size:=(x a o e).lt
theorem HOk.fresh (x:HOk P w H h) (e:h.objs.size≤a):H a=none:=by
  cases q:H a with
  | none=>rfl
  | some u=>exact absurd (Nat.lt_of_lt_of_le (x.lt q) e) (Nat.lt_irrefl _)
theorem HOk.kept (x:HOk P w H h) (k:∀ b u,h.get? b=some u→h'.get? b=some u):HOk P w H h':=fun a o e =>
  (x a o e).stay (fun b u _ q=>k b u q) (fun _ q=>q) fun _ _ q=>q
theorem HOk.laid (x:HOk P w H h) (k:∀ b u,h.get? b=some u→h'.get? b=some u) (hp:h.objs.size≤a) (new:ObjOk P w (upd H a o) h' a o):HOk P w (upd H a o) h':=fun b u e=>by
  have hn:=x.fresh hp
  by_cases hb:b=a
  · subst hb; rw [upd_same] at e; cases e; exact new
  · rw [upd_ne hb] at e
    exact (x b u e).stay (fun c v _ q=>k c v q) (fun c q=>by rw [upd_ne (ne_of_none q hn)]; exact q) fun c xs q=>by rw [upd_ne (ne_of_none q hn)]; exact q
end
noncomputable def Rd (H:Hp) (a:Addr) (u:HO):Prop:=H a=some u ∨ ∃ o,H a=some (.frz o u)
theorem Rd.ok {P:Program} {w:World} {H:Hp} {h:Heap} {a:Addr} {u:HO} (r:Rd H a u) (x:HOk P w H h):ObjOk P w H h a u:=by
  rcases r with r | ⟨o,r⟩
  · exact x a u r
  · obtain ⟨_,q⟩:=x a _ r
    exact q
noncomputable def Mut:Option HO→Prop
  | some (.lst _)=>True
  | some (.dK _)=>True
  | some (.dT _)=>True
  | some (.set _ _)=>True
  | some (.ins _ _ _)=>True
  | some (.ext _)=>True
  | _=>False
section
variable {P:Program} {w:World} {H:Hp} {h h':Heap} {x e:Addr} {o':HO}
theorem HOk.write (ok:HOk P w H h) (mu:Mut (H x)) (he:e=x ∨ H e=some (.own x)) (k:∀ b u,b≠e→h.get? b=some u→h'.get? b=some u) (heo:∃ u,h'.get? e=some u)
    (new:ObjOk P w (upd H x o') h' x o'):HOk P w (upd H x o') h':=fun b u q=>by
  have nown:∀ c y,H c=some (.own y)→c≠x:=fun c y r z=>by subst z; rw [r] at mu; exact mu
  have ntup:∀ c xs,H c=some (.tup xs)→c≠x:=fun c xs r z=>by subst z; rw [r] at mu; exact mu
  by_cases hb:b=x
  · subst hb; rw [upd_same] at q; cases q; exact new
  · rw [upd_ne hb] at q
    by_cases hbe:b=e
    · have q':H b=some (.own x):=by
        rcases he with z | z
        · exact absurd (hbe.trans z) hb
        · rw [hbe]; exact z
      rw [q] at q'; cases q'
      obtain ⟨v,hv⟩:=heo
      exact ⟨v,by rw [hbe]; exact hv⟩
    · refine (ok b u q).stay (fun c v hc r=>k c v ?_ r) (fun c r=>by rw [upd_ne (nown c b r)]; exact r) fun c xs r=>by rw [upd_ne (ntup c xs r)]; exact r
      rcases hc with rfl | hc
      · exact hbe
      · rintro rfl
        rcases he with z | z
        · exact nown c b hc z
        · rw [hc] at z; cases z; exact hb rfl
end
structure Un (fs ex:List Addr) (H H':Hp) (h h':Heap):Prop where
  keep:∀ b o,h.get? b=some o→H b=none→b ∉ fs→b ∉ ex→h'.get? b=some o
  slot:∀ b o,h.get? b=some o→H b=none→b∈fs→b ∉ ex→∃ sl,h'.get? b=some { o with slots:=sl }
  free:∀ b o,h.get? b=some o→H b=none→b ∉ ex→H' b=none
  there:∀ b o,h.get? b=some o→b ∉ ex→∃ o',h'.get? b=some o'
  tups:∀ b xs,H b=some (.tup xs)→H' b=some (.tup xs)
  frzs:∀ b o u,H b=some (.frz o u)→H' b=some (.frz o u)
  tbls:∀ b ps,H b=some (.tbl ps)→∃ more,H' b=some (.tbl (ps ++ more))
section
variable {fs fs' ex ex':List Addr} {H H1 H2:Hp} {h h1 h2 h':Heap} {a x e:Addr} {o:HO}
theorem Un.any (u:Un fs ex H H1 h h1) {b:Addr} {ob:Obj} (q:h.get? b=some ob) (n:H b=none) (hx:b ∉ ex):∃ sl,h1.get? b=some { ob with slots:=sl }:=by
  by_cases hb:b∈fs
  · exact u.slot b ob q n hb hx
  · exact ⟨ob.slots,u.keep b ob q n hb hx⟩
theorem Un.kept (k:∀ b u,h.get? b=some u→h'.get? b=some u):Un fs ex H H h h' :=
  ⟨fun b ob q _ _ _=>k b ob q,fun b ob q _ _ _=>⟨ob.slots,k b ob q⟩,fun _ _ _ n _=>n,fun b ob q _=>⟨ob,k b ob q⟩,fun _ _ q=>q,fun _ _ _ q=>q,fun _ ps q=>⟨#[],by rw [q]; simp⟩⟩
theorem Un.refl:Un fs ex H H h h:=Un.kept fun _ _ q=>q
theorem Un.laid (k:∀ b u,h.get? b=some u→h'.get? b=some u) (hp:h.objs.size≤a) (hn:H a=none):Un fs ex H (upd H a o) h h' where
  keep:=fun b u q _ _ _=>k b u q
  slot:=fun b u q _ _ _=>⟨u.slots,k b u q⟩
  free:=fun b u q n _=>by rw [upd_ne (Nat.ne_of_lt (Nat.lt_of_lt_of_le (Heap.lt_size q) hp))]; exact n
  there:=fun b u q _=>⟨u,k b u q⟩
  tups:=fun b xs q=>by rw [upd_ne (ne_of_none q hn)]; exact q
  frzs:=fun b u xs q=>by rw [upd_ne (ne_of_none q hn)]; exact q
  tbls:=fun b ps q=>⟨#[],by rw [upd_ne (ne_of_none q hn),q]; simp⟩
theorem Un.write (mu:Mut (H x)) (he:e=x ∨ H e=some (.own x)) (k:∀ b u,b≠e→h.get? b=some u→h'.get? b=some u) (heo:∃ u,h'.get? e=some u):Un fs ex H (upd H x o) h h':=by
  have hx:∀ b,H b=none→b≠x:=fun b n z=>by subst z; rw [n] at mu; exact mu
  have hb:∀ b,H b=none→b≠e:=fun b n z=>by
    subst z
    rcases he with r | r
    · exact hx b n r
    · rw [n] at r; cases r
  have hm:∀ b u,H b=some u→¬ Mut (some u)→b≠x:=fun b u q nm z=>by subst z; rw [q] at mu; exact nm mu
  refine ⟨fun b u q n _ _=>k b u (hb b n) q,fun b u q n _ _=>⟨u.slots,k b u (hb b n) q⟩,fun b u q n _=>by rw [upd_ne (hx b n)]; exact n,fun b u q _=>?_,
    fun b xs q=>by rw [upd_ne (hm b _ q fun z=>z)]; exact q,fun b u xs q=>by rw [upd_ne (hm b _ q fun z=>z)]; exact q,fun b ps q=>⟨#[],by rw [upd_ne (hm b _ q fun z=>z),q]; simp⟩⟩
  by_cases hbe:b=e
  · subst hbe; exact heo
  · exact ⟨u,k b u hbe q⟩
end
noncomputable def trk (h:Heap) (H:Hp):List Addr:=(List.range h.objs.size).filter fun a=>(H a).isSome
noncomputable def hidT (h:Heap) (H:Hp):Heap:=PySem.W.hideAll h (trk h H)
theorem hidT_size (h:Heap) (H:Hp):(hidT h H).objs.size=h.objs.size:=PySem.W.hideAll_size _ _
theorem hidT_get {h:Heap} {H:Hp} {b:Addr} {o:Obj} (e:h.get? b=some o) (n:H b=none):(hidT h H).get? b=some o :=
  PySem.W.hideAll_get _ e fun hm=>by
    have q:(H b).isSome=true:=(List.mem_filter.mp hm).2
    rw [n] at q; simp at q
theorem of_hidT {h:Heap} {H:Hp} {b:Addr} {o:Obj} (e:(hidT h H).get? b=some o):h.get? b=some o∧H b=none:=by
  have e':h.get? b=some o:=PySem.W.of_hideAll (trk h H) e
  refine ⟨e', ?_⟩
  cases q:H b with
  | none=>rfl
  | some x =>
    have hm:b∈trk h H:=List.mem_filter.mpr ⟨List.mem_range.mpr (Heap.lt_size e'),by simp [q]⟩
    have z:(hidT h H).get? b=none:=PySem.W.hideAll_none (trk h H) hm
    rw [z] at e; cases e
noncomputable def allNews (g h:Heap) (L:Addr):List (Addr × Obj):=(List.range h.objs.size).filterMap fun a=>if a=L ∨ (g.get? a).isSome=true then none else (h.get? a).map fun o=>(a,o)
noncomputable def rest (g h:Heap) (L d:Addr):List (Addr × Obj):=(allNews g h L).filter fun p=>decide (p.1≠d)
end L2
namespace L2
open PySem PySem.Spec PyProof.Rows
structure Mod (K:PySem.W.Frag) (mg:Str→Option Value) (base:Heap):Prop where
  kin:K.In base
  glob:base.Ns mainGlobals mg
  blt:∃ mb,base.Ns builtinsNs mb∧∀ x:Str,x ≠ "__name__"→mb x=bootBuiltins x
  nolimit:base.NoLimit
structure Cx where
  prog:Program
  w:World
  K:PySem.W.Frag
  mg:Str→Option Value
  base:Heap
  A:Around
  N:List Str
  s₀:Shared
  H₀:Hp
  env:Env
  outer:List Env
  stack:List Env
  ex:List Addr
  fn:Str→Bool
  calm:Bool
  pn:List (Addr × Obj)
  xe:Value→Shared→Prop
noncomputable def frs (l:List Env):List Addr:=l.filterMap (·.frame)
noncomputable abbrev Cx.fs (X:Cx):List Addr:=frs X.outer
noncomputable def Vis (sc:Scope) (x:Str):Prop:=sc.names.lookup x=some .local ∨ sc.names.lookup x=some .cell ∨ sc.names.lookup x=some .free
noncomputable def Loc (sc:Scope) (x:Str):Prop:=sc.names.lookup x=some .local ∨ sc.names.lookup x=some .cell
noncomputable def Look (env:Env) (h:Heap) (m:Str→Option Value) (x:Str) (u:Value):Prop :=
  (env.kindOf x=some .local∧m x=some u) ∨ ((env.kindOf x=some .cell ∨ env.kindOf x=some .free)∧∃ c,env.cells.lookup x=some c∧h.IsCell c (some u))
structure Cx.Ok (X:Cx):Prop where
  mod:Mod X.K X.mg X.base
  kind:X.env.scope.kind=.function
  glob:X.env.globals=mainGlobals
  blt:X.env.builtins=builtinsNs
  above:X.s₀.heap.objs.size≤X.env.locals
  inj:∀ x y c,X.env.cells.lookup x=some c→X.env.cells.lookup y=some c→x=y
  has:∀ x,(X.env.kindOf x=some .cell ∨ X.env.kindOf x=some .free)→∃ c,X.env.cells.lookup x=some c
  cab:∀ x c,X.fn x=true→X.env.cells.lookup x=some c→X.s₀.heap.objs.size≤c
  hd:X.calm=true→X.A.handled=none
  frames:X.A.frames=some X.stack
  stk:X.stack=X.outer ∨ (X.stack=X.env :: X.outer∧X.env.frame=some X.env.locals)
  exf:∀ b∈X.ex,b≠X.env.locals∧∀ x c,X.env.cells.lookup x=some c→c≠b
  bs:∀ b o,X.base.get? b=some o→X.s₀.heap.get? b=some o∧X.H₀ b=none
  bsz:X.base.objs.size≤X.s₀.heap.objs.size
  noex:∀ b o,X.base.get? b=some o→b ∉ X.ex
  exfs:∀ b∈X.ex,b ∉ X.fs
  funs:X.s₀.heap.FunFrames X.base X.outer
  frf:∀ b∈X.fs,X.H₀ b=none
structure Inv (X:Cx) (pins:List (Addr × Obj)) (σ:List (Option V)) (H:Hp) (s:Shared):Prop where
  ok:X.Ok
  os:s.os=X.s₀.os
  bare:AllBare s.gens
  base:Un X.fs X.ex X.H₀ H X.s₀.heap s.heap
  loc:∃ m,s.heap.Ns X.env.locals m∧∀ (i:Nat) (x:Str) (v:V),X.N[i]?=some x→σ[i]?=some (some v)→Vis X.env.scope x→∃ u,RelV v u∧Look X.env s.heap m x u
  cell:∀ x c,X.env.cells.lookup x=some c→∃ v,s.heap.IsCell c v
  free:H X.env.locals=none
  freeC:∀ x c,X.env.cells.lookup x=some c→H c=none
  pin:∀ p∈X.pn ++ pins,s.heap.get? p.1=some p.2∧H p.1=none∧p.1≠X.env.locals∧p.1 ∉ X.fs∧∀ v,p.2.data≠.cell v
  hok:HOk X.prog X.w H s.heap
  len:σ.length=X.N.length
section
variable {X:Cx} {pins:List (Addr × Obj)} {σ:List (Option V)} {H H':Hp} {s:Shared} {h':Heap}
theorem Cx.Ok.nofr (ok:X.Ok) {b:Addr} {o:Obj} (e:X.base.get? b=some o):b ∉ X.fs:=fun hb=>by
  have:=(ok.funs.mem hb).1
  rw [e] at this; cases this
theorem Inv.bs (I:Inv X pins σ H s):∀ b o,X.base.get? b=some o→s.heap.get? b=some o∧H b=none:=fun b o e =>
  ⟨I.base.keep b o (I.ok.bs b o e).1 (I.ok.bs b o e).2 (I.ok.nofr e) (I.ok.noex b o e),I.base.free b o (I.ok.bs b o e).1 (I.ok.bs b o e).2 (I.ok.noex b o e)⟩
theorem Inv.bk (I:Inv X pins σ H s):∀ b o,X.base.get? b=some o→s.heap.get? b=some o:=fun b o e=>(I.bs b o e).1
theorem Inv.mod (I:Inv X pins σ H s):Mod X.K X.mg X.base:=I.ok.mod
theorem Inv.kIn (I:Inv X pins σ H s):X.K.In s.heap:=I.ok.mod.kin.keeps I.bk
theorem Inv.lt (I:Inv X pins σ H s):X.env.locals < s.heap.objs.size:=let ⟨_,hn,_⟩:=I.loc; hn.lt
theorem Inv.sz (I:Inv X pins σ H s):X.s₀.heap.objs.size≤s.heap.objs.size:=Nat.le_trans I.ok.above (Nat.le_of_lt I.lt)
theorem Inv.nofs (I:Inv X pins σ H s) {a:Addr} (h:s.heap.objs.size≤a):a ∉ X.fs:=fun hb=>by
  obtain ⟨_,o,ho,_⟩:=I.ok.funs.mem hb
  exact absurd (Nat.lt_of_lt_of_le (Heap.lt_size ho) (Nat.le_trans I.sz h)) (Nat.lt_irrefl _)
theorem Inv.cne (I:Inv X pins σ H s):∀ x c,X.env.cells.lookup x=some c→c≠X.env.locals:=fun x c e z=>by
  obtain ⟨v,o,ho,hd⟩:=I.cell x c e
  obtain ⟨m,⟨o',es,ep,ho',hd',_⟩,_⟩:=I.loc
  rw [z,ho'] at ho; cases ho; rw [hd'] at hd; cases hd
theorem Inv.funs (I:Inv X pins σ H s):s.heap.FunFrames X.base X.outer:=by
  have all:∀ (l:List Env),(∀ b∈frs l,b∈X.fs)→X.s₀.heap.FunFrames X.base l→s.heap.FunFrames X.base l:=by
    intro l
    induction l with
    | nil=>intro _ _; trivial
    | cons env r ih =>
      intro hs hl
      obtain ⟨hk,⟨L,o,hf,hn,ho,hd⟩,hr⟩:=hl
      have hL:L∈X.fs:=hs L (by unfold frs; rw [List.filterMap_cons,hf]; exact List.mem_cons_self)
      obtain ⟨sl,e⟩:=I.base.slot L o ho (I.ok.frf L hL) hL fun z=>I.ok.exfs L z hL
      exact ⟨hk,⟨L,_,hf,hn,e,hd⟩,ih (fun b hb=>hs b (by unfold frs; rw [List.filterMap_cons,hf]; exact List.mem_cons_of_mem _ hb)) hr⟩
  exact all X.outer (fun _ hb=>hb) I.ok.funs
theorem Inv.stack (I:Inv X pins σ H s):s.heap.FunFrames X.base X.stack:=by
  rcases I.ok.stk with e | ⟨e,hf⟩
  · rw [e]; exact I.funs
  · rw [e]
    obtain ⟨m,hn,_⟩:=I.loc
    refine .cons (by rw [I.ok.kind]; decide) hf hn ?_ I.funs
    exact Heap.get?_none_of_le (Nat.le_trans I.ok.bsz I.ok.above)
theorem Inv.stkSub (I:Inv X pins σ H s):∀ b∈frs X.stack,b∈X.env.locals :: X.fs:=fun b hb=>by
  rcases I.ok.stk with e | ⟨e,hf⟩
  · rw [e] at hb; exact List.mem_cons_of_mem _ hb
  · rw [e] at hb
    unfold frs at hb
    rw [List.filterMap_cons,hf] at hb
    exact hb
theorem Inv.stkFree (I:Inv X pins σ H s):∀ b∈frs X.stack,H b=none:=fun b hb=>by
  rcases List.mem_cons.mp (I.stkSub b hb) with e | hb
  · rw [e]; exact I.free
  · obtain ⟨_,o,ho,_⟩:=I.ok.funs.mem hb
    exact I.base.free b o ho (I.ok.frf b hb) fun z=>I.ok.exfs b z hb
theorem Inv.step {g':Array GenState} {t':Nat} {d':Drawn} {ch:List Addr} (I:Inv X pins σ H s)
    (hch:∀ b∈ch,(b∈X.ex ∨ X.s₀.heap.objs.size≤b)∧b≠X.env.locals∧(∀ x c,X.env.cells.lookup x=some c→c≠b)∧∀ p∈X.pn ++ pins,p.1≠b)
    (keep:∀ b o,b≠X.env.locals→b ∉ X.fs→b ∉ ch→s.heap.get? b=some o→H b=none→h'.get? b=some o)
    (slot:∀ b o,b≠X.env.locals→b∈X.fs→b ∉ ch→s.heap.get? b=some o→H b=none→∃ sl,h'.get? b=some { o with slots:=sl }) (free:∀ b o,b ∉ ch→s.heap.get? b=some o→H b=none→H' b=none)
    (there:∀ b o,b ∉ ch→s.heap.get? b=some o→∃ o',h'.get? b=some o')
    (tups:∀ b xs,H b=some (.tup xs)→H' b=some (.tup xs)) (frzs:∀ b o u,H b=some (.frz o u)→H' b=some (.frz o u)) (tbls:∀ b ps,H b=some (.tbl ps)→∃ more,H' b=some (.tbl (ps ++ more)))
    (ns:∀ m,s.heap.Ns X.env.locals m→h'.Ns X.env.locals m) (hok:HOk X.prog X.w H' h') (hg:AllBare g') :
    Inv X pins σ H' { s with heap:=h',gens:=g',drawn:=d',toks:=t' }:=by
  have neL:∀ b o,X.s₀.heap.get? b=some o→b≠X.env.locals:=fun b o e=>Nat.ne_of_lt (Nat.lt_of_lt_of_le (Heap.lt_size e) I.ok.above)
  have neC:∀ b o,X.s₀.heap.get? b=some o→b ∉ X.ex→b ∉ ch:=fun b o e hx hb=>by
    rcases (hch b hb).1 with z | z
    · exact hx z
    · exact absurd (Nat.lt_of_lt_of_le (Heap.lt_size e) z) (Nat.lt_irrefl _)
  have cellK:∀ x c,X.env.cells.lookup x=some c→∀ v,s.heap.IsCell c v→h'.IsCell c v:=fun x c e v ⟨o,ho,hd⟩=>by
    have nch:c ∉ ch:=fun z=>(hch c z).2.2.1 x c e rfl
    by_cases hc:c∈X.fs
    · obtain ⟨sl,q⟩:=slot c o (I.cne x c e) hc nch ho (I.freeC x c e)
      exact ⟨_,q,hd⟩
    · exact ⟨o,keep c o (I.cne x c e) hc nch ho (I.freeC x c e),hd⟩
  refine ⟨I.ok,I.os,hg,⟨fun b o e n hb hx=>?_,fun b o e n hb hx=>?_,fun b o e n hx=>?_,fun b o e hx=>?_,fun b xs e=>tups b xs (I.base.tups b xs e),fun b o xs e=>frzs b o xs (I.base.frzs b o xs e),fun b ps e=>?_⟩, ?_,fun x c e=>?_, ?_,fun x c e=>?_,fun p hp=>?_,hok,I.len⟩
  · exact keep b o (neL b o e) hb (neC b o e hx) (I.base.keep b o e n hb hx) (I.base.free b o e n hx)
  · obtain ⟨sl,e1⟩:=I.base.slot b o e n hb hx
    obtain ⟨sl',e2⟩:=slot b _ (neL b o e) hb (neC b o e hx) e1 (I.base.free b o e n hx)
    exact ⟨sl',e2⟩
  · obtain ⟨o',e1⟩:=I.base.there b o e hx
    exact free b o' (neC b o e hx) e1 (I.base.free b o e n hx)
  · obtain ⟨o',e1⟩:=I.base.there b o e hx
    exact there b o' (neC b o e hx) e1
  · obtain ⟨m1,e1⟩:=I.base.tbls b ps e
    obtain ⟨m2,e2⟩:=tbls b _ e1
    exact ⟨m1 ++ m2,by rw [e2,Array.append_assoc]⟩
  · obtain ⟨m,hn,hl⟩:=I.loc
    refine ⟨m,ns m hn,fun i x v e1 e2 e3=>?_⟩
    obtain ⟨u,r,l⟩:=hl i x v e1 e2 e3
    refine ⟨u,r, ?_⟩
    rcases l with l | ⟨k,c,e,z⟩
    · exact .inl l
    · exact .inr ⟨k,c,e,cellK x c e _ z⟩
  · obtain ⟨v,z⟩:=I.cell x c e
    exact ⟨v,cellK x c e v z⟩
  · obtain ⟨m,⟨o,_,_,ho,_⟩,_⟩:=I.loc
    exact free _ o (fun z=>(hch _ z).2.1 rfl) ho I.free
  · obtain ⟨v,o,ho,hd⟩:=I.cell x c e
    exact free c o (fun z=>(hch c z).2.2.1 x c e rfl) ho (I.freeC x c e)
  · obtain ⟨e,n,ne,nf,d⟩:=I.pin p hp
    have nch:p.1 ∉ ch:=fun z=>(hch p.1 z).2.2.2 p hp rfl
    exact ⟨keep p.1 p.2 ne nf nch e n,free p.1 p.2 nch e n,ne,nf,d⟩
theorem Inv.un {t':Nat} (I:Inv X pins σ H s) (u:Un X.fs [] H H' s.heap h') (hok:HOk X.prog X.w H' h'):Inv X pins σ H' { s with heap:=h',toks:=t' }:=by
  obtain ⟨m,⟨o,es,ep,ho,r⟩,_⟩:=id I.loc
  obtain ⟨sl,hL⟩:=u.any ho I.free (by simp)
  exact I.step (g':=s.gens) (d':=s.drawn) (ch:=[]) (fun _ z=>nomatch z) (fun b o _ hb _ e n=>u.keep b o e n hb (by simp)) (fun b o _ hb _ e n=>u.slot b o e n hb (by simp)) (fun b o _ e n=>u.free b o e n (by simp)) (fun b o _ e=>u.there b o e (by simp)) u.tups u.frzs u.tbls (fun m' hm=>by
    obtain ⟨o',es',ep',ho',r'⟩:=hm
    rw [ho] at ho'; cases ho'
    exact ⟨_,es',ep',hL,r'⟩) hok I.bare
theorem Inv.call {g':Array GenState} {t':Nat} {d':Drawn} {ch:List Addr} (I:Inv X pins σ H s) (u:Un (frs X.stack) ch H H' s.heap h') (hok:HOk X.prog X.w H' h') (hg:AllBare g')
    (hch:∀ b∈ch,(b∈X.ex ∨ X.s₀.heap.objs.size≤b)∧b≠X.env.locals∧(∀ x c,X.env.cells.lookup x=some c→c≠b)∧∀ p∈X.pn ++ pins,p.1≠b) :
    Inv X pins σ H' { s with heap:=h',gens:=g',drawn:=d',toks:=t' }:=by
  obtain ⟨m,⟨o,es,ep,ho,r⟩,_⟩:=id I.loc
  obtain ⟨sl,hL⟩:=u.any ho I.free fun z=>(hch _ z).2.1 rfl
  exact I.step (ch:=ch) hch (fun b o hL hb hc e n=>u.keep b o e n (fun z=>(List.mem_cons.mp (I.stkSub b z)).elim hL hb) hc) (fun b o _ _ hc e n=>u.any e n hc) (fun b o hc e n=>u.free b o e n hc) (fun b o hc e=>u.there b o e hc) u.tups u.frzs u.tbls (fun m' hm=>by
    obtain ⟨o',es',ep',ho',r'⟩:=hm
    rw [ho] at ho'; cases ho'
    exact ⟨_,es',ep',hL,r'⟩) hok hg
theorem Inv.turned {t':Nat} {it:Addr} (I:Inv X pins σ H s) (k:∀ b o,b≠it→s.heap.get? b=some o→h'.get? b=some o) (hn:H it=none) (hL:it≠X.env.locals)
    (h1:it∈X.ex ∨ X.s₀.heap.objs.size≤it) (h2:∀ x c,X.env.cells.lookup x=some c→c≠it) (h3:∀ p∈X.pn ++ pins,p.1≠it):Inv X pins σ H { s with heap:=h',toks:=t' }:=by
  have nit:∀ b u,H b=some u→b≠it:=fun b u e z=>by rw [z,hn] at e; cases e
  refine I.step (g':=s.gens) (d':=s.drawn) (ch:=[it]) (fun b hb=>?_) (fun b o _ _ hc e _=>k b o (fun z=>hc (by simp [z])) e) (fun b o _ _ hc e _=>⟨o.slots,k b o (fun z=>hc (by simp [z])) e⟩) (fun _ _ _ _ n=>n)
    (fun b o hc e=>⟨o,k b o (fun z=>hc (by simp [z])) e⟩) (fun _ _ e=>e) (fun _ _ _ e=>e) (fun b ps e=>⟨#[],by rw [e]; simp⟩) (fun m hm=>?_) (fun b u e=>?_) I.bare
  · have e:b=it:=by simpa using hb
    subst e
    exact ⟨h1,hL,h2,h3⟩
  · obtain ⟨o,es,ep,ho,r⟩:=hm
    exact ⟨o,es,ep,k _ o (Ne.symm hL) ho,r⟩
  · refine (I.hok b u e).stay (fun c v hc q=>k c v ?_ q) (fun _ q=>q) fun _ _ q=>q
    rcases hc with z | z
    · rw [z]; exact nit b u e
    · exact nit c _ z
theorem Inv.tok (I:Inv X pins σ H s) (t:Nat):Inv X pins σ H { s with toks:=t }:=I.un (h':=s.heap) (t':=t) Un.refl I.hok
theorem Inv.kept {t':Nat} (I:Inv X pins σ H s) (k:∀ b u,s.heap.get? b=some u→h'.get? b=some u):Inv X pins σ H { s with heap:=h',toks:=t' }:=I.un (Un.kept k) (I.hok.kept k)
theorem Inv.laid {a:Addr} {o:HO} {t':Nat} (I:Inv X pins σ H s) (k:∀ b u,s.heap.get? b=some u→h'.get? b=some u) (hp:s.heap.objs.size≤a) (new:ObjOk X.prog X.w (upd H a o) h' a o) :
    Inv X pins σ (upd H a o) { s with heap:=h',toks:=t' }:=I.un (Un.laid k hp (I.hok.fresh hp)) (I.hok.laid k hp new)
theorem Inv.write {x e:Addr} {o:HO} {t':Nat} (I:Inv X pins σ H s) (mu:Mut (H x)) (he:e=x ∨ H e=some (.own x)) (k:∀ b u,b≠e→s.heap.get? b=some u→h'.get? b=some u) (heo:∃ u,h'.get? e=some u)
    (new:ObjOk X.prog X.w (upd H x o) h' x o):Inv X pins σ (upd H x o) { s with heap:=h',toks:=t' }:=I.un (Un.write mu he k heo) (I.hok.write mu he k heo new)
theorem Inv.pins_of {pins':List (Addr × Obj)} (I:Inv X pins σ H s) (h:∀ p∈pins',s.heap.get? p.1=some p.2∧H p.1=none∧p.1≠X.env.locals∧p.1 ∉ X.fs∧∀ v,p.2.data≠.cell v):Inv X pins' σ H s :=
  ⟨I.ok,I.os,I.bare,I.base,I.loc,I.cell,I.free,I.freeC,fun p hp=>(List.mem_append.mp hp).elim (fun z=>I.pin p (List.mem_append_left _ z)) (h p),I.hok,I.len⟩
theorem nodup_ix {N:List Str} (hN:N.Nodup) {i j:Nat} {x:Str} (a:N[i]?=some x) (b:N[j]?=some x):i=j:=by
  obtain ⟨h1,e1⟩:=List.getElem?_eq_some_iff.mp a
  obtain ⟨h2,e2⟩:=List.getElem?_eq_some_iff.mp b
  exact (List.getElem_inj hN).mp (e1.trans e2.symm)
theorem store_ok2 {M:Model} {A:Around} {E:Value→Shared→Prop} {i:Nat} {x:Str} {v:V} {u:Value} {Q:Unit→Shared→Prop} (I:Inv X pins σ H s) (hN:X.N.Nodup) (hi:X.N[i]?=some x) (hx:Loc X.env.scope x) (r:RelV v u)
    (h:∀ s',Inv X pins (σ.set i (some v)) H s'→(∃ a,Heap.SameBut a s.heap s'.heap∧(a=X.env.locals ∨ X.env.cells.lookup x=some a))→Q () s') (hf:X.fn x=true ∨ X.env.scope.names.lookup x=some .local):wpAny M A (storeName X.env x u) Q E s:=by
  obtain ⟨m,hn,hl⟩:=id I.loc
  have hcls:(X.env.scope.kind == .class || (X.env.scope.kind == .module && X.env.locals != X.env.globals))=false:=by rw [I.ok.kind]; rfl
  have hiσ:i < σ.length:=by rw [I.len]; exact (List.getElem?_eq_some_iff.mp hi).1
  have cne:=I.cne
  have tracked:∀ {a:Addr} {h':Heap},(∃ o,s.heap.get? a=some o∧H a=none)→Heap.SameBut a s.heap h'→HOk X.prog X.w H h':=fun {a h'} ha hs b ob e=>by
    obtain ⟨_,_,hfree⟩:=ha
    refine (I.hok b ob e).stay (fun c w' hc q=>(hs.2 c ?_).trans q) (fun _ q=>q) fun _ _ q=>q
    rintro rfl
    rcases hc with rfl | hc
    · rw [hfree] at e; cases e
    · rw [hfree] at hc; cases hc
  rcases hx with hk | hk
  · refine wpAny_storeName_local hk hn (fun h' hn' hs=>?_) hcls
    obtain ⟨oL,_,_,hoL,_⟩:=id hn
    refine h _ ⟨I.ok,I.os,I.bare,⟨fun b o e n hb hx=>?_,fun b o e n hb hx=>?_,I.base.free,fun b o e hx=>?_,I.base.tups,I.base.frzs,I.base.tbls⟩,⟨_,hn',fun j y v' e1 e2 e3=>?_⟩,fun y c e=>?_,I.free,I.freeC,fun p hp=>?_,tracked ⟨oL,hoL,I.free⟩ hs,by simpa using I.len⟩ ⟨_,hs,.inl rfl⟩
    · exact (hs.2 b (Nat.ne_of_lt (Nat.lt_of_lt_of_le (Heap.lt_size e) I.ok.above))).trans (I.base.keep b o e n hb hx)
    · obtain ⟨sl,e1⟩:=I.base.slot b o e n hb hx
      exact ⟨sl,(hs.2 b (Nat.ne_of_lt (Nat.lt_of_lt_of_le (Heap.lt_size e) I.ok.above))).trans e1⟩
    · obtain ⟨o',e1⟩:=I.base.there b o e hx
      exact ⟨o',(hs.2 b (Nat.ne_of_lt (Nat.lt_of_lt_of_le (Heap.lt_size e) I.ok.above))).trans e1⟩
    · by_cases hj:j=i
      · subst hj
        rw [hi] at e1; cases e1
        rw [List.getElem?_set_self hiσ] at e2
        cases e2
        exact ⟨u,r,.inl ⟨hk,by simp⟩⟩
      · rw [List.getElem?_set_ne (Ne.symm hj)] at e2
        obtain ⟨u',r',q⟩:=hl j y v' e1 e2 e3
        refine ⟨u',r', ?_⟩
        rcases q with ⟨k,e⟩ | ⟨k,c,e,z⟩
        · refine .inl ⟨k, ?_⟩
          have:y≠x:=fun e=>hj (nodup_ix hN e1 (e ▸ hi))
          simp [this,e]
        · exact .inr ⟨k,c,e,z.sameBut hs (cne y c e)⟩
    · obtain ⟨w',z⟩:=I.cell y c e
      exact ⟨w',z.sameBut hs (cne y c e)⟩
    · obtain ⟨e,n,ne,nf,d⟩:=I.pin p hp
      exact ⟨(hs.2 p.1 ne).trans e,n,ne,nf,d⟩
  · have hfn:X.fn x=true:=by
      rcases hf with z | z
      · exact z
      · rw [z] at hk; cases hk
    obtain ⟨c,hc⟩:=I.ok.has x (.inl hk)
    obtain ⟨w',z⟩:=I.cell x c hc
    refine wpAny_storeName_cell I.ok.kind hk hc z (fun h' hc' hs=>?_)
    obtain ⟨oc,hoc,hocd⟩:=id z
    refine h { s with heap:=h' } ⟨I.ok,I.os,I.bare,⟨fun b o e n hb hx=>?_,fun b o e n hb hx=>?_,I.base.free,fun b o e hx=>?_,I.base.tups,I.base.frzs,I.base.tbls⟩,⟨m,hn.sameBut hs (Ne.symm (cne x c hc)),fun j y v' e1 e2 e3=>?_⟩,fun y c' e=>?_,I.free,I.freeC,fun p hp=>?_,tracked ⟨oc,hoc,I.freeC x c hc⟩ hs,by simpa using I.len⟩ ⟨c,hs,.inr hc⟩
    · exact (hs.2 b (Nat.ne_of_lt (Nat.lt_of_lt_of_le (Heap.lt_size e) (I.ok.cab x c hfn hc)))).trans (I.base.keep b o e n hb hx)
    · obtain ⟨sl,e1⟩:=I.base.slot b o e n hb hx
      exact ⟨sl,(hs.2 b (Nat.ne_of_lt (Nat.lt_of_lt_of_le (Heap.lt_size e) (I.ok.cab x c hfn hc)))).trans e1⟩
    · obtain ⟨o',e1⟩:=I.base.there b o e hx
      exact ⟨o',(hs.2 b (Nat.ne_of_lt (Nat.lt_of_lt_of_le (Heap.lt_size e) (I.ok.cab x c hfn hc)))).trans e1⟩
    · by_cases hj:j=i
      · subst hj
        rw [hi] at e1; cases e1
        rw [List.getElem?_set_self hiσ] at e2
        cases e2
        exact ⟨u,r,.inr ⟨.inl hk,c,hc,hc'⟩⟩
      · rw [List.getElem?_set_ne (Ne.symm hj)] at e2
        obtain ⟨u',r',q⟩:=hl j y v' e1 e2 e3
        refine ⟨u',r', ?_⟩
        rcases q with q | ⟨k,c',e,z'⟩
        · exact .inl q
        · refine .inr ⟨k,c',e,z'.sameBut hs ?_⟩
          rintro rfl
          exact hj (nodup_ix hN e1 (I.ok.inj _ _ _ e hc ▸ hi))
    · by_cases hcc:c'=c
      · subst hcc; exact ⟨_,hc'⟩
      · obtain ⟨w2,z2⟩:=I.cell y c' e
        exact ⟨w2,z2.sameBut hs hcc⟩
    · obtain ⟨e,n,ne,nf,d⟩:=I.pin p hp
      refine ⟨(hs.2 p.1 ?_).trans e,n,ne,nf,d⟩
      intro q
      rw [q,hoc] at e
      have q':oc=p.2:=Option.some.inj e
      exact d w' (by rw [← q']; exact hocd)
theorem store_ok {M:Model} {A:Around} {E:Value→Shared→Prop} {i:Nat} {x:Str} {v:V} {u:Value} {Q:Unit→Shared→Prop} (I:Inv X pins σ H s) (hN:X.N.Nodup) (hi:X.N[i]?=some x) (hx:Loc X.env.scope x) (r:RelV v u)
    (h:∀ s',Inv X pins (σ.set i (some v)) H s'→Q () s') (hf:X.fn x=true ∨ X.env.scope.names.lookup x=some .local):wpAny M A (storeName X.env x u) Q E s :=
  store_ok2 I hN hi hx r (fun s' I' _=>h s' I') hf
theorem Inv.call' {s':Shared} {ch:List Addr} (I:Inv X pins σ H s) (ho:s'.os=s.os) (u:Un (frs X.stack) ch H H' s.heap s'.heap) (hok:HOk X.prog X.w H' s'.heap) (hg:AllBare s'.gens)
    (hch:∀ b∈ch,(b∈X.ex ∨ X.s₀.heap.objs.size≤b)∧b≠X.env.locals∧(∀ x c,X.env.cells.lookup x=some c→c≠b)∧∀ p∈X.pn ++ pins,p.1≠b):Inv X pins σ H' s':=by
  obtain ⟨h',g',d',t',o'⟩:=s'
  have e:o'=s.os:=ho
  subst e
  exact I.call (g':=g') (t':=t') (d':=d') u hok hg hch
end
noncomputable abbrev XK:=Value→Option Addr→Hp→Prop
noncomputable abbrev St:=List (Option V)
noncomputable abbrev VK:=V→Hp→Prop
noncomputable abbrev TE:=St→Hp→VK→Prop
noncomputable abbrev TT:=St→Hp→(Bool→Hp→Prop)→Prop
noncomputable abbrev TA:=St→Hp→(List V→Hp→Prop)→Prop
structure Ends where
  nx:St→Hp→Prop
  rt:VK
  bk:St→Hp→Prop:=fun _ _=>False
  ct:St→Hp→Prop:=fun _ _=>False
noncomputable abbrev TS:=Ends→St→Hp→Prop
noncomputable def EP (X:Cx) (pins:List (Addr × Obj)) (σ:St) (Q:VK) (u:Value) (s':Shared):Prop:=∃ v H',Inv X pins σ H' s'∧RelV v u∧Q v H'
noncomputable def TP (X:Cx) (pins:List (Addr × Obj)) (σ:St) (Q:Bool→Hp→Prop) (b:Bool) (s':Shared):Prop:=∃ H',Inv X pins σ H' s'∧Q b H'
noncomputable def AP (X:Cx) (pins:List (Addr × Obj)) (σ:St) (Q:List V→Hp→Prop) (us:List Value) (s':Shared):Prop:=∃ vs H',Inv X pins σ H' s'∧Vals vs us∧Q vs H'
noncomputable def SP (X:Cx) (pins:List (Addr × Obj)) (D:Ends) (f:Flow) (s':Shared):Prop :=
  match f with
  | .next=>∃ σ' H',Inv X pins σ' H' s'∧D.nx σ' H'
  | .brk=>∃ σ' H',Inv X pins σ' H' s'∧D.bk σ' H'
  | .cont=>∃ σ' H',Inv X pins σ' H' s'∧D.ct σ' H'
  | .ret u=>∃ v σ' H',Inv X pins σ' H' s'∧RelV v u∧D.rt v H'
noncomputable def PE (X:Cx) (e:Expr) (t:TE):Prop :=
  ∀ (pins:List (Addr × Obj)) (s:Shared) (σ:St) (H:Hp) (Q:VK),Inv X pins σ H s→t σ H Q→wpAny (model X.prog X.w) X.A (eval e X.env) (EP X pins σ Q) X.xe s
noncomputable def PT (X:Cx) (e:Expr) (t:TT):Prop :=
  ∀ (pins:List (Addr × Obj)) (s:Shared) (σ:St) (H:Hp) (Q:Bool→Hp→Prop),Inv X pins σ H s→t σ H Q→wpAny (model X.prog X.w) X.A (isTrue e X.env (eval e X.env)) (TP X pins σ Q) X.xe s
noncomputable def PW (X:Cx) (e:Expr) (t:TT):Prop :=
  ∀ (whole:Sem Value) (pins:List (Addr × Obj)) (s:Shared) (σ:St) (H:Hp) (Q:Bool→Hp→Prop),Inv X pins σ H s→t σ H Q→wpAny (model X.prog X.w) X.A (isTrue e X.env whole) (TP X pins σ Q) X.xe s
theorem PW.pt {X:Cx} {e:Expr} {t:TT} (h:PW X e t):PT X e t:=h _
noncomputable def PA (X:Cx) (es:List Expr) (t:TA):Prop :=
  ∀ (pos:Pos) (pins:List (Addr × Obj)) (s:Shared) (σ:St) (H:Hp) (Q:List V→Hp→Prop),Inv X pins σ H s→t σ H Q→wpAny (model X.prog X.w) X.A (spliced (backTo pos (starEach es X.env))) (AP X pins σ Q) X.xe s
noncomputable def PS (X:Cx) (st:Stmt) (t:TS):Prop :=
  ∀ (pins:List (Addr × Obj)) (s:Shared) (σ:St) (H:Hp) (D:Ends),Inv X pins σ H s→t D σ H→wpAny (model X.prog X.w) X.A (exec st X.env) (SP X pins D) X.xe s
noncomputable def PSs (X:Cx) (st:List Stmt) (t:TS):Prop :=
  ∀ (pins:List (Addr × Obj)) (s:Shared) (σ:St) (H:Hp) (D:Ends),Inv X pins σ H s→t D σ H→wpAny (model X.prog X.w) X.A (execs st X.env) (SP X pins D) X.xe s
theorem thn {α:Type} {t:Sem α} {Q Q':α→Shared→Prop} {M:Model} {A:Around} {E:Value→Shared→Prop} {s:Shared} (h:wpAny M A t Q E s) (hQ:∀ a s,Q a s→Q' a s):wpAny M A t Q' E s:=wpAny_mono h hQ fun _ _ x=>x
end L2
namespace L2
open PySem PySem.Spec PyProof.Rows
section
variable {X:Cx}
noncomputable def tVar (i:Nat):TE:=fun σ H Q=>∃ v,σ[i]?=some (some v)∧Q v H
noncomputable def tC (v:V):TE:=fun _ H Q=>Q v H
theorem pe_var {i:Nat} {x:Str} {pos:Pos} (hN:X.N[i]?=some x) (hv:Vis X.env.scope x) (hd:(x == ("__debug__":Str))=false:=by decide) (hcd:(x == ("__classdict__":Str))=false:=by decide):PE X (.Name x pos) (tVar i):=by
  intro pins s σ H Q I h
  obtain ⟨v,e,h⟩:=h
  obtain ⟨m,hn,hl⟩:=I.loc
  obtain ⟨u,r,l⟩:=hl i x v hN e hv
  have fin:EP X pins σ Q u s:=⟨v,H,I,r,h⟩
  rcases l with ⟨hk,hm⟩ | ⟨hk,c,hc,hcell⟩
  · exact wpAny_Name (wpAny_loadName_local I.ok.kind hk hn hm fin) hd
  · rcases hk with hk | hk
    · exact wpAny_Name (wpAny_loadName_cell I.ok.kind hk hc hcell fin) hd
    · exact wpAny_Name (wpAny_loadName_free I.ok.kind hk hc hcell fin hcd) hd
theorem pe_int {i j pos}:PE X (.Constant (.int i) j pos) (tC (.int i)):=fun _ _ _ H _ I h=>wpAny_Constant_int ⟨.int i,H,I.tok _,⟨_,rfl⟩,h⟩
theorem pe_bl {b j pos}:PE X (.Constant (.bool b) j pos) (tC (.bl b)):=fun _ _ _ H _ I h=>Constant_bool ⟨.bl b,H,I,rfl,h⟩
theorem pe_str {x j pos}:PE X (.Constant (.str x) j pos) (tC (.str x)):=fun _ _ _ H _ I h=>Calls.Constant_str ⟨.str x,H,I.tok _,⟨_,rfl⟩,h⟩
noncomputable def Gl (X:Cx) (x:Str):Prop:=X.env.kindOf x=some .globalImplicit
theorem ld_glob {E:Value→Shared→Prop} {pins:List (Addr × Obj)} {s:Shared} {σ:St} {H:Hp} {x:Str} {u:Value} {pos:Pos} {Q:Value→Shared→Prop} (I:Inv X pins σ H s) (hg:Gl X x) (hm:X.mg x=some u) (h:Q u s)
    (hd:(x == ("__debug__":Str))=false:=by decide):wpAny (model X.prog X.w) X.A (eval (.Name x pos) X.env) Q E s :=
  Calls.Name_function_global I.ok.kind hg (Calls.loadGlobal_global (by rw [I.ok.glob]; exact I.mod.glob.keeps I.bk) hm h) hd
theorem ld_blt {E:Value→Shared→Prop} {pins:List (Addr × Obj)} {s:Shared} {σ:St} {H:Hp} {x:Str} {u:Value} {pos:Pos} {Q:Value→Shared→Prop} (I:Inv X pins σ H s) (hg:Gl X x) (hm:X.mg x=none) (hv:bootBuiltins x=some u) (h:Q u s)
    (hn:x ≠ "__name__":=by decide) (hd:(x == ("__debug__":Str))=false:=by decide):wpAny (model X.prog X.w) X.A (eval (.Name x pos) X.env) Q E s:=by
  obtain ⟨mb,h1,h2⟩:=I.mod.blt
  exact Calls.Name_function_global I.ok.kind hg (Calls.loadGlobal_builtin (by rw [I.ok.glob]; exact I.mod.glob.keeps I.bk) hm (by rw [I.ok.blt]; exact h1.keeps I.bk) ((h2 x hn).trans hv) h) hd
theorem pe_glob {x:Str} {v:V} {u:Value} {pos:Pos} (hg:Gl X x) (hm:X.mg x=some u) (r:RelV v u) (hd:(x == ("__debug__":Str))=false:=by decide):PE X (.Name x pos) (tC v) :=
  fun _ _ _ H _ I h=>ld_glob I hg hm ⟨v,H,I,r,h⟩ hd
theorem pe_bltn {x:Str} {v:V} {u:Value} {pos:Pos} (hg:Gl X x) (hm:X.mg x=none) (hv:bootBuiltins x=some u) (r:RelV v u) (hn:x ≠ "__name__":=by decide) (hd:(x == ("__debug__":Str))=false:=by decide):PE X (.Name x pos) (tC v) :=
  fun _ _ _ H _ I h=>ld_blt I hg hm hv ⟨v,H,I,r,h⟩ hn hd
variable {a b:Expr} {ta tb:TE} {pos:Pos}
noncomputable def tB (t:TE):TT:=fun σ H Q=>t σ H fun x H1=>∃ c,x=.bl c∧Q c H1
theorem pt_val {e:Expr} {t:TE} (h:PE X e t) (he:∀ whole,isTrue e X.env whole=(do let v ← whole; standAt e.pos; holding [v] (truthy v)):=by exact fun _=>rfl):PT X e (tB t):=by
  intro pins s σ H Q I hw
  refine isTrue_plain (thn (h pins s σ H _ I hw) fun v s1 ⟨x,H1,I1,r1,q1⟩=>?_) (he _)
  obtain ⟨d,rfl,q⟩:=q1
  cases r1
  exact wpAny_truthy_bool ⟨H1,I1,q⟩
variable {tA tB':TT} {rest:List Expr}
noncomputable def tAnd (t u:TT):TT:=fun σ H Q=>t σ H fun c H1=>if c=true then u σ H1 Q else Q false H1
noncomputable def tOr (t u:TT):TT:=fun σ H Q=>t σ H fun c H1=>if c=true then Q true H1 else u σ H1 Q
noncomputable def tNot (t:TT):TT:=fun σ H Q=>t σ H fun c H1=>Q (!c) H1
theorem pw_and1 (ha:PT X a tA):PW X (.BoolOp .And [a] pos) tA:=by
  intro wh pins s σ H Q I h
  refine isTrue_and (thn (ha pins s σ H Q I h) fun c s1 e=>?_)
  cases c with
  | true=>exact isTrue_and_nil e
  | false=>exact e
theorem pw_or1 (ha:PT X a tA):PW X (.BoolOp .Or [a] pos) tA:=by
  intro wh pins s σ H Q I h
  refine isTrue_or (thn (ha pins s σ H Q I h) fun c s1 e=>?_)
  cases c with
  | false=>exact isTrue_or_nil e
  | true=>exact e
theorem pw_and (ha:PT X a tA) (hb:PW X (.BoolOp .And (b :: rest) pos) tB'):PW X (.BoolOp .And (a :: b :: rest) pos) (tAnd tA tB'):=by
  intro wh pins s σ H Q I h
  refine isTrue_and (thn (ha pins s σ H _ I h) fun c s1 ⟨H1,I1,q1⟩=>?_)
  cases c with
  | true=>exact hb wh pins s1 σ H1 Q I1 q1
  | false=>exact ⟨H1,I1,q1⟩
theorem pw_or (ha:PT X a tA) (hb:PW X (.BoolOp .Or (b :: rest) pos) tB'):PW X (.BoolOp .Or (a :: b :: rest) pos) (tOr tA tB'):=by
  intro wh pins s σ H Q I h
  refine isTrue_or (thn (ha pins s σ H _ I h) fun c s1 ⟨H1,I1,q1⟩=>?_)
  cases c with
  | true=>exact ⟨H1,I1,q1⟩
  | false=>exact hb wh pins s1 σ H1 Q I1 q1
theorem pt_not (ha:PT X a tA):PT X (.UnaryOp .Not a pos) (tNot tA):=by
  intro pins s σ H Q I h
  exact isTrue_not (ha pins s σ H (fun c H1=>Q (!c) H1) I h)
noncomputable def tAndV (ta tb:TE):TE:=fun σ H Q=>ta σ H fun x H1=>∃ c,x=.bl c∧if c=true then tb σ H1 Q else Q (.bl false) H1
noncomputable def tNotV (ta:TE):TE:=fun σ H Q=>ta σ H fun x H1=>∃ c,x=.bl c∧Q (.bl (!c)) H1
theorem pe_one {op} {t:TE} (h:PE X a t):PE X (.BoolOp op [a] pos) t:=fun pins s σ H Q I hw=>BoolOp_one (h pins s σ H Q I hw)
theorem pe_and (ha:PE X a ta) (hb:PE X (.BoolOp .And (b :: rest) pos) tb):PE X (.BoolOp .And (a :: b :: rest) pos) (tAndV ta tb):=by
  intro pins s σ H Q I h
  refine BoolOp_and (thn (ha pins s σ H _ I h) fun v s1 ⟨x,H1,I1,r1,q1⟩=>?_)
  obtain ⟨c,rfl,q1⟩:=q1
  cases r1
  refine wpAny_truthy_bool ?_
  cases c with
  | true=>exact hb pins s1 σ H1 Q I1 q1
  | false=>exact ⟨.bl false,H1,I1,rfl,q1⟩
theorem pe_not (ha:PE X a ta):PE X (.UnaryOp .Not a pos) (tNotV ta):=by
  intro pins s σ H Q I h
  refine UnaryOp_ (thn (ha pins s σ H _ I h) fun v s1 ⟨x,H1,I1,r1,q1⟩=>?_)
  obtain ⟨c,rfl,q1⟩:=q1
  cases r1
  exact not_of (wpAny_truthy_bool ⟨.bl (!c),H1,I1,rfl,q1⟩)
end
end L2
namespace L2
open PySem PySem.Spec PyProof.Rows
noncomputable def SqL (K:PySem.W.Frag) (H:Hp) (a:Addr) (xs:List V):Prop :=
  Rd H a (.lst xs) ∨
    ∃ (o:Obj) (its:Array Value) (n:Nat),K.lookup a=some o∧o.cls=.type "list"∧o.dict=none∧o.data=.seq its n∧its.size≤sizeLine∧Vals xs its.toList
noncomputable def SqT (K:PySem.W.Frag) (H:Hp) (a:Addr) (xs:List V):Prop :=
  Rd H a (.tup xs) ∨
    ∃ (o:Obj) (its:Array Value) (n:Nat),K.lookup a=some o∧o.cls=.type "tuple"∧o.data=.seq its n∧its.size≤sizeLine∧Vals xs its.toList
noncomputable def absV:Value→Option V
  | .none=>some .non
  | .bool b=>some (.bl b)
  | .int i _=>some (.int i)
  | .str x _=>some (.str x)
  | .bytes b _=>some (.byt b)
  | .float b _=>some (.flt b)
  | .ref a=>some (.ref a)
  | .type n=>some (.ty n)
  | _=>none
theorem RelV.abs {x:V} {u:Value} (r:RelV x u):absV u=some x:=by
  cases x with
  | non=>cases r; rfl
  | bl _=>cases r; rfl
  | int _=>obtain ⟨t,rfl⟩:=r; rfl
  | str _=>obtain ⟨t,rfl⟩:=r; rfl
  | byt _=>obtain ⟨t,rfl⟩:=r; rfl
  | flt _=>obtain ⟨t,rfl⟩:=r; rfl
  | ref _=>cases r; rfl
  | ty _=>cases r; rfl
theorem RelV.inj {x y:V} {u:Value} (r:RelV x u) (q:RelV y u):x=y:=Option.some.inj (r.abs.symm.trans q.abs)
theorem Vals.inj:∀ {xs ys:List V} {us:List Value},Vals xs us→Vals ys us→xs=ys
  | _,_,_,.nil,.nil=>rfl
  | _,_,_,.cons r t,.cons r' t'=>by rw [r.inj r',Vals.inj t t']
section
variable {X:Cx} {pins:List (Addr × Obj)} {σ:St} {H:Hp} {s:Shared} {a:Addr} {xs ys:List V}
theorem SqL.of {K:PySem.W.Frag} (h:H a=some (.lst xs)):SqL K H a xs:=.inl (.inl h)
theorem Inv.list (I:Inv X pins σ H s) (h:SqL X.K H a xs):∃ its:List Value,Vals xs its∧PlainL s.heap a its.toArray∧xs.length≤sizeLine:=by
  rcases h with h | ⟨o,its,n,hk,hc,hd,hs,hz,r⟩
  · obtain ⟨z,its,n,r,e⟩:=h.ok I.hok
    exact ⟨its,r,⟨_,n,e,rfl,rfl,rfl⟩,z⟩
  · refine ⟨its.toList,r,⟨o,n,I.kIn a o hk,hc,hd,by simpa using hs⟩, ?_⟩
    have e:=r.length
    simp only [Array.length_toList] at e
    omega
theorem Inv.tuple (I:Inv X pins σ H s) (h:SqT X.K H a xs):∃ its:List Value,Vals xs its∧IsTup s.heap a its.toArray∧xs.length≤sizeLine:=by
  rcases h with h | ⟨o,its,n,hk,hc,hs,hz,r⟩
  · obtain ⟨z,its,r,p⟩:=h.ok I.hok
    exact ⟨its,r,p,z⟩
  · refine ⟨its.toList,r,⟨o,I.kIn a o hk,hc,n,by simpa using hs⟩, ?_⟩
    have e:=r.length
    simp only [Array.length_toList] at e
    omega
theorem Inv.list_inj (I:Inv X pins σ H s) (h:SqL X.K H a xs) (h':SqL X.K H a ys):xs=ys:=by
  obtain ⟨its,r,⟨o,n,e,_,_,d⟩,_⟩:=I.list h
  obtain ⟨its',r',⟨o',n',e',_,_,d'⟩,_⟩:=I.list h'
  rw [e] at e'; cases e'
  rw [d] at d'
  injection d' with d1 _
  have:its=its':=by simpa using congrArg Array.toList d1
  subst this
  exact r.inj r'
end
noncomputable abbrev Cx.wish (X:Cx) (E:Value→Shared→Prop):Cx:={ X with xe:=E }
noncomputable abbrev Cx.nox (X:Cx):Cx:=X.wish fun _ _=>False
theorem Cx.Ok.wish {X:Cx} (ok:X.Ok) (E:Value→Shared→Prop):(X.wish E).Ok :=
  ⟨ok.mod,ok.kind,ok.glob,ok.blt,ok.above,ok.inj,ok.has,ok.cab,ok.hd,ok.frames,ok.stk,ok.exf,ok.bs,ok.bsz,ok.noex,ok.exfs,ok.funs,ok.frf⟩
theorem Cx.Ok.unwish {X:Cx} {E:Value→Shared→Prop} (ok:(X.wish E).Ok):X.Ok :=
  ⟨ok.mod,ok.kind,ok.glob,ok.blt,ok.above,ok.inj,ok.has,ok.cab,ok.hd,ok.frames,ok.stk,ok.exf,ok.bs,ok.bsz,ok.noex,ok.exfs,ok.funs,ok.frf⟩
section
variable {X:Cx} {pins:List (Addr × Obj)} {σ:St} {H:Hp} {s:Shared} {E:Value→Shared→Prop}
theorem Inv.wish (I:Inv X pins σ H s) (E:Value→Shared→Prop):Inv (X.wish E) pins σ H s:=⟨I.ok.wish E,I.os,I.bare,I.base,I.loc,I.cell,I.free,I.freeC,I.pin,I.hok,I.len⟩
theorem Inv.unwish (I:Inv (X.wish E) pins σ H s):Inv X pins σ H s:=⟨I.ok.unwish,I.os,I.bare,I.base,I.loc,I.cell,I.free,I.freeC,I.pin,I.hok,I.len⟩
theorem SP.unwish {D:Ends} {f:Flow} {s':Shared} (h:SP (X.wish E) pins D f s'):SP X pins D f s':=by
  cases f with
  | next=>obtain ⟨σ',H',I,q⟩:=h; exact ⟨σ',H',I.unwish,q⟩
  | brk=>obtain ⟨σ',H',I,q⟩:=h; exact ⟨σ',H',I.unwish,q⟩
  | cont=>obtain ⟨σ',H',I,q⟩:=h; exact ⟨σ',H',I.unwish,q⟩
  | ret u=>obtain ⟨v,σ',H',I,r,q⟩:=h; exact ⟨v,σ',H',I.unwish,r,q⟩
theorem PSs.nox {st:List Stmt} {t:TS} (h:PSs X.nox st t):PSs X st t:=fun pins s σ H D I hw =>
  wpAny_mono (h pins s σ H D (I.wish _) hw) (fun _ _ q=>q.unwish) fun _ _ z=>False.elim z
end
section
variable {X:Cx} {st:Stmt} {rest:List Stmt} {t u:TS} {e:Expr} {te:TE} {pos:Pos}
noncomputable def tNext:TS:=fun D σ H=>D.nx σ H
noncomputable def tSeq (t u:TS):TS:=fun D σ H=>t { D with nx:=u D } σ H
theorem pss_nil:PSs X [] tNext:=fun _ _ σ H _ I h=>wpAny_execs_nil ⟨σ,H,I,h⟩
theorem pss_cons (h1:PS X st t) (h2:PSs X rest u):PSs X (st :: rest) (tSeq t u):=by
  intro pins s σ H D I h
  refine wpAny_execs_cons (thn (h1 pins s σ H { D with nx:=u D } I h) fun f s1 q=>?_)
  cases f with
  | next =>
    obtain ⟨σ',H',I',q⟩:=q
    exact h2 pins s1 σ' H' D I' q
  | ret v=>exact q
  | brk=>exact q
  | cont=>exact q
theorem pss_one (h1:PS X st t):PSs X [st] t:=by
  intro pins s σ H D I h
  refine wpAny_execs_cons (thn (h1 pins s σ H D I h) fun f s1 q=>?_)
  cases f with
  | next=>exact wpAny_execs_nil q
  | ret v=>exact q
  | brk=>exact q
  | cont=>exact q
theorem Inv.quiet {pins:List (Addr × Obj)} {σ:St} {H:Hp} {s:Shared} (I:Inv X pins σ H s):interactive X.env=false:=by simp [interactive,I.ok.kind]
noncomputable def tDrop (te:TE):TS:=fun D σ H=>te σ H fun _ H1=>D.nx σ H1
theorem ps_expr (he:PE X e te) (hs:swapsWith e none pos.line X.env=pure false:=by rfl):PS X (.Expr e pos) (tDrop te):=by
  intro pins s σ H D I h
  exact wpAny_Expr_any (thn (he pins s σ H _ I h) fun v s1 ⟨x,H1,I1,r1,q1⟩=>⟨σ,H1,I1,q1⟩) I.quiet hs
noncomputable def tRet (te:TE):TS:=fun D σ H=>te σ H D.rt
theorem ps_ret (he:PE X e te):PS X (.Return (some e) pos) (tRet te):=by
  intro pins s σ H D I h
  exact wpAny_Return_some (thn (he pins s σ H _ I h) fun v s1 ⟨x,H1,I1,r1,q1⟩=>⟨x,σ,H1,I1,r1,q1⟩)
noncomputable def tIfS (c:TT) (t u:TS):TS:=fun D σ H=>c σ H fun b H1=>if b=true then t D σ H1 else u D σ H1
theorem ps_if {c:Expr} {a b:List Stmt} {tc:TT} (hc:PT X c tc) (ha:PSs X a t) (hb:PSs X b u):PS X (.If c a b pos) (tIfS tc t u):=by
  intro pins s σ H D I h
  refine wpAny_If (thn (hc pins s σ H _ I h) fun d s1 ⟨H1,I1,q1⟩=>?_)
  cases d with
  | true=>exact ha pins s1 σ H1 D I1 q1
  | false=>exact hb pins s1 σ H1 D I1 q1
end
noncomputable abbrev TG:=V→St→Hp→(St→Hp→Prop)→Prop
noncomputable def PG (X:Cx) (target:Expr) (t:TG):Prop :=
  ∀ (pins:List (Addr × Obj)) (s:Shared) (σ:St) (H:Hp) (v:V) (u:Value) (Q:St→Hp→Prop),Inv X pins σ H s→RelV v u→t v σ H Q →
    wpAny (model X.prog X.w) X.A (assign target X.env u) (fun _ s'=>∃ σ' H',Inv X pins σ' H' s'∧Q σ' H') X.xe s
section
variable {X:Cx} {pos:Pos}
noncomputable def gName (i:Nat):TG:=fun v σ H Q=>Q (σ.set i (some v)) H
theorem pg_name {i:Nat} {x:Str} (hN:X.N.Nodup) (hi:X.N[i]?=some x) (hx:Loc X.env.scope x) (hf:X.fn x=true ∨ X.env.scope.names.lookup x=some .local:=by first | exact .inl rfl | exact .inr rfl | assumption):PG X (.Name x pos) (gName i):=by
  intro pins s σ H v u Q I r h
  exact wpAny_assign_Name (store_ok I hN hi hx r (fun s' I'=>⟨_,H,I',h⟩) hf)
noncomputable def tAsg (te:TE) (g:TG):TS:=fun D σ H=>te σ H fun x H1=>g x σ H1 D.nx
theorem ps_set {i:Nat} {x:Str} {e:Expr} {te:TE} {pos':Pos} (hN:X.N.Nodup) (hi:X.N[i]?=some x) (hx:Loc X.env.scope x) (he:PE X e te) (hs:swapsWith e (some (.Name x pos')) pos.line X.env=pure false:=by rfl) (hf:X.fn x=true ∨ X.env.scope.names.lookup x=some .local:=by first | exact .inl rfl | exact .inr rfl | assumption) :
    PS X (.Assign [.Name x pos'] e pos) (tAsg te (gName i)):=by
  intro pins s σ H D I h
  refine wpAny_Assign_Name (thn (he pins s σ H _ I h) fun v s1 ⟨y,H1,I1,r1,q1⟩=>?_) hs
  exact store_ok I1 hN hi hx r1 (fun s2 I2=>⟨_,H1,I2,q1⟩) hf
end
section
variable {X:Cx} {pos:Pos}
noncomputable def tWhile (c:TT) (tb:TS):TS:=fun D σ H=>∃ W:Nat→St→Hp→Prop,(∃ m,W m σ H)∧∀ m σ H,W m σ H →
  c σ H fun b H1=>if b=true then ∃ N:St→Hp→Prop,(∀ σ' H',N σ' H'→∃ m',m' < m∧W m' σ' H')∧tb { D with nx:=N,ct:=N,bk:=D.nx } σ H1 else D.nx σ H1
theorem ps_while {c:Expr} {body:List Stmt} {tc:TT} {tb:TS} (hp:PassesOwn (model X.prog X.w) X.A X.env X.xe) (hc:PT X c tc) (hb:PSs X body tb):PS X (.While c body [] pos) (tWhile tc tb):=by
  intro pins s σ H D I h
  obtain ⟨W,⟨m0,w0⟩,turn⟩:=h
  refine wpAny_While (codeAny_whileLoop (fun n s'=>∃ σ' H',Inv X pins σ' H' s'∧W n σ' H') ?_ m0 ⟨σ,H,I,w0⟩)
  rintro n s1 ⟨σ1,H1,I1,w1⟩
  refine wpAny_passesOwn hp (thn (hc pins s1 σ1 H1 _ I1 (turn n σ1 H1 w1)) fun b s2 ⟨H2,I2,q2⟩=>?_)
  cases b with
  | true =>
    obtain ⟨N,hN,q2⟩:=q2
    rw [if_pos rfl]
    refine wpAny_passesOwn hp (thn (hb pins s2 σ1 H2 _ I2 q2) fun f s3 q3=>?_)
    cases f with
    | next =>
      obtain ⟨σ3,H3,I3,n3⟩:=q3
      obtain ⟨m',hm,w3⟩:=hN σ3 H3 n3
      exact ⟨m',hm,σ3,H3,I3,w3⟩
    | cont =>
      obtain ⟨σ3,H3,I3,n3⟩:=q3
      obtain ⟨m',hm,w3⟩:=hN σ3 H3 n3
      exact ⟨m',hm,σ3,H3,I3,w3⟩
    | brk=>exact q3
    | ret v=>exact q3
  | false =>
    rw [if_neg Bool.false_ne_true]
    exact wpAny_execs_nil ⟨σ1,H2,I2,q2⟩
end
structure It where
  go:Nat→Hp→Prop
  yld:Nat→Hp→V→Hp→Prop
  stop:Nat→Hp→Prop
noncomputable def FpOk (X:Cx) (pins:List (Addr × Obj)) (H:Hp) (b:Addr):Prop :=
  H b=none∧b≠X.env.locals∧b ∉ X.fs∧(b∈X.ex ∨ X.s₀.heap.objs.size≤b)∧(∀ x c,X.env.cells.lookup x=some c→c≠b)∧∀ p∈X.pn ++ pins,p.1≠b
theorem Inv.fpOk {X:Cx} {pins:List (Addr × Obj)} {σ:St} {H H':Hp} {s:Shared} {b:Addr} (I:Inv X pins σ H s) (hb:s.heap.objs.size≤b) (hn:H' b=none):FpOk X pins H' b:=by
  refine ⟨hn,Nat.ne_of_gt (Nat.lt_of_lt_of_le I.lt hb),I.nofs hb,.inr (Nat.le_trans I.sz hb),fun x c e z=>?_,fun p hp z=>?_⟩
  · obtain ⟨v,q⟩:=I.cell x c e
    exact absurd (Nat.lt_of_lt_of_le q.lt (by rw [z]; exact hb)) (Nat.lt_irrefl _)
  · exact absurd (Nat.lt_of_lt_of_le (Heap.lt_size (I.pin p hp).1) (by rw [z]; exact hb)) (Nat.lt_irrefl _)
structure Turn (P:Program) (w:World) (K:PySem.W.Frag) (tg:Expr) (J:It) (fp:List Addr) (it:Addr) (tn:Nat→Heap→Prop):Prop where
  mem:it∈fp
  obj:∀ i h,tn i h→∀ b∈fp,∃ o,h.get? b=some o∧∀ v,o.data≠.cell v
  keep:∀ i h h',tn i h→(∀ b∈fp,∀ o,h.get? b=some o→h'.get? b=some o)→tn i h'
  item:∀ (X:Cx),X.prog=P→X.w=w→X.K=K→X.calm=true→∀ (i:Nat) (pins:List (Addr × Obj)) (s:Shared) (σ:St) (H:Hp) (E:Value→Shared→Prop),Inv X pins σ H s→(∀ b∈fp,FpOk X pins H b)→tn i s.heap→J.go i H →
    wpAny (model P w) X.A (pyNext (.ref it)) (fun r s1=>∃ u,r=some u ∧
      wpAny (model P w) X.A (letOwnedTupleGo tg (.ref it) u) (fun _ s2=>∃ x H',Inv X pins σ H' s2∧RelV x u∧J.yld i H x H'∧tn (i + 1) s2.heap∧∀ b∈fp,H' b=none) E s1) E s
  done:∀ (X:Cx),X.prog=P→X.w=w→X.K=K→X.calm=true→∀ (i:Nat) (pins:List (Addr × Obj)) (s:Shared) (σ:St) (H:Hp) (E:Value→Shared→Prop),Inv X pins σ H s→(∀ b∈fp,FpOk X pins H b)→tn i s.heap→J.stop i H →
    wpAny (model P w) X.A (pyNext (.ref it)) (fun r s1=>r=none∧Inv X pins σ H s1) E s
  self:∀ (A:Around) (i:Nat) (s:Shared) (Q:Value→Shared→Prop) (E:Value→Shared→Prop),tn i s.heap→Q (.ref it) s→wpAny (model P w) A (pyIter (.ref it)) Q E s
noncomputable abbrev TI:=St→Hp→(It→Hp→Prop)→Prop
noncomputable def PIE (X:Cx) (pins:List (Addr × Obj)) (σ:St) (tg:Expr) (R:It→Hp→Prop) (itv:Value) (s2:Shared):Prop :=
  ∃ (it:Addr) (fp:List Addr) (tn:Nat→Heap→Prop) (J:It) (H':Hp),itv=.ref it∧Inv X pins σ H' s2∧Turn X.prog X.w X.K tg J fp it tn∧tn 0 s2.heap∧(∀ b∈fp,FpOk X pins H' b)∧R J H'
noncomputable def PI (X:Cx) (tg iter:Expr) (wi:TI):Prop :=
  ∀ (pins:List (Addr × Obj)) (s:Shared) (σ:St) (H:Hp) (R:It→Hp→Prop),Inv X pins σ H s→wi σ H R →
    wpAny (model X.prog X.w) X.A (eval iter X.env) (fun v s1=>wpAny (model X.prog X.w) X.A (pyIter v) (PIE X pins σ tg R) X.xe s1) X.xe s
theorem go_of {M:Model} {A:Around} {E:Value→Shared→Prop} {s:Shared} {tg:Expr} {it:Addr} {u:Value} {o:Obj} {n:String} {vs:Array Value} {Q:Unit→Shared→Prop} (ho:s.heap.get? it=some o) (hc:o.cls=.type n) (hd:o.data=.fields vs)
    (hn:["enumerate", "zip", "dict_itemiterator", "dict_reverseitemiterator", "odict_iterator", "itertools.zip_longest", "itertools.pairwise"].contains n=false) (hQ:Q () s):wpAny M A (letOwnedTupleGo tg (.ref it) u) Q E s:=by
  unfold letOwnedTupleGo
  cases tg <;> first
    | exact wpAny_pure hQ
    | (cases u <;> first
        | exact wpAny_pure hQ
        | (refine wpAny_bind (wpAny_load ho ?_)
           rw [hc,hd]
           show wpAny M A (if (["enumerate", "zip", "dict_itemiterator", "dict_reverseitemiterator", "odict_iterator", "itertools.zip_longest", "itertools.pairwise"].contains n && vs[0]? == some (rawInt _))=true then _ else _) Q E s
           rw [if_neg (by intro h; rw [hn,Bool.false_and] at h; cases h)]
           exact wpAny_pure hQ))
noncomputable def Itl (K:PySem.W.Frag) (a:Addr):It :=
  ⟨fun i H=>∃ xs x,SqL K H a xs∧xs[i]?=some x,fun i H x H'=>H'=H∧∀ xs,SqL K H a xs→xs[i]?=some x,fun i H=>∃ xs,SqL K H a xs∧xs.length≤i⟩
noncomputable def Itr (lo:Int) (n:Nat):It:=⟨fun i _=>i < n,fun i H x H'=>H'=H∧x=.int (lo + i),fun i _=>n≤i⟩
theorem turn_list {P:Program} {w:World} {K:PySem.W.Frag} {tg:Expr} (a it:Addr):Turn P w K tg (Itl K a) [it] it (fun i h=>h.IsListIter it a i) where
  mem:=by simp
  obj:=fun i h st b hb=>by
    have e:b=it:=by simpa using hb
    subst e
    obtain ⟨o,e,c,d⟩:=st
    exact ⟨o,e,fun v z=>by rw [d] at z; cases z⟩
  keep:=fun i h h' st k=>st.at fun o e=>k it (by simp) o e
  item:=by
    intro X hP hw hK hc i pins s σ H E I hf st hg
    subst hP hw hK
    obtain ⟨xs,x,hq,hx⟩:=hg
    obtain ⟨its,rv,p,hz⟩:=I.list hq
    obtain ⟨u,hu,ru⟩:=rv.get hx
    obtain ⟨f0,f1,f2,f3,f4,f5⟩:=hf it (by simp)
    refine wpAny_pyNext_list_item st p.isList (x:=u) (by simpa using hu) fun h' st' sb=>?_
    have I1:Inv X pins σ H { s with heap:=h' }:=I.turned (t':=s.toks) (fun b o hb e=>(sb.2 b hb).trans e) f0 f1 f3 f4 f5
    obtain ⟨o,e,c,d⟩:=id st'
    exact ⟨u,rfl,go_of (s:={ s with heap:=h' }) e c d (by decide) ⟨x,H,I1,ru,⟨rfl,fun ys hy=>by rw [I.list_inj hy hq]; exact hx⟩,st',fun b hb=>(hf b hb).1⟩⟩
  done:=by
    intro X hP hw hK hc i pins s σ H E I hf st hg
    subst hP hw hK
    obtain ⟨xs,hq,hx⟩:=hg
    obtain ⟨its,rv,p,hz⟩:=I.list hq
    obtain ⟨f0,f1,f2,f3,f4,f5⟩:=hf it (by simp)
    have hl:=rv.length
    exact wpAny_pyNext_list_end (I.ok.hd hc) st p.isList (by simp; omega) fun h' eb=>⟨rfl,I.turned (t':=s.toks) (fun b o hb e=>eb b o hb e) f0 f1 f3 f4 f5⟩
  self:=fun _ _ _ _ _ st h=>wpAny_pyIter_listiter st h
theorem turn_range {P:Program} {w:World} {K:PySem.W.Frag} {tg:Expr} (it:Addr) (lo:Int) (n:Nat):Turn P w K tg (Itr lo n) [it] it (fun i h=>IsRangeIter h it (lo + (i:Nat) * 1) ((n:Int) - (i:Nat)) 1) where
  mem:=by simp
  obj:=fun i h st b hb=>by
    have e:b=it:=by simpa using hb
    subst e
    exact ⟨_,st,fun v z=>by
      have z':Data.fields _=Data.cell v:=z
      cases z'⟩
  keep:=fun i h h' st k=>k it (by simp) _ st
  item:=by
    intro X hP hw hK hc i pins s σ H E I hf st hg
    subst hP hw hK
    obtain ⟨f0,f1,f2,f3,f4,f5⟩:=hf it (by simp)
    have W:=Walks.range (prog:=X.prog) (w:=X.w) (I.ok.hd hc) it lo 1 n
    refine W.item i s _ _ hg st fun v h' tk hv st' kk=>?_
    obtain ⟨t,rfl⟩:=hv
    have I1:Inv X pins σ H { s with heap:=h',toks:=tk }:=I.turned (fun b o hb e=>kk b o (by simpa using hb) e) f0 f1 f3 f4 f5
    refine ⟨_,rfl,go_of (s:={ s with heap:=h',toks:=tk }) (n := "range_iterator") st' rfl rfl (by decide) ⟨.int (lo + i),H,I1,⟨t, ?_⟩,⟨rfl,rfl⟩,st',fun b hb=>(hf b hb).1⟩⟩
    rw [Int.mul_one]
  done:=by
    intro X hP hw hK hc i pins s σ H E I hf st hg
    subst hP hw hK
    obtain ⟨f0,f1,f2,f3,f4,f5⟩:=hf it (by simp)
    exact wpAny_pyNext_range_end (I.ok.hd hc) st (by have:n≤i:=hg; omega) fun h' eb=>⟨rfl,I.turned (t':=s.toks) (fun b o hb e=>eb b o hb e) f0 f1 f3 f4 f5⟩
  self:=fun _ _ _ _ _ st h=>wpAny_pyIter_rangeiter st h
end L2
namespace L2
open PySem PySem.Spec PyProof.Rows
section
variable {X:Cx} {tg:Expr}
noncomputable def iList (K:PySem.W.Frag) (tl:TE):TI:=fun σ H R=>tl σ H fun x H1=>∃ a,x=.ref a∧(∃ xs,SqL K H1 a xs)∧R (Itl K a) H1
theorem pi_list {l:Expr} {tl:TE} (hl:PE X l tl):PI X tg l (iList X.K tl):=by
  intro pins s σ H R I h
  refine thn (hl pins s σ H _ I h) fun v s1 ⟨x,H1,I1,r1,q1⟩=>?_
  obtain ⟨a,e,⟨xs,hq⟩,q⟩:=q1
  subst e
  cases r1
  obtain ⟨its,rv,p,hz⟩:=I1.list hq
  refine wpAny_pyIter_list p.isList ?_
  refine ⟨s1.heap.objs.size,[s1.heap.objs.size],_,_,H1,rfl,I1.kept (t':=s1.toks) fun b o e=>Heap.get?_push_of_some _ e,turn_list a _,⟨_,Heap.get?_push_size _ rfl,rfl,rfl⟩,fun b hb=>?_,q⟩
  have e:b=s1.heap.objs.size:=by simpa using hb
  subst e
  exact I1.fpOk (Nat.le_refl _) (I1.hok.fresh (Nat.le_refl _))
theorem range_it {pins:List (Addr × Obj)} {σ:St} {H:Hp} {s:Shared} {R:It→Hp→Prop} {E:Value→Shared→Prop} {lo hi:Int} {t u v:Tok} {tk:Nat} (I:Inv X pins σ H s) (h1:-(2 ^ 62)≤lo) (h2:lo < 2 ^ 62) (h3:-(2 ^ 62)≤hi) (h4:hi < 2 ^ 62)
    (q:R (Itr lo (hi - lo).toNat) H):wpAny (model X.prog X.w) X.A (pyIter (.ref s.heap.objs.size)) (PIE X pins σ tg R) E { s with heap:=s.heap.push { cls:=.type "range",data:=.fields #[.int lo t,.int hi u,.int 1 v] },toks:=tk }:=by
  refine wpAny_pyIter_range (IsRange.new ..) (small_one h1 h2 h3 h4) ?_
  have I1:Inv X pins σ H { s with heap:=s.heap.push { cls:=.type "range",data:=.fields #[.int lo t,.int hi u,.int 1 v] },toks:=tk }:=I.kept fun b o e=>Heap.get?_push_of_some _ e
  refine ⟨(s.heap.push { cls:=.type "range",data:=.fields #[.int lo t,.int hi u,.int 1 v] }).objs.size,[(s.heap.push { cls:=.type "range",data:=.fields #[.int lo t,.int hi u,.int 1 v] }).objs.size],_,_,H,rfl,
    I1.kept (t':=tk) fun b o e=>Heap.get?_push_of_some _ e,turn_range _ lo (hi - lo).toNat, ?_,fun b hb=>?_,q⟩
  · have e1:lo + ((0:Nat):Int) * 1=lo:=by simp
    have e2:(((hi - lo).toNat:Nat):Int) - ((0:Nat):Int)=Builtin.Range.rangeSize lo hi 1:=by rw [rangeSize_one]; split <;> omega
    show IsRangeIter _ _ (lo + ((0:Nat):Int) * 1) ((((hi - lo).toNat:Nat):Int) - ((0:Nat):Int)) 1
    rw [e1,e2]
    exact Heap.get?_push_size _ rfl
  · have e:b=(s.heap.push { cls:=.type "range",data:=.fields #[.int lo t,.int hi u,.int 1 v] }).objs.size:=by simpa using hb
    subst e
    exact I1.fpOk (Nat.le_refl _) (I1.hok.fresh (Nat.le_refl _))
noncomputable def iRng1 (ta:TA):TI:=fun σ H R=>ta σ H fun vs H1=>∃ j:Int,vs=[.int j]∧-(2 ^ 62)≤j∧j < 2 ^ 62∧R (Itr 0 j.toNat) H1
noncomputable def iRng2 (ta:TA):TI:=fun σ H R=>ta σ H fun vs H1=>∃ i j:Int,vs=[.int i,.int j]∧(-(2 ^ 62)≤i∧i < 2 ^ 62∧-(2 ^ 62)≤j∧j < 2 ^ 62)∧R (Itr i (j - i).toNat) H1
theorem pi_range1 {a:Expr} {ta:TA} {p pos:Pos} (hg:Gl X "range") (hm:X.mg "range"=none) (ha:PA X [a] ta) (hs:starEach [a] X.env=[(false,eval a X.env)]:=by rfl):PI X tg (.Call (.Name "range" p) [a] [] pos) (iRng1 ta):=by
  intro pins s σ H R I h
  refine Call_ (ld_blt I hg hm boot_range (PyProof.Rows.callWith_type1 (thn (ha pos pins s σ H _ I h) fun us s1 ⟨vs,H1,I1,r1,q1⟩=>?_) hs rfl))
  obtain ⟨j,e,q1,q2,q⟩:=q1
  subst e
  cases r1 with
  | cons r rr =>
    cases rr
    obtain ⟨t,rfl⟩:=r
    exact call_range_1 (range_it I1 (by omega) (by omega) q1 q2 (by simpa using q))
theorem pi_range2 {a b:Expr} {ta:TA} {p pos:Pos} (hg:Gl X "range") (hm:X.mg "range"=none) (ha:PA X [a,b] ta) (hs:starEach [a,b] X.env=[(false,eval a X.env),(false,eval b X.env)]:=by rfl) (hs2:starEach [b] X.env=[(false,eval b X.env)]:=by rfl) :
    PI X tg (.Call (.Name "range" p) [a,b] [] pos) (iRng2 ta):=by
  intro pins s σ H R I h
  refine Call_ (ld_blt I hg hm boot_range (PyProof.Rows.callWith_type1 (thn (ha pos pins s σ H _ I h) fun us s1 ⟨vs,H1,I1,r1,q1⟩=>?_) (by rw [hs,hs2]) (by rw [hs2]; rfl)))
  obtain ⟨i,j,e,⟨q1,q2,q3,q4⟩,q⟩:=q1
  subst e
  cases r1 with
  | cons r rr =>
    cases rr with
    | cons r' rr =>
      cases rr
      obtain ⟨t,rfl⟩:=r
      obtain ⟨t',rfl⟩:=r'
      exact call_range_2 (range_it I1 q1 q2 q3 q4 q)
noncomputable def tFor (wi:TI) (g:TG) (tb:TS):TS:=fun D σ H=>wi σ H fun J H1=>∃ W:Nat→Nat→St→Hp→Prop,(∃ m,W 0 m σ H1)∧∀ i m σ H,W i m σ H →
  (J.stop i H∧D.nx σ H) ∨ (J.go i H∧∃ N:St→Hp→Prop,(∀ σ' H',N σ' H'→∃ m',m' < m∧W (i + 1) m' σ' H')∧∀ x H',J.yld i H x H'→g x σ H' fun σ2 H2=>tb { D with nx:=N,ct:=N,bk:=D.nx } σ2 H2)
noncomputable def pinsAt (fp:List Addr) (h:Heap):List (Addr × Obj):=fp.filterMap fun b=>(h.get? b).map fun o=>(b,o)
theorem mem_pinsAt {fp:List Addr} {h:Heap} {b:Addr} {o:Obj} (hb:b∈fp) (e:h.get? b=some o):(b,o)∈pinsAt fp h:=List.mem_filterMap.mpr ⟨b,hb,by rw [e]; rfl⟩
theorem of_pinsAt {fp:List Addr} {h:Heap} {p:Addr × Obj} (hp:p∈pinsAt fp h):p.1∈fp∧h.get? p.1=some p.2:=by
  obtain ⟨b,hb,e⟩:=List.mem_filterMap.mp hp
  cases q:h.get? b with
  | none=>rw [q] at e; cases e
  | some o =>
    rw [q] at e
    have e':(b,o)=p:=Option.some.inj e
    subst e'
    exact ⟨hb,q⟩
theorem Inv.pinned {pins:List (Addr × Obj)} {σ:St} {H:Hp} {s:Shared} {fp:List Addr} (I:Inv X pins σ H s) (hf:∀ b∈fp,FpOk X pins H b) (ho:∀ b∈fp,∃ o,s.heap.get? b=some o∧∀ v,o.data≠.cell v):Inv X (pins ++ pinsAt fp s.heap) σ H s :=
  I.pins_of fun p hp=>(List.mem_append.mp hp).elim (fun z=>I.pin p (List.mem_append_right _ z)) fun z=>by
    obtain ⟨hb,e⟩:=of_pinsAt z
    obtain ⟨f0,f1,f2,_⟩:=hf p.1 hb
    obtain ⟨o,e',d⟩:=ho p.1 hb
    rw [e] at e'; cases e'
    exact ⟨e,f0,f1,f2,d⟩
theorem Inv.unpinned {pins pl:List (Addr × Obj)} {σ:St} {H:Hp} {s:Shared} (I:Inv X (pins ++ pl) σ H s):Inv X pins σ H s:=I.pins_of fun p hp=>I.pin p (List.mem_append_right _ (List.mem_append_left _ hp))
theorem ps_for {iter:Expr} {body:List Stmt} {wi:TI} {g:TG} {tb:TS} {pos:Pos} (hp:PassesOwn (model X.prog X.w) X.A X.env X.xe) (hc:X.calm=true) (hi:PI X tg iter wi) (hg:PG X tg g) (hb:PSs X body tb)
    (hs:∀ x,foldedSetIterable iter X.env x=pure x:=by exact fun _=>rfl):PS X (.For tg iter body [] pos) (tFor wi g tb):=by
  intro pins s σ H D I h
  refine wpAny_For (thn (hi pins s σ H _ I h) fun v s1 h1=>thn h1 fun itv s2 h2=>?_) hs
  obtain ⟨it,fp,tn,J,H2,e,I2,T,st2,f2,W,⟨m0,w0⟩,turn⟩:=h2
  subst e
  have stat:∀ {H':Hp},(∀ b∈fp,H' b=none)→∀ b∈fp,FpOk X pins H' b:=fun hn b hb=>⟨hn b hb,(f2 b hb).2⟩
  refine codeAny_forLoop_any (fun n s'=>∃ i σ' H',Inv X pins σ' H' s'∧tn i s'.heap∧(∀ b∈fp,H' b=none)∧W i n σ' H') ?_ m0 ⟨0,σ,H2,I2,st2,fun b hb=>(f2 b hb).1,w0⟩
  rintro n s3 ⟨i,σ3,H3,I3,st3,fr3,w3⟩
  rcases turn i n σ3 H3 w3 with ⟨stop,qn⟩ | ⟨go,N,hN,step⟩
  · refine wpAny_passesOwn hp (thn (T.done X rfl rfl rfl hc i pins s3 σ3 H3 X.xe I3 (stat fr3) st3 stop) fun r s4 ⟨hr,I4⟩=>?_)
    subst hr
    exact wpAny_execs_nil ⟨σ3,H3,I4,qn⟩
  · refine wpAny_passesOwn hp (thn (T.item X rfl rfl rfl hc i pins s3 σ3 H3 X.xe I3 (stat fr3) st3 go) fun r s4 ⟨u,hr,h4⟩=>?_)
    subst hr
    refine wpAny_passesOwn hp (thn h4 fun _ s5 ⟨x,H5,I5,r5,y5,st5,fr5⟩=>?_)
    have I5':=I5.pinned (stat fr5) (T.obj _ _ st5)
    refine wpAny_passesOwn hp (thn (hg _ s5 σ3 H5 x u _ I5' r5 (step x H5 y5)) fun _ s6 ⟨σ6,H6,I6,q6⟩=>?_)
    refine wpAny_passesOwn hp (thn (hb _ s6 σ6 H6 _ I6 q6) fun f s7 q7=>?_)
    have again:∀ {σ7:St} {H7:Hp},Inv X (pins ++ pinsAt fp s5.heap) σ7 H7 s7→N σ7 H7→∃ m,m < n∧∃ i σ' H',Inv X pins σ' H' s7∧tn i s7.heap∧(∀ b∈fp,H' b=none)∧W i m σ' H':=fun {σ7 H7} I7 n7=>by
      obtain ⟨m',hm,w7⟩:=hN σ7 H7 n7
      refine ⟨m',hm,i + 1,σ7,H7,I7.unpinned,T.keep _ _ _ st5 fun b hb o e=>(I7.pin (b,o) (List.mem_append_right _ (List.mem_append_right _ (mem_pinsAt hb e)))).1,fun b hb=>?_,w7⟩
      obtain ⟨o,e,d⟩:=T.obj _ _ st5 b hb
      exact (I7.pin (b,o) (List.mem_append_right _ (List.mem_append_right _ (mem_pinsAt hb e)))).2.1
    cases f with
    | next=>obtain ⟨σ7,H7,I7,n7⟩:=q7; exact again I7 n7
    | cont=>obtain ⟨σ7,H7,I7,n7⟩:=q7; exact again I7 n7
    | brk=>obtain ⟨σ7,H7,I7,q7⟩:=q7; exact ⟨σ7,H7,I7.unpinned,q7⟩
    | ret v=>obtain ⟨x7,σ7,H7,I7,r7,q7⟩:=q7; exact ⟨x7,σ7,H7,I7.unpinned,r7,q7⟩
end
end L2
namespace L2
open PySem PySem.Spec PyProof.Rows
noncomputable abbrev R2:=V→V→Hp→VK→Prop
noncomputable def OpR (X:Cx) (f:Value→Value→Sem Value) (r:R2):Prop :=
  ∀ (pins:List (Addr × Obj)) (s:Shared) (σ:St) (H:Hp) (x y:V) (v u:Value) (Q:VK),Inv X pins σ H s→RelV x v→RelV y u→r x y H Q →
    wpAny (model X.prog X.w) X.A (f v u) (EP X pins σ Q) X.xe s
noncomputable def CallR (X:Cx) (f:Value) (r:List V→Hp→VK→Prop):Prop :=
  ∀ (pins:List (Addr × Obj)) (s:Shared) (σ:St) (H:Hp) (xs:List V) (us:List Value) (Q:VK),Inv X pins σ H s→Vals xs us→r xs H Q →
    wpAny (model X.prog X.w) X.A (call f us) (EP X pins σ Q) X.xe s
noncomputable def tOp (r:R2) (ta tb:TE):TE:=fun σ H Q=>ta σ H fun x H1=>tb σ H1 fun y H2=>r x y H2 Q
noncomputable def rI (C:Int→Int→Prop) (g:Int→Int→V):R2:=fun x y H Q=>∃ i j,x=.int i∧y=.int j∧C i j∧Q (g i j) H
noncomputable def rI0 (g:Int→Int→V):R2:=fun x y H Q=>∃ i j,x=.int i∧y=.int j∧Q (g i j) H
section
variable {X:Cx} {a b c:Expr} {ta tb tc:TE} {pos:Pos}
theorem binT (ha:PE X a ta) (hb:PE X b tb) {pins:List (Addr × Obj)} {s:Shared} {σ:St} {H:Hp} {R:V→V→Hp→Prop} (I:Inv X pins σ H s)
    (h:ta σ H fun x H1=>tb σ H1 fun y H2=>R x y H2) {Q:Value→Shared→Prop} {f:Value→Value→Sem Value}
    (hf:∀ v u s2 x y H2,Inv X pins σ H2 s2→RelV x v→RelV y u→R x y H2→wpAny (model X.prog X.w) X.A (f v u) Q X.xe s2) :
    wpAny (model X.prog X.w) X.A (eval a X.env) (fun v s₁=>wpAny (model X.prog X.w) X.A (eval b X.env) (fun u s₂=>wpAny (model X.prog X.w) X.A (f v u) Q X.xe s₂) X.xe s₁) X.xe s:=by
  refine thn (ha pins s σ H _ I h) fun v s1 ⟨x,H1,I1,r1,q1⟩=>?_
  refine thn (hb pins s1 σ H1 _ I1 q1) fun u s2 ⟨y,H2,I2,r2,q2⟩=>?_
  exact hf v u s2 x y H2 I2 r1 r2 q2
theorem pe_op {op:Operator} {r:R2} (ho:OpR X (binaryOp op) r) (ha:PE X a ta) (hb:PE X b tb):PE X (.BinOp a op b pos) (tOp r ta tb):=by
  intro pins s σ H Q I h
  exact wpAny_BinOp (binT ha hb I h fun v u s2 x y H2 I2 rx ry q=>ho pins s2 σ H2 x y v u Q I2 rx ry q)
theorem opI {f:Value→Value→Sem Value} {C:Int→Int→Prop} {g:Int→Int→Int}
    (rule:∀ (i j:Int) (t u:Tok) (s:Shared) (Q:Value→Shared→Prop) (E:Value→Shared→Prop),C i j→Q (.int (g i j) s.toks) { s with toks:=s.toks + 1 }→wpAny (model X.prog X.w) X.A (f (.int i t) (.int j u)) Q E s) :
    OpR X f (rI C fun i j=>.int (g i j)):=by
  intro pins s σ H x y v u Q I rx ry h
  obtain ⟨i,j,rfl,rfl,hc,q⟩:=h
  obtain ⟨t,rfl⟩:=rx
  obtain ⟨t',rfl⟩:=ry
  exact rule i j t t' s _ _ hc ⟨.int (g i j),H,I.tok _,⟨_,rfl⟩,q⟩
theorem opI0 {f:Value→Value→Sem Value} {g:Int→Int→Int}
    (rule:∀ (i j:Int) (t u:Tok) (s:Shared) (Q:Value→Shared→Prop) (E:Value→Shared→Prop),Q (.int (g i j) s.toks) { s with toks:=s.toks + 1 }→wpAny (model X.prog X.w) X.A (f (.int i t) (.int j u)) Q E s) :
    OpR X f (rI0 fun i j=>.int (g i j)):=by
  intro pins s σ H x y v u Q I rx ry h
  obtain ⟨i,j,rfl,rfl,q⟩:=h
  obtain ⟨t,rfl⟩:=rx
  obtain ⟨t',rfl⟩:=ry
  exact rule i j t t' s _ _ ⟨.int (g i j),H,I.tok _,⟨_,rfl⟩,q⟩
theorem opB0 {f:Value→Value→Sem Value} {g:Int→Int→Bool}
    (rule:∀ (i j:Int) (t u:Tok) (s:Shared) (Q:Value→Shared→Prop) (E:Value→Shared→Prop),Q (.bool (g i j)) s→wpAny (model X.prog X.w) X.A (f (.int i t) (.int j u)) Q E s) :
    OpR X f (rI0 fun i j=>.bl (g i j)):=by
  intro pins s σ H x y v u Q I rx ry h
  obtain ⟨i,j,rfl,rfl,q⟩:=h
  obtain ⟨t,rfl⟩:=rx
  obtain ⟨t',rfl⟩:=ry
  exact rule i j t t' s _ _ ⟨.bl (g i j),H,I,rfl,q⟩
noncomputable def CPow (i j:Int):Prop:=0≤j∧j≤1000000∧i.natAbs < 2 ^ 64
theorem op_add:OpR X (binaryOp .Add) (rI0 fun i j=>.int (i + j)):=opI0 fun _ _ _ _ _ _ _ q=>add_int q
theorem op_sub:OpR X (binaryOp .Sub) (rI0 fun i j=>.int (i - j)):=opI0 fun _ _ _ _ _ _ _ q=>sub_int q
theorem op_mod:OpR X (binaryOp .Mod) (rI (fun _ j=>0 < j) fun i j=>.int (i % j)):=opI fun i j _ _ _ _ _ hc q=>by
  have h1:(0:Int) < j:=hc
  exact mod_int' (by omega) (by rw [Int.fmod_eq_emod_of_nonneg i (by omega)]; exact q)
theorem op_pow:OpR X (binaryOp .Pow) (rI CPow fun i j=>.int (i ^ j.toNat)):=opI fun _ _ _ _ _ _ _ hc q=>pow_int_small hc.1 hc.2.1 hc.2.2 q
end
section
variable {X:Cx} {a b c:Expr} {ta tb tc:TE} {pos:Pos}
theorem op_lt:OpR X (compareOp .Lt) (rI0 fun i j=>.bl (decide (i < j))):=opB0 fun _ _ _ _ _ _ _ q=>lt_int q
theorem op_gt:OpR X (compareOp .Gt) (rI0 fun i j=>.bl (decide (j < i))):=opB0 fun _ _ _ _ _ _ _ q=>gt_int q
theorem op_ge:OpR X (compareOp .GtE) (rI0 fun i j=>.bl (decide (j≤i))):=opB0 fun _ _ _ _ _ _ _ q=>ge_int q
theorem nomark (b:Expr) {op:CmpOp} (h:op≠.In:=by decide) (h2:op≠.NotIn:=by decide):behindInMarks op b=false:=by
  have e1:(op == CmpOp.In)=false:=by cases op <;> first | rfl | exact absurd rfl h
  have e2:(op == CmpOp.NotIn)=false:=by cases op <;> first | rfl | exact absurd rfl h2
  cases b <;> simp [behindInMarks,e1,e2]
theorem pe_cmpR {op:CmpOp} {r:R2} (ho:OpR X (compareOp op) r) (ha:PE X a ta) (hb:PE X b tb) (hm:behindInMarks op b=false):PE X (.Compare a [op] [b] pos) (tOp r ta tb):=by
  intro pins s σ H Q I h
  exact wpAny_Compare1 (binT ha hb I h fun v u s2 x y H2 I2 rx ry q=>ho pins s2 σ H2 x y v u Q I2 rx ry q) hm
noncomputable def tTest (t:TE):TT:=fun σ H Q=>t σ H fun x H'=>∃ k,x=.bl k∧Q k H'
theorem pt_cmpR {op:CmpOp} {r:R2} (ho:OpR X (compareOp op) r) (ha:PE X a ta) (hb:PE X b tb) (hm:behindInMarks op b=false):PT X (.Compare a [op] [b] pos) (tTest (tOp r ta tb)):=by
  intro pins s σ H Q I h
  refine wpAny_isTrue_Compare1 (thn (ha pins s σ H _ I h) fun v s1 ⟨x,H1,I1,r1,q1⟩=>thn (hb pins s1 σ H1 _ I1 q1) fun u s2 ⟨y,H2,I2,r2,q2⟩ =>
    thn (ho pins s2 σ H2 x y v u _ I2 r1 r2 q2) fun c s3 ⟨z,H3,I3,r3,k,e,q3⟩=>?_) hm
  subst e
  cases r3
  exact wpAny_truthy_bool ⟨H3,I3,q3⟩
theorem line63:(sizeLine:Nat) < 2 ^ 63:=by rw [sizeLine_eq]; decide
theorem vals1 {x:V} {us:List Value} (r:Vals [x] us):∃ u,us=[u]∧RelV x u:=by
  cases r with
  | cons r1 r2=>cases r2; exact ⟨_,rfl,r1⟩
theorem vals2 {x y:V} {us:List Value} (r:Vals [x,y] us):∃ u w',us=[u,w']∧RelV x u∧RelV y w':=by
  cases r with
  | cons r1 r2 =>
    cases r2 with
    | cons r3 r4=>cases r4; exact ⟨_,_,rfl,r1,r3⟩
end
end L2
namespace L2
open PySem PySem.Spec PyProof.Rows
section
variable {prog:Program} {w:World} {A:Around} {E:Value→Shared→Prop} {s:Shared} {K:PySem.W.Frag} {x dx C f:Addr} {mA:Str→Option Value} {name:Str} {v:Value}
end
theorem RelO.some_of {v:V} {o:Option Value} (r:RelO (some v) o):∃ u,o=some u∧RelV v u:=by
  cases o with
  | none=>exact (show False from r).elim
  | some u=>exact ⟨u,rfl,r⟩
section
variable {P:Program} {w:World} {H H':Hp} {h h':Heap} {a C dx:Addr} {fs fs':List (Str × V)}
end
structure Cls (K:PySem.W.Frag) (C:Addr):Prop where
  pg:PySem.W.plainGet K C Str.empty=true
  hd:PySem.W.hasDictIn K C=true
  po:PySem.W.plainOver K C=true
  sa:PySem.W.findIn K (.ref C) "__setattr__"=some (some (.builtin "object.__setattr__"))
section
variable {X:Cx} {pins:List (Addr × Obj)} {σ:St} {H:Hp} {s:Shared} {a C dx:Addr} {fs:List (Str × V)} {f:Str} {v:V} {A:Around} {E:Value→Shared→Prop}
end
section
variable {X:Cx} {o e value:Expr} {f:Str} {pos pos' tpos:Pos} {ta tv:TE}
end
section
variable {X:Cx} {pins:List (Addr × Obj)} {σ:St} {H:Hp} {s:Shared} {A:Around} {E:Value→Shared→Prop} {Q:Value→Shared→Prop} {c:Value} {b:Bool}
end
end L2
namespace L2
open PySem PySem.Spec PyProof.Rows
structure Room (k:Nat) (A:Around):Prop where
  hd:A.handled=none
  dp:A.depth + 3 * k + 5 < recursionLimit
  un:A.units + 16 * k + 200 < cLine
theorem Room.mono {j k:Nat} {A:Around} (r:Room k A) (h:j≤k):Room j A:=⟨r.hd,by have:=r.dp; omega,by have:=r.un; omega⟩
theorem Room.deeper {k:Nat} {A:Around} (r:Room (k + 1) A) (env:Env):Room k (A.deeper env) :=
  ⟨r.hd,by have:=r.dp; show A.depth + 1 + 3 * k + 5 < _; omega,by have:=r.un; show A.units + 3 + 16 * k + 200 < _; omega⟩
theorem Room.depth {k:Nat} {A:Around} (r:Room k A):A.depth < recursionLimit:=by have:=r.dp; omega
theorem Room.units {k:Nat} {A:Around} (r:Room k A):A.units + 64 < cLine:=by have:=r.un; omega
noncomputable def tNil:TA:=fun _ H Q=>Q [] H
noncomputable def tCons (ta:TE) (tr:TA):TA:=fun σ H Q=>ta σ H fun x H1=>tr σ H1 fun xs H2=>Q (x :: xs) H2
section
variable {X:Cx} {e:Expr} {es:List Expr} {te:TE} {t:TA} {pos:Pos}
theorem pa_nil:PA X [] tNil:=fun _ _ _ _ H Q I h=>Calls.spliced_nil ⟨[],H,I,.nil,h⟩
theorem pa_cons (ha:PE X e te) (hr:PA X es t) (hs:starEach (e :: es) X.env=(false,eval e X.env) :: starEach es X.env:=by rfl):PA X (e :: es) (tCons te t):=by
  intro pos pins s σ H Q I h
  rw [hs]
  show wpAny _ _ (spliced ((false,eval e X.env) :: backTo pos (starEach es X.env))) _ _ s
  refine Calls.spliced_cons (thn (ha pins s σ H _ I h) fun u s1 ⟨x,H1,I1,r1,q1⟩=>?_)
  exact thn (hr pos pins s1 σ H1 _ I1 q1) fun us s2 ⟨xs,H2,I2,r2,q2⟩=>⟨x :: xs,H2,I2,.cons r1 r2,q2⟩
noncomputable def tLst (t:TA):TE:=fun σ H Q=>t σ H fun xs H1=>xs.length≤sizeLine∧∀ p,H1 p=none→Q (.ref p) (upd H1 p (.lst xs))
theorem pe_lst (h:PA X es t):PE X (.List es pos) (tLst t):=by
  intro pins s σ H Q I hq
  refine wpAny_List_spliced (thn (h pos pins s σ H _ I hq) fun us s1 ⟨xs,H1,I1,r,z,q⟩=>⟨by rw [← r.length]; exact z, ?_⟩)
  have hf:H1 s1.heap.objs.size=none:=I1.hok.fresh (Nat.le_refl _)
  refine ⟨.ref s1.heap.objs.size,upd H1 s1.heap.objs.size (.lst xs),I1.laid (t':=s1.toks) (fun b u e=>Heap.get?_push_of_some _ e) (Nat.le_refl _) ?_,rfl,q _ hf⟩
  exact ⟨z,us,0,r,Heap.get?_push_size _ rfl⟩
end
noncomputable abbrev Sp:=List V→Hp→VK→XK→Prop
noncomputable abbrev CXT:=List Env→Hp→Shared→XK→Value→Shared→Prop
structure Env0 (P:Program) (w:World) (K:PySem.W.Frag) (mg:Str→Option Value) (base:Heap) (A:Around) (outer:List Env) (s:Shared) (H:Hp):Prop where
  frames:A.frames=some outer
  mod:Mod K mg base
  bs:∀ b o,base.get? b=some o→s.heap.get? b=some o∧H b=none
  bsz:base.objs.size≤s.heap.objs.size
  funs:s.heap.FunFrames base outer
  frf:∀ b∈frs outer,H b=none
  hok:HOk P w H s.heap
  bare:AllBare s.gens
noncomputable def CE (outer:List Env) (P:Program) (w:World) (H:Hp) (s:Shared) (Q:VK) (u:Value) (s':Shared):Prop :=
  ∃ v H',s'.os=s.os∧AllBare s'.gens∧Un (frs outer) [] H H' s.heap s'.heap∧HOk P w H' s'.heap∧RelV v u∧Q v H'
noncomputable def CR (CX:CXT) (outer:List Env) (P:Program) (w:World) (H:Hp) (s:Shared) (Q:VK) (E:XK) (r:Result) (s':Shared):Prop :=
  match r with
  | .ok (.ret u)=>CE outer P w H s Q u s'
  | .ok _=>False
  | .error e=>CX outer H s E e s'
structure FnOk (P:Program) (w:World) (K:PySem.W.Frag) (mg:Str→Option Value) (base:Heap) (CX:CXT) (k:Nat) (f:Addr) (fd:FuncData) (ps:List Str) (sp:Sp):Prop where
  len:∀ vs H Q E,sp vs H Q E→vs.length=ps.length
  run:∀ (A:Around) (outer:List Env) (s:Shared) (H:Hp) (args:Args) (us:List Value) (vs:List V) (Q:VK) (E:XK),Room k A→Env0 P w K mg base A outer s H→BindsTo s fd args (ps.zip us)→Vals vs us→sp vs H Q E →
    codeAny (model P w) A (.call (.ref f) args) (CR CX outer P w H s Q E) s
section
variable {X:Cx} {pins:List (Addr × Obj)} {σ:St} {H:Hp} {s s':Shared}
theorem Inv.env0 (I:Inv X pins σ H s):Env0 X.prog X.w X.K X.mg X.base X.A X.stack s H :=
  ⟨I.ok.frames,I.ok.mod,I.bs,Nat.le_trans I.ok.bsz I.sz,I.stack,I.stkFree,I.hok,I.bare⟩
theorem Inv.after {Q:VK} {u:Value} (I:Inv X pins σ H s) (h:CE X.stack X.prog X.w H s Q u s'):EP X pins σ Q u s':=by
  obtain ⟨v,H',os,bare,un,hok,r,q⟩:=h
  obtain ⟨hh,g,d,t,os'⟩:=s'
  obtain rfl:os'=s.os:=os
  exact ⟨v,H',I.call (h':=hh) (g':=g) (d':=d) (t':=t) (ch:=[]) un hok bare (fun b z=>absurd z (by simp)),r,q⟩
end
noncomputable def tCall (sp:Sp) (dvs:List V) (E:XK) (t:TA):TE:=fun σ H Q=>t σ H fun vs H1=>sp (vs ++ dvs) H1 Q E
noncomputable def Binds (K:PySem.W.Frag) (fd:FuncData) (ps:List Str) (ds:List Value):Prop :=
  ∀ (s:Shared) (us:List Value),K.In s.heap→(us ++ ds).length=ps.length→BindsTo s fd ⟨us,[]⟩ (ps.zip (us ++ ds))
theorem Binds.all {K:PySem.W.Frag} {fd:FuncData} {ps:List Str} (h:∀ us:List Value,us.length=ps.length→bindArgs fd ⟨us,[]⟩=pure (ps.zip us)):Binds K fd ps []:=fun s us _ hl=>by
  rw [List.append_nil] at hl ⊢
  exact .of_eq (h us hl)
noncomputable def Passes (CX:CXT) (X:Cx) (E:XK):Prop:=∀ (pins:List (Addr × Obj)) (σ:St) (H:Hp) (s:Shared) (e:Value) (s':Shared),Inv X pins σ H s→CX X.stack H s E e s'→X.xe e s'
section
variable {X:Cx} {CX:CXT} {k:Nat} {f C:Addr} {fd:FuncData} {ps:List Str} {sp:Sp} {dvs:List V} {ds:List Value} {E:XK} {x m:Str} {p pos apos:Pos} {e o:Expr} {es:List Expr} {ta:TE} {t:TA}
theorem run_fn {pins:List (Addr × Obj)} {σ:St} {H:Hp} {s:Shared} {Q:VK} {us:List Value} {vs:List V} (F:FnOk X.prog X.w X.K X.mg X.base CX k f fd ps sp) (hr:Room k X.A) (hb:Binds X.K fd ps ds) (hd:Vals dvs ds) (hx:Passes CX X E)
    (I:Inv X pins σ H s) (r:Vals vs us) (h:sp (vs ++ dvs) H Q E):wpAny (model X.prog X.w) X.A (call (.ref f) us) (EP X pins σ Q) X.xe s:=by
  have r2:Vals (vs ++ dvs) (us ++ ds):=r.append hd
  have hl:(us ++ ds).length=ps.length:=by rw [← r2.length]; exact F.len _ _ _ _ h
  refine wpAny_call (codeAny_mono (F.run X.A X.stack s H ⟨us,[]⟩ (us ++ ds) (vs ++ dvs) Q E hr I.env0 (hb s us I.kIn hl) r2 h) fun r s' hq=>?_)
  cases r with
  | error e=>exact hx pins σ H s e s' I hq
  | ok fl =>
    cases fl with
    | ret u=>exact I.after hq
    | next=>exact False.elim hq
    | brk=>exact False.elim hq
    | cont=>exact False.elim hq
theorem pe_call (F:FnOk X.prog X.w X.K X.mg X.base CX k f fd ps sp) (hr:Room k X.A) (hg:Gl X x) (hm:X.mg x=some (.ref f)) (hk:PySem.W.keepIn X.K (.ref f)=true) (hb:Binds X.K fd ps ds) (hd:Vals dvs ds) (hx:Passes CX X E)
    (ha:PA X (e :: es) t) (hdb:(x == ("__debug__":Str))=false:=by decide) (he:starEach (e :: es) X.env=(false,eval e X.env) :: starEach es X.env:=by rfl) (hpl:(backTo pos (starEach es X.env)).any (·.1)=false:=by rfl) :
    PE X (.Call (.Name x p) (e :: es) [] pos) (tCall sp dvs E t):=by
  intro pins s σ H Q I h
  refine wpAny_Call_Name_kw (ld_glob I hg hm ?_ hdb)
  refine PySem.W.callWith_K (h₀:=X.base) I.ok.mod.kin hk (thn (ha pos pins s σ H _ I h) fun us s1 ⟨vs,H1,I1,r,q⟩=>⟨I1.kIn, ?_⟩) he hpl
  exact run_fn F hr hb hd hx I1 r q
theorem pe_call0 (F:FnOk X.prog X.w X.K X.mg X.base CX k f fd ps sp) (hr:Room k X.A) (hg:Gl X x) (hm:X.mg x=some (.ref f)) (hk:PySem.W.keepIn X.K (.ref f)=true) (hb:Binds X.K fd ps ds) (hd:Vals dvs ds) (hx:Passes CX X E)
    (hdb:(x == ("__debug__":Str))=false:=by decide):PE X (.Call (.Name x p) [] [] pos) (tCall sp dvs E tNil):=by
  intro pins s σ H Q I h
  refine wpAny_Call_Name_kw (ld_glob I hg hm ?_ hdb)
  exact PySem.W.callWith_K0 I.kIn hk (run_fn (us:=[]) F hr hb hd hx I .nil h)
end
section
variable {X:Cx} {CX:CXT} {k:Nat} {f C:Addr} {fd:FuncData} {ps ks:List Str} {sp:Sp} {E:XK} {x m:Str} {p pos apos kpos:Pos} {e o:Expr} {es:List Expr} {kws:List Keyword} {te ta:TE} {t tk:TA} {nm:Option Str}
variable {g:List Value→List Value→List Value} {gV:List V→List V→List V}
end
structure FnScope (N P:List Str) (sc:Scope):Prop where
  kind:sc.kind=.function
  co:sc.isCoroutine=false
  gen:sc.isGenerator=false
  nd:N.Nodup
  pre:N.take P.length=P
  par:∀ x∈P,sc.names.lookup x=some .local ∨ sc.names.lookup x=some .cell
  nofree:∀ y∈sc.names,y.2≠.free
theorem bindL_out {kindOf:Str→Option NameKind} {x:Str}:∀ {binds:List (Str × Value)} {m:Str→Option Value},(∀ v,(x,v) ∉ binds)→bindL kindOf binds m x=m x
  | [],_,_=>rfl
  | (n,v) :: r,m,h=>by
    unfold bindL
    rw [bindL_out fun w hw=>h w (List.mem_cons_of_mem _ hw)]
    split
    · have:x≠n:=by rintro rfl; exact h v List.mem_cons_self
      simp [this]
    · rfl
theorem bindC_out {kindOf:Str→Option NameKind} {x:Str}:∀ {binds:List (Str × Value)} {m:Str→Option Value},(∀ v,(x,v) ∉ binds)→bindC kindOf binds m x=m x
  | [],_,_=>rfl
  | (n,v) :: r,m,h=>by
    unfold bindC
    rw [bindC_out fun w hw=>h w (List.mem_cons_of_mem _ hw)]
    split
    · rfl
    · have:x≠n:=by rintro rfl; exact h v List.mem_cons_self
      simp [this]
theorem bindL_get {kindOf:Str→Option NameKind} {x:Str} {v:Value}:∀ {P:List Str} {vs:List Value} {i:Nat} {m:Str→Option Value},P.Nodup→P[i]?=some x→vs[i]?=some v→kindOf x=some .local →
    bindL kindOf (P.zip vs) m x=some v
  | [],_,_,_,_,h,_,_=>by simp at h
  | _ :: _,[],_,_,_,_,h,_=>by simp at h
  | p :: P,w :: vs,0,m,nd,h1,h2,hk=>by
    simp at h1 h2; subst h1; subst h2
    show bindL kindOf ((p,w) :: P.zip vs) m p=_
    unfold bindL
    rw [bindL_out fun v hv=>(List.nodup_cons.mp nd).1 (List.of_mem_zip hv).1,if_pos hk]
    simp
  | p :: P,w :: vs,i + 1,m,nd,h1,h2,hk=>by
    show bindL kindOf ((p,w) :: P.zip vs) m x=_
    unfold bindL
    exact bindL_get (i:=i) (List.nodup_cons.mp nd).2 (by simpa using h1) (by simpa using h2) hk
theorem bindC_get {kindOf:Str→Option NameKind} {x:Str} {v:Value}:∀ {P:List Str} {vs:List Value} {i:Nat} {m:Str→Option Value},P.Nodup→P[i]?=some x→vs[i]?=some v→kindOf x≠some .local →
    bindC kindOf (P.zip vs) m x=some v
  | [],_,_,_,_,h,_,_=>by simp at h
  | _ :: _,[],_,_,_,_,h,_=>by simp at h
  | p :: P,w :: vs,0,m,nd,h1,h2,hk=>by
    simp at h1 h2; subst h1; subst h2
    show bindC kindOf ((p,w) :: P.zip vs) m p=_
    unfold bindC
    rw [bindC_out fun v hv=>(List.nodup_cons.mp nd).1 (List.of_mem_zip hv).1,if_neg hk]
    simp
  | p :: P,w :: vs,i + 1,m,nd,h1,h2,hk=>by
    show bindC kindOf ((p,w) :: P.zip vs) m x=_
    unfold bindC
    exact bindC_get (i:=i) (List.nodup_cons.mp nd).2 (by simpa using h1) (by simpa using h2) hk
noncomputable def start (N:List Str) (vs:List V):St:=vs.map some ++ List.replicate (N.length - vs.length) none
noncomputable def cxOf (CX:CXT) (P:Program) (w:World) (K:PySem.W.Frag) (mg:Str→Option Value) (base:Heap) (N:List Str) (qual:Str) (scope:Scope) (f:Addr) (cd:Value) (A:Around) (outer:List Env) (s:Shared) (H:Hp) (E:XK):Cx where
  prog:=P
  w:=w
  K:=K
  mg:=mg
  base:=base
  A:=A.deeper (envOfC qual scope s.heap.objs.size f cd)
  N:=N
  s₀:=s
  H₀:=H
  env:=envOfC qual scope s.heap.objs.size f cd
  outer:=outer
  stack:=envOfC qual scope s.heap.objs.size f cd :: outer
  ex:=[]
  calm:=true
  fn:=fun _=>true
  pn:=[]
  xe:=fun e s'=>wpAny (model P w) (A.deeper (envOfC qual scope s.heap.objs.size f cd)) (leaving (envOfC qual scope s.heap.objs.size f cd) e) (fun _ s''=>CX outer H s E e s'') (fun e' s''=>CX outer H s E e' s'') s'
theorem cell_has {sc:Scope} {n:Nat} {x:Str} (h:sc.names.lookup x=some .cell):∃ c,(cellsFrom n sc.names []).lookup x=some c:=by
  have q:=PySem.W.cellsFrom_some sc.names n [] (.inl h)
  exact Option.isSome_iff_exists.mp q
theorem inv_start {CX:CXT} {P:Program} {w:World} {K:PySem.W.Frag} {mg:Str→Option Value} {base:Heap} {N ps:List Str} {qual:Str} {scope:Scope} {f:Addr} {cd:Value} {A:Around} {outer:List Env} {s s1:Shared} {H:Hp} {E:XK} {us:List Value} {vs:List V}
    (S:FnScope N ps scope) (hd:A.handled=none) (e0:Env0 P w K mg base A outer s H) (hl:vs.length=ps.length) (r:Vals vs us)
    (x:InCallC s s.heap.objs.size (bindL (envOfC qual scope s.heap.objs.size f cd).kindOf (ps.zip us) fun _=>none) (cellsFrom (s.heap.objs.size + 1) scope.names []) (bindC (envOfC qual scope s.heap.objs.size f cd).kindOf (ps.zip us) fun _=>none) s1) :
    Inv (cxOf CX P w K mg base N qual scope f cd A outer s H E) [] (start N vs) H s1:=by
  have hpl:ps.length≤N.length:=by have:=congrArg List.length S.pre; rw [List.length_take] at this; omega
  obtain ⟨h1,tk,rfl,hk⟩:=x.done
  have noA:∀ b:Addr,b ∉ (cxOf CX P w K mg base N qual scope f cd A outer s H E).ex:=fun b z=>absurd (show b∈([]:List Addr) from z) (by simp)
  refine ⟨⟨e0.mod,S.kind,rfl,rfl,Nat.le_refl _,fun y z c h1 h2=>?_,fun y hy=>?_,fun y c _ h=>?_,fun _=>hd,Around.frames_deeper e0.frames,.inr ⟨rfl,rfl⟩,fun b z=>absurd z (noA b),e0.bs,e0.bsz,fun b _ _=>noA b,fun b z=>absurd z (noA b),e0.funs,e0.frf⟩,
    rfl,e0.bare,Un.kept hk,⟨_,x.toInCall.ns,fun i y v h1 h2 h3=>?_⟩,fun y c h=>⟨_,x.cell y c h⟩,e0.hok.fresh (Nat.le_refl _),fun y c h=>?_,fun p hp=>absurd (show p∈([]:List (Addr × Obj)) from hp) (by simp),e0.hok.kept hk, ?_⟩
  · exact name_of_addr x.apart (PySem.mem_of_lookup h1) (PySem.mem_of_lookup h2)
  · have hy:scope.names.lookup y=some .cell ∨ scope.names.lookup y=some .free:=hy
    rcases hy with hy | hy
    · exact cell_has hy
    · exact absurd rfl (S.nofree _ (PySem.mem_of_lookup hy))
  · exact Nat.le_of_lt (x.above y c (PySem.mem_of_lookup h))
  · have hi:i < vs.length:=by
      unfold start at h2
      by_cases hi:i < vs.length
      · exact hi
      · rw [List.getElem?_append_right (by simpa using hi)] at h2
        rw [List.getElem?_replicate] at h2
        split at h2 <;> cases h2
    have ha:vs[i]?=some v:=by
      unfold start at h2
      rw [List.getElem?_append_left (by simpa using hi),List.getElem?_map] at h2
      cases e:vs[i]? with
      | none=>rw [e] at h2; cases h2
      | some a=>rw [e] at h2; cases h2; rfl
    obtain ⟨u,hu,rv⟩:=r.get ha
    have hp:ps[i]?=some y:=by
      rw [← S.pre,List.getElem?_take_of_lt (by omega)]; exact h1
    have ndP:ps.Nodup:=by rw [← S.pre]; exact S.nd.sublist (List.take_sublist _ _)
    refine ⟨u,rv, ?_⟩
    rcases S.par y (List.mem_of_getElem? hp) with k | k
    · exact .inl ⟨k,bindL_get ndP hp hu k⟩
    · obtain ⟨c,e⟩:=cell_has (n:=s.heap.objs.size + 1) k
      refine .inr ⟨.inl k,c,e, ?_⟩
      have q:=x.cell y c e
      rw [bindC_get ndP hp hu (by show scope.names.lookup y≠_; rw [k]; decide)] at q
      exact q
  · exact e0.hok.fresh (Nat.le_of_lt (x.above y c (PySem.mem_of_lookup h)))
  · unfold start
    show _=N.length
    rw [List.length_append,List.length_map,List.length_replicate]
    omega
theorem fn_of {CX:CXT} {P:Program} {w:World} {K:PySem.W.Frag} {mg:Str→Option Value} {base:Heap} {k:Nat} {f:Addr} {name qual:Str} {params:Arguments} {body:List Stmt} {scope:Scope} {dV kV doc pm cdv ct oc:Value} {an od:Option Addr}
    {osl:Array (Option Value)} {N ps:List Str} {sp:Sp} (lk:K.lookup f=some ⟨oc,od,.func (PySem.W.fnOf name qual params body scope dV kV doc pm an cdv ct),osl⟩) (hcd:PySem.W.codeIn K cdv qual=true) (S:FnScope N ps scope)
    (len:∀ vs H Q E,sp vs H Q E→vs.length=ps.length)
    (hbody:∀ (A:Around) (outer:List Env) (s:Shared) (H:Hp) (vs:List V) (Q:VK) (E:XK),Room k (A.deeper (envOfC qual scope s.heap.objs.size f cdv))→sp vs H Q E →
      ∃ t,PSs (cxOf CX P w K mg base N qual scope f cdv A outer s H E) body t∧t { nx:=fun _ H'=>Q .non H',rt:=Q } (start N vs) H) :
    FnOk P w K mg base CX (k + 1) f (PySem.W.fnOf name qual params body scope dV kV doc pm an cdv ct) ps sp:=by
  refine ⟨len,fun A outer s H args us vs Q E hr e0 hb r hsp=>?_⟩
  have hl:=len _ _ _ _ hsp
  have KX:K.In s.heap:=e0.mod.kin.keeps fun b o e=>(e0.bs b o e).1
  have lim:s.heap.NoLimit:=e0.mod.nolimit.keeps fun b o e=>(e0.bs b o e).1
  have hkind:∀ y∈ps.zip us,scope.names.lookup y.1=some .local ∨ (scope.names.lookup y.1=some .cell∧((cellsFrom (s.heap.objs.size + 1) scope.names []).lookup y.1).isSome=true):=fun ⟨n,v⟩ hy=>by
    rcases S.par n (List.of_mem_zip hy).1 with q | q
    · exact .inl q
    · exact .inr ⟨q,PySem.W.cellsFrom_some _ _ _ (.inl q)⟩
  refine codeAny_call_function hr.depth (KX _ _ lk) rfl S.co S.gen rfl (PySem.W.codeRec_of KX hcd) (hb _ _ _ _ ?_)
  refine wpAny_newFunctionEnv_cells S.kind hkind fun env he s1 x=>?_
  subst he
  refine ⟨lim.keeps x.toInCall.keep,codeAny_func ?_⟩
  obtain ⟨t,ht,hq⟩:=hbody A outer s H vs Q E (hr.deeper _) hsp
  have I:Inv (cxOf CX P w K mg base N qual scope f cdv A outer s H E) [] (start N vs) H s1:=inv_start S hr.hd e0 hl r x
  refine wpAny_mono (ht [] s1 (start N vs) H _ I hq) (fun fl s' hs=>?_) fun e s' hs=>hs
  have fin:∀ {σ':St} {H':Hp} {v:V} {u:Value},Inv (cxOf CX P w K mg base N qual scope f cdv A outer s H E) [] σ' H' s'→RelV v u→Q v H'→CE outer P w H s Q u s' :=
    fun {σ' H' v u} J rv q=>⟨v,H',J.os,J.bare,J.base,J.hok,rv,q⟩
  cases fl with
  | ret u =>
    obtain ⟨v,σ',H',J,rv,q⟩:=hs
    exact fin J rv q
  | next =>
    obtain ⟨σ',H',J,q⟩:=hs
    exact fin (v:=V.non) (u:=Value.none) J rfl q
  | brk =>
    obtain ⟨_,_,_,q⟩:=hs
    exact False.elim q
  | cont =>
    obtain ⟨_,_,_,q⟩:=hs
    exact False.elim q
end L2
namespace L2
open PySem PySem.Spec PyProof.Rows
section
variable {X:Cx} {x:Str} {p pos:Pos} {e:Expr} {es:List Expr} {t:TA} {id T:String} {r:List V→Hp→VK→Prop}
noncomputable def tCB (r:List V→Hp→VK→Prop) (t:TA):TE:=fun σ H Q=>t σ H fun vs H1=>r vs H1 Q
theorem pe_callB (hc:CallR X (.builtin id) r) (hg:Gl X x) (hm:X.mg x=none) (hv:bootBuiltins x=some (.builtin id)) (ha:PA X (e :: es) t) (hn:x ≠ "__name__":=by decide) (hdb:(x == ("__debug__":Str))=false:=by decide)
    (he:starEach (e :: es) X.env=(false,eval e X.env) :: starEach es X.env:=by rfl) (hpl:(backTo pos (starEach es X.env)).any (·.1)=false:=by rfl):PE X (.Call (.Name x p) (e :: es) [] pos) (tCB r t):=by
  intro pins s σ H Q I h
  refine wpAny_Call_Name_kw (ld_blt I hg hm hv ?_ hn hdb)
  exact PyProof.Rows.callWith_builtin1 (thn (ha pos pins s σ H _ I h) fun us s1 ⟨vs,H1,I1,r1,q1⟩=>hc pins s1 σ H1 vs us Q I1 r1 q1) he hpl
end
end L2
namespace HT
open PySem PyProof.Rows
noncomputable def lexLt:List Int→List Int→Bool
  | [],[]=>false
  | [],_ :: _=>true
  | _ :: _,[]=>false
  | x :: xs,y :: ys=>if x=y then lexLt xs ys else decide (x < y)
theorem lexLt_cons (x y:Int) (xs ys:List Int):lexLt (x :: xs) (y :: ys)=if x=y then lexLt xs ys else decide (x < y):=rfl
theorem lexLt_nil_nil:lexLt [] []=false:=rfl
theorem lexLt_nil_cons (y:Int) (ys:List Int):lexLt [] (y :: ys)=true:=rfl
theorem lexLt_cons_nil (x:Int) (xs:List Int):lexLt (x :: xs) []=false:=rfl
theorem eqAt_int (A:Around) (s:Shared) (a:Int) (t:Tok) (c:Int) (u:Tok):∃ e,SeqAt.EqAt A s (.int a t) (.int c u) e∧(e=true ↔ a=c) :=
  ⟨(a == c),SeqAt.EqAt.int_int a t c u,by simp⟩
theorem rcLt_int (A:Around) (s:Shared) (a:Int) (t:Tok) (c:Int) (u:Tok) (prog:Program) (w:World) (E:Value→Shared→Prop) (Q:Value→Shared→Prop) (h:Q (.bool (decide (a < c))) s) :
    wpAny (model prog w) A (richCompare .Lt (.int a t) (.int c u)) Q E s :=
  (PyProof.Rows.lt_int h:wpAny (model prog w) A (compareOp .Lt (.int a t) (.int c u)) Q E s)
section
open PySem.SeqAt
open PySem.AutoSeq1 (wpAny_loadPart')
open PySem.MeetsSeq PySem.MeetsSeq2 PySem.MeetsSeq3
end
section
variable {prog:Program} {w:World} {A:Around} {E:Value→Shared→Prop} {s:Shared}
noncomputable def sIx (n d:Nat):Option Int→Nat
  | none=>d
  | some v=>if v < 0 then (v + (n:Int)).toNat else min v.toNat n
end
end HT
namespace L2
open PySem PySem.Spec PyProof.Rows
noncomputable abbrev TO:=St→Hp→(Option Int→Hp→Prop)→Prop
noncomputable def PO (X:Cx) (e:Option Expr) (t:TO):Prop :=
  ∀ (pins:List (Addr × Obj)) (s:Shared) (σ:St) (H:Hp) (Q:Option Int→Hp→Prop),Inv X pins σ H s→t σ H Q →
    wpAny (model X.prog X.w) X.A (evalPart e X.env) (fun u s'=>∃ o H',Inv X pins σ H' s'∧IsPart u o∧Q o H') X.xe s
noncomputable def tNoPart:TO:=fun _ H Q=>Q none H
noncomputable def tPart (t:TE):TO:=fun σ H Q=>t σ H fun x H1=>∃ i,x=.int i∧Q (some i) H1
theorem intsAre_of {ns:List Int}:∀ {us:List Value},Vals (ns.map V.int) us→IntsAre us ns:=by
  induction ns with
  | nil=>intro us r; rw [List.map_nil] at r; cases r; exact .nil
  | cons n ns ih =>
    intro us r
    rw [List.map_cons] at r
    cases r with
    | cons r1 r2 =>
      obtain ⟨t,e⟩:=r1
      subst e
      exact .cons n t (ih r2)
section
variable {X:Cx} {e:Expr} {te:TE} {lo hi:Option Expr} {tl th:TO} {pos p2:Pos}
theorem po_none:PO X none tNoPart:=by
  intro pins s σ H Q I h
  rw [evalPart_none]
  exact wpAny_pure ⟨none,H,I,.none,h⟩
theorem po_some (h:PE X e te):PO X (some e) (tPart te):=by
  intro pins s σ H Q I hw
  rw [evalPart_some]
  refine thn (h pins s σ H _ I hw) fun u s1 ⟨x,H1,I1,r1,q1⟩=>?_
  obtain ⟨i,rfl,q⟩:=q1
  obtain ⟨t,rfl⟩:=r1
  exact ⟨some i,H1,I1,.int i t,q⟩
noncomputable def SlR (X:Cx) (r:V→Option Int→Option Int→Hp→VK→Prop):Prop :=
  ∀ (pins:List (Addr × Obj)) (s:Shared) (σ:St) (H:Hp) (x:V) (v vl vu:Value) (lo hi:Option Int) (sl:Addr) (Q:VK),Inv X pins σ H s→RelV x v→s.heap.IsSliceOf sl vl vu .none→IsPart vl lo→IsPart vu hi→r x lo hi H Q →
    ∃ T id,typeLookup (.type T) "__getitem__"=pure (some (.builtin id))∧s.TypeIs v T∧wpAny (model X.prog X.w) X.A (getItem v (.ref sl)) (EP X pins σ Q) X.xe s
noncomputable def tSl (r:V→Option Int→Option Int→Hp→VK→Prop) (te:TE) (tl th:TO):TE:=fun σ H Q=>te σ H fun x H1=>tl σ H1 fun l H2=>th σ H2 fun u H3=>r x l u H3 Q
theorem pe_slice {r:V→Option Int→Option Int→Hp→VK→Prop} (hr:SlR X r) (he:PE X e te) (hl:PO X lo tl) (hu:PO X hi th):PE X (.Subscript e (.Slice lo hi none p2) pos) (tSl r te tl th):=by
  intro pins s σ H Q I h
  refine Subscript_ (thn (he pins s σ H _ I h) fun v s1 ⟨x,H1,I1,r1,q1⟩=>?_)
  refine wpAny_Slice (thn (hl pins s1 σ H1 _ I1 q1) fun vl s2 ⟨l,H2,I2,pl,q2⟩=>thn (hu pins s2 σ H2 _ I2 q2) fun vu s3 ⟨u,H3,I3,pu,q3⟩=>?_)
  rw [evalPart_none]
  refine wpAny_pure ?_
  have I4:Inv X pins σ H3 { s3 with heap:=s3.heap.push { cls:=.type "slice",data:=.fields #[vl,vu,.none] } }:=I3.kept (t':=s3.toks) fun b ob q=>Heap.get?_push_of_some _ q
  obtain ⟨T,id,hT,ht,hg⟩:=hr pins { s3 with heap:=s3.heap.push { cls:=.type "slice",data:=.fields #[vl,vu,.none] } } σ H3 x v vl vu l u s3.heap.objs.size Q I4 r1 (Heap.IsSliceOf.new ..) pl pu q3
  show wpAny (model X.prog X.w) X.A (subscriptTail e (.Slice lo hi none p2) v (.ref s3.heap.objs.size)) (EP X pins σ Q) X.xe { s3 with heap:=s3.heap.push { cls:=.type "slice",data:=.fields #[vl,vu,.none] } }
  exact tail_any (ops:=[.ref s3.heap.objs.size,v]) ht hT hg (by with_unfolding_all rfl)
noncomputable def cutV (xs:List V) (lo hi:Option Int):List V:=(xs.drop (HT.sIx xs.length 0 lo)).take (HT.sIx xs.length xs.length hi - HT.sIx xs.length 0 lo)
theorem cutV_length (xs:List V) (lo hi:Option Int):(cutV xs lo hi).length≤xs.length:=by
  unfold cutV
  rw [List.length_take,List.length_drop]
  omega
end
end L2
namespace L2
open PySem PySem.Spec PyProof.Rows
noncomputable def ixN (n:Nat) (i:Int):Option Nat:=if 0≤i then (if i < n then some i.toNat else none) else if -(n:Int)≤i then some (i + n).toNat else none
noncomputable def atI {α:Type} (xs:List α) (i:Int):Option α:=(ixN xs.length i).bind fun j=>xs[j]?
theorem ixN_seq {n:Nat} {i:Int} {j:Nat} (h:ixN n i=some j):seqIndex? i n=some j∧j < n∧-(n:Int)≤i∧i < n:=by
  unfold ixN at h
  by_cases h0:0≤i
  · rw [if_pos h0] at h
    by_cases h1:i < n
    · rw [if_pos h1] at h
      have e:i.toNat=j:=Option.some.inj h
      exact ⟨by rw [seqIndex_of h0 h1,e],by omega,by omega,h1⟩
    · rw [if_neg h1] at h; cases h
  · rw [if_neg h0] at h
    by_cases h1:-(n:Int)≤i
    · rw [if_pos h1] at h
      have e:(i + n).toNat=j:=Option.some.inj h
      exact ⟨by rw [seqIndex_neg (by omega) h1,e],by omega,h1,by omega⟩
    · rw [if_neg h1] at h; cases h
theorem atI_get {α:Type} {xs:List α} {i:Int} {v:α} (h:atI xs i=some v):∃ j,seqIndex? i xs.length=some j∧xs[j]?=some v∧j < xs.length∧-(xs.length:Int)≤i∧i < xs.length:=by
  unfold atI at h
  cases e:ixN xs.length i with
  | none=>rw [e] at h; cases h
  | some j =>
    rw [e] at h
    obtain ⟨h1,h2,h3,h4⟩:=ixN_seq e
    exact ⟨j,h1,h,h2,h3,h4⟩
noncomputable def PlainIx (b:Expr):Prop:=∀ o i,subscripted b false o i=operate [o,i] (getItem o i)
noncomputable def IxR (X:Cx) (r:R2):Prop :=
  ∀ (value slice:Expr) (pins:List (Addr × Obj)) (s:Shared) (σ:St) (H:Hp) (x y:V) (v u:Value) (Q:VK),Inv X pins σ H s→RelV x v→RelV y u→r x y H Q →
    subscripted slice false v u=operate [v,u] (getItem v u)→wpAny (model X.prog X.w) X.A (subscriptTail value slice v u) (EP X pins σ Q) X.xe s
noncomputable def MtR (X:Cx) (id:String) (r:V→List V→Hp→VK→Prop):Prop :=
  ∀ (pins:List (Addr × Obj)) (s:Shared) (σ:St) (H:Hp) (x:V) (xs:List V) (v:Value) (us:List Value) (Q:VK),Inv X pins σ H s→RelV x v→Vals xs us→r x xs H Q →
    wpAny (model X.prog X.w) X.A (call (.builtin id) (v :: us)) (EP X pins σ Q) X.xe s
section
variable {X:Cx} {a b:Expr} {ta tb:TE} {pos:Pos}
theorem IxR.or {r r':R2} (h:IxR X r) (h':IxR X r'):IxR X (fun x y H Q=>r x y H Q ∨ r' x y H Q):=by
  intro value slice pins s σ H x y v u Q I rx ry q hs
  rcases q with q | q
  · exact h value slice pins s σ H x y v u Q I rx ry q hs
  · exact h' value slice pins s σ H x y v u Q I rx ry q hs
theorem pe_ix {r:R2} (hr:IxR X r) (ha:PE X a ta) (hb:PE X b tb) (hs:PlainIx b):PE X (.Subscript a b pos) (tOp r ta tb):=by
  intro pins s σ H Q I h
  exact Subscript_ (binT ha hb I h fun v u s2 x y H2 I2 rx ry q=>hr a b pins s2 σ H2 x y v u Q I2 rx ry q (hs _ _))
noncomputable def rIxL (K:PySem.W.Frag):R2:=fun x y H Q=>∃ p xs i v,x=.ref p∧y=.int i∧SqL K H p xs∧atI xs i=some v∧Q v H
noncomputable def rIxT (K:PySem.W.Frag):R2:=fun x y H Q=>∃ p xs i v,x=.ref p∧y=.int i∧SqT K H p xs∧atI xs i=some v∧Q v H
noncomputable def rIxS:R2:=fun x y H Q=>∃ z i c,x=.str z∧y=.int i∧z.length≤sizeLine∧atI z.cps.toList i=some c∧Q (.str ⟨#[c]⟩) H
theorem ix_list:IxR X (rIxL X.K):=by
  intro value slice pins s σ H x y v u Q I rx ry h hs
  obtain ⟨p,xs,i,z,rfl,rfl,hq,he,q⟩:=h
  cases rx
  obtain ⟨t,rfl⟩:=ry
  obtain ⟨its,r,pl,hz⟩:=I.list hq
  obtain ⟨j,h1,h2,h3,h4,h5⟩:=atI_get he
  obtain ⟨w,ew,rw'⟩:=r.get h2
  have hl:=r.length
  have hn:=line63
  have fin:EP X pins σ Q w s:=⟨z,H,I,rw',q⟩
  by_cases h0:0≤i
  · have hj:i.toNat=j:=by
      rw [seqIndex_of h0 h5] at h1
      exact Option.some.inj h1
    exact item_listR pl.isList h0 (by omega) (by rw [hj]; simpa using ew) fin hs
  · have hj:(i + (its.toArray.size:Int)).toNat=j:=by
      rw [seqIndex_neg (by omega) h4] at h1
      rw [List.size_toArray,← hl]
      exact Option.some.inj h1
    exact subscriptTail_builtinR (x:=w) pl.isList.typeIs slot_list_getitem.lookup
      (wpAny_getItem_list_neg (Q:=fun r s'=>r=w∧EP X pins σ Q r s') pl.isList (by omega) (by rw [List.size_toArray] <;> omega) (by omega) (by rw [hj]; simpa using ew) ⟨rfl,fin⟩) hs
theorem ix_tup:IxR X (rIxT X.K):=by
  intro value slice pins s σ H x y v u Q I rx ry h hs
  obtain ⟨p,xs,i,z,rfl,rfl,hq,he,q⟩:=h
  cases rx
  obtain ⟨t,rfl⟩:=ry
  obtain ⟨its,r,pl,hz⟩:=I.tuple hq
  obtain ⟨j,h1,h2,h3,h4,h5⟩:=atI_get he
  obtain ⟨w,ew,rw'⟩:=r.get h2
  have hl:=r.length
  have hn:=line63
  have fin:EP X pins σ Q w s:=⟨z,H,I,rw',q⟩
  exact subscriptTail_builtinR (x:=w) pl.typeIs slot_tuple_getitem.lookup
    (getItem_tuple (j:=j) (Q:=fun r s'=>r=w∧EP X pins σ Q r s') pl (by omega) (by omega) (by rw [List.size_toArray,← hl]; exact h1) (by simpa using ew) ⟨rfl,fin⟩) hs
theorem ix_str:IxR X rIxS:=by
  intro value slice pins s σ H x y v u Q I rx ry h hs
  obtain ⟨z,i,c,rfl,rfl,hz,he,q⟩:=h
  obtain ⟨t,rfl⟩:=rx
  obtain ⟨t',rfl⟩:=ry
  obtain ⟨j,h1,h2,h3,h4,h5⟩:=atI_get he
  have hl:z.cps.toList.length=z.length:=by simp [Str.length]
  rw [hl] at h1 h4 h5
  have hn:=line63
  exact tail_any (typeIs_str s z t) slot_str_getitem.lookup (getItem_str (c:=c) (by
    have e1:decide (i < -(2 ^ 63:Int))=false:=decide_eq_false (by omega)
    have e2:decide (i ≥ 2 ^ 63)=false:=decide_eq_false (by omega)
    rw [e1,e2,Bool.or_false]) (by rw [h1]; simpa using h2) ⟨.str ⟨#[c]⟩,H,I.tok _,⟨_,rfl⟩,q⟩) hs
noncomputable def rIx (K:PySem.W.Frag):R2:=fun x y H Q=>rIxL K x y H Q ∨ rIxT K x y H Q ∨ rIxS x y H Q
theorem ix_seq:IxR X (rIx X.K):=ix_list.or (ix_tup.or ix_str)
theorem slice_bounds (lo hi:Option Int) (n:Nat):(sliceBounds lo hi none n).1=((HT.sIx n 0 lo:Nat):Int)∧(sliceBounds lo hi none n).2.1=((HT.sIx n n hi:Nat):Int)∧(sliceBounds lo hi none n).2.2=1:=by
  refine ⟨?_, ?_,rfl⟩
  · cases lo with
    | none=>simp [sliceBounds,HT.sIx]
    | some i =>
      simp only [sliceBounds,HT.sIx,Option.getD_none,show (1:Int) > 0 by decide,if_true]
      by_cases h:i < 0
      · simp only [h,if_true] <;> omega
      · simp only [h,if_false] <;> omega
  · cases hi with
    | none=>simp [sliceBounds,HT.sIx]
    | some i =>
      simp only [sliceBounds,HT.sIx,Option.getD_none,show (1:Int) > 0 by decide,if_true]
      by_cases h:i < 0
      · simp only [h,if_true] <;> omega
      · simp only [h,if_false] <;> omega
theorem slicePick_cut (its:List Value) (lo hi:Option Int):slicePick its.toArray lo hi none=((its.drop (HT.sIx its.length 0 lo)).take (HT.sIx its.length its.length hi - HT.sIx its.length 0 lo)).toArray:=by
  obtain ⟨h1,h2,h3⟩:=slice_bounds lo hi its.toArray.size
  unfold slicePick
  rw [h1,h2,h3]
  simp only [sliceRange_one,pick_run,List.size_toArray] <;> rfl
noncomputable def rSlL (K:PySem.W.Frag):V→Option Int→Option Int→Hp→VK→Prop:=fun x lo hi H Q=>∃ a xs,x=.ref a∧SqL K H a xs∧∀ p,H p=none→Q (.ref p) (upd H p (.lst (cutV xs lo hi)))
theorem sl_list:SlR X (rSlL X.K):=by
  intro pins s σ H x v vl vu lo hi sl Q I rx hs pl pu h
  obtain ⟨a,xs,rfl,hx,q⟩:=h
  cases rx
  obtain ⟨its,r,ht,hz⟩:=I.list hx
  have hlen:=r.length
  refine ⟨"list",_,slot_list_getitem.lookup,ht.isList.typeIs, ?_⟩
  refine wpAny_getItem_list_slice ht.isList hs pl pu .none (by simp) ?_ (by rw [List.size_toArray] <;> omega)
  rw [slicePick_cut,← hlen]
  refine ⟨.ref s.heap.objs.size,_,I.laid (t':=s.toks) (o:=.lst (cutV xs lo hi)) (fun b ob q=>Heap.get?_push_of_some _ q) (Nat.le_refl _) ?_,rfl,q _ (I.hok.fresh (Nat.le_refl _))⟩
  exact ⟨Nat.le_trans (cutV_length xs lo hi) hz,_,0,(r.drop (HT.sIx xs.length 0 lo)).take (HT.sIx xs.length xs.length hi - HT.sIx xs.length 0 lo),Heap.get?_push_size _ rfl⟩
noncomputable def tyV (K:PySem.W.Frag) (T:String) (x:V) (H:Hp):Prop:=match x with
  | .str _=>T = "str"
  | .int _=>T = "int"
  | .ref p=>(T = "list"∧∃ xs,SqL K H p xs) ∨ (T = "tuple"∧∃ o,K.lookup p=some o∧o.cls=.type "tuple"∧o.dict=none) ∨
      (T = "dict"∧((∃ kvs,H p=some (.dK kvs)) ∨ ∃ kvs,H p=some (.dT kvs))) ∨ (T = "set"∧∃ S n,H p=some (.set S n))
  | _=>False
theorem tyV_is {pins:List (Addr × Obj)} {σ:St} {H:Hp} {s:Shared} {T:String} {x:V} {v:Value} (I:Inv X pins σ H s) (r:RelV x v) (ty:tyV X.K T x H) :
    s.TypeIs v T∧∀ a,v=.ref a→∃ ob,s.heap.get? a=some ob∧ob.dict=none:=by
  cases x with
  | str z =>
    obtain ⟨t,rfl⟩:=r
    cases (show T = "str" from ty)
    exact ⟨typeIs_str s z t,fun _ e=>nomatch e⟩
  | int i =>
    obtain ⟨t,rfl⟩:=r
    cases (show T = "int" from ty)
    exact ⟨typeIs_int s i t,fun _ e=>nomatch e⟩
  | ref p =>
    cases r
    rcases ty with ⟨rfl,xs,hq⟩ | ⟨rfl,o,hk,hc,hd⟩ | ⟨rfl,hk⟩ | ⟨rfl,S,n,hk⟩
    · obtain ⟨its,_,pl,_⟩:=I.list hq
      refine ⟨pl.isList.typeIs,fun a e=>?_⟩
      cases e
      obtain ⟨o,n,e,c,hd,_⟩:=pl
      exact ⟨o,e,hd⟩
    · refine ⟨⟨o,I.kIn p o hk,hc⟩,fun a e=>?_⟩
      cases e
      exact ⟨o,I.kIn _ o hk,hd⟩
    · have z:∃ o,s.heap.get? p=some o∧o.ExactDict:=by
        rcases hk with ⟨kvs,hk⟩ | ⟨kvs,hk⟩
        · obtain ⟨_,_,_,_,o,_,_,e,ex,_⟩:=I.hok p _ hk
          exact ⟨o,e,ex⟩
        · obtain ⟨_,_,_,_,o,_,_,e,ex,_⟩:=I.hok p _ hk
          exact ⟨o,e,ex⟩
      obtain ⟨o,e,ex⟩:=z
      refine ⟨⟨o,e,ex.1⟩,fun a e2=>?_⟩
      cases e2
      exact ⟨o,e,ex.2.1⟩
    · obtain ⟨o,_,_,_,e,ex,_⟩:=I.hok p _ hk
      refine ⟨⟨o,e,ex.1⟩,fun a e2=>?_⟩
      cases e2
      exact ⟨o,e,ex.2.1⟩
  | _=>exact False.elim ty
noncomputable def tBM (K:PySem.W.Frag) (T:String) (r:V→List V→Hp→VK→Prop) (to:TE) (t:TA):TE:=fun σ H Q=>to σ H fun x H1=>tyV K T x H1∧t σ H1 fun xs H2=>r x xs H2 Q
variable {o e:Expr} {es:List Expr} {to:TE} {t:TA} {name:Str} {apos cpos:Pos} {T id:String} {r:V→List V→Hp→VK→Prop}
theorem pe_bm (pa:PlainAttrs T) (slot:Slot T name id) (hty:typeOf (.builtin id)=pure (.type "method_descriptor")) (hm:MtR X id r) (ho:PE X o to) (ha:PA X (e :: es) t)
    (hbase:attributeBase o name X.env (eval o X.env)=eval o X.env:=by rfl)
    (hfew:((backTo cpos (starEach (e :: es) X.env)).all (fun x=>!x.1) && (backToKw cpos (keywordEach [] X.env)).all (fun x=>x.1.isSome)
      && decide ((e :: es).length + ([]:List Keyword).length + (if ([]:List Keyword).isEmpty then 0 else 1) < 30))=true:=by rfl)
    (hline:(apos.endLine == cpos.line)=true:=by rfl) (hs:starEach (e :: es) X.env=(false,eval e X.env) :: starEach es X.env:=by rfl) (hplain:(backTo cpos (starEach es X.env)).any (·.1)=false:=by rfl) :
    PE X (.Call (.Attribute o name apos) (e :: es) [] cpos) (tBM X.K T r to t):=by
  intro pins s σ H Q I h
  refine wpAny_Call_method_late hbase hfew hline rfl (thn (ho pins s σ H _ I h) fun v s1 ⟨x,H1,I1,r1,ty,q1⟩=>?_)
  obtain ⟨h1,h2⟩:=tyV_is I1 r1 ty
  refine ⟨T,id,pa,slot,hty,h1,h2, ?_⟩
  have hA:=ha cpos pins s1 σ H1 _ I1 q1
  rw [hs] at hA ⊢
  refine Calls.callWith_builtin (by show (false || (backTo cpos (starEach es X.env)).any (·.1))=false; rw [hplain] <;> rfl) (Calls.evalArgs_plain ?_)
  exact thn hA fun us s2 ⟨vs,H2,I2,r2,q2⟩=>hm pins s2 σ H2 x vs v us Q I2 r1 r2 q2
end
end L2
namespace L2
open PySem PySem.Spec PyProof.Rows
noncomputable def MtM (X:Cx) (id:String) (r:V→List V→Hp→VK→Prop):Prop :=
  ∀ (pins:List (Addr × Obj)) (s:Shared) (σ:St) (H:Hp) (x:V) (xs:List V) (v:Value) (us:List Value) (Q:VK),Inv X pins σ H s→RelV x v→Vals xs us→r x xs H Q →
    wpAny (model X.prog X.w) X.A (call (.builtin id) (v :: us)) (EP X pins σ Q) X.xe s
theorem Vals.one:∀ {x:V} {us:List Value},Vals [x] us→∃ u,us=[u]∧RelV x u
  | _,_,.cons r .nil=>⟨_,rfl,r⟩
section
variable {X:Cx} {pins:List (Addr × Obj)} {σ:St} {H:Hp} {s:Shared} {l b:Addr} {xs ys zs:List V}
theorem Inv.lset {its its':List Value} {n:Nat} {f:Array Value→Array Value} {t':Nat} (I:Inv X pins σ H s) (hH:H l=some (.lst xs))
    (e:s.heap.get? l=some { cls:=.type "list",data:=.seq its.toArray n }) (hf:f its.toArray=its'.toArray) (hv:Vals ys its') (hz:ys.length≤sizeLine) :
    Inv X pins σ (upd H l (.lst ys)) { s with heap:=s.heap.update l (Obj.mapSeq f),toks:=t' }:=by
  have q:=PySem.IsL.update e f
  rw [hf] at q
  refine I.write (x:=l) (e:=l) (by rw [hH]; exact trivial) (.inl rfl) (fun b' u hb hu=>(Heap.get?_update_other s.heap (Obj.mapSeq f) (Ne.symm hb)).trans hu) ⟨_,q⟩ ?_
  exact ⟨hz,its',_,hv,q⟩
theorem Inv.lnew {its:List Value} {t':Nat} (I:Inv X pins σ H s) (hv:Vals ys its) (hz:ys.length≤sizeLine) :
    Inv X pins σ (upd H s.heap.objs.size (.lst ys)) { s with heap:=s.heap.push { cls:=.type "list",data:=.seq its.toArray },toks:=t' } :=
  I.laid (fun _ _ q=>Heap.get?_push_of_some _ q) (Nat.le_refl _) ⟨hz,its,0,hv,Heap.get?_push_size _ rfl⟩
theorem Inv.fresh (I:Inv X pins σ H s):H s.heap.objs.size=none:=I.hok.fresh (Nat.le_refl _)
theorem Inv.lstM (I:Inv X pins σ H s) (hH:H l=some (.lst xs)):xs.length≤sizeLine∧∃ (its:List Value) (n:Nat),Vals xs its∧xs.length=its.length∧s.heap.get? l=some { cls:=.type "list",data:=.seq its.toArray n }:=by
  obtain ⟨z,its,n,r,e⟩:=I.hok l _ hH
  exact ⟨z,its,n,r,r.length,e⟩
theorem notLongL {n:Nat} (h:n≤sizeLine):Builtin.List.listTooLong n=false:=by
  unfold Builtin.List.listTooLong
  exact decide_eq_false (by omega)
end
section
variable {X:Cx}
noncomputable def rExtend:V→List V→Hp→VK→Prop:=fun x vs H Q=>∃ l b xs zs,x=.ref l∧vs=[.ref b]∧H l=some (.lst xs)∧H b=some (.lst zs)∧xs.length + zs.length≤sizeLine∧Q .non (upd H l (.lst (xs ++ zs)))
theorem mt_extend:MtM X "list.extend" rExtend:=by
  intro pins s σ H x vs v us Q I rx rv h
  obtain ⟨l,b,xs,zs,rfl,rfl,hH,hB,hz,q⟩:=h
  cases rx
  obtain ⟨u,rfl,ru⟩:=rv.one
  cases ru
  obtain ⟨z,its,n,r,hl,e⟩:=I.lstM hH
  obtain ⟨z2,its2,n2,r2,hl2,e2⟩:=I.lstM hB
  have hsz:its.toArray.size + its2.toArray.size≤sizeLine:=by rw [List.size_toArray,List.size_toArray]; omega
  have hlong:¬ (!its.toArray.isEmpty && Builtin.List.listTooLong (its.toArray.size + its2.toArray.size))=true:=by
    rw [notLongL hsz,Bool.and_false]
    exact Bool.false_ne_true
  refine call_meets F.slot_list_extend ⟨_,e,rfl⟩ F.entry_list_extend (F.args_list_extend_2 _ _)
    (AutoSeq1.list_extend_list_list_0 l its.toArray n b its2.toArray n2 hlong (by rw [List.size_toArray]; omega) (by omega)) ⟨e,e2, ?_⟩
  refine ⟨.non,_,I.lset (its':=its ++ its2) hH e (by simp) (r.append r2) ?_,rfl,q⟩
  rw [List.length_append]
  omega
end
section
variable {prog:Program} {w:World} {A:Around} {E:Value→Shared→Prop} {s:Shared}
set_option maxRecDepth 100000 in
end
section
variable {X:Cx}
end
end L2
namespace Att
open PySem PySem.W PySem.Calls PyProof.Rows
theorem ints_of_wellAll {P:Params} {h:Heap}:∀ (ns:List Int) (vs:List Value),WellAll P h vs (ns.map WData.int)→IntsAre vs ns:=by
  intro ns
  induction ns with
  | nil =>
    intro vs w
    rw [List.map_nil] at w
    cases w
    exact .nil
  | cons n ns ih =>
    intro vs w
    rw [List.map_cons] at w
    cases w with
    | cons a b =>
      cases a
      exact .cons _ _ (ih _ b)
theorem script_of {l:OpenLaw} {n:Nat} (hn:l.most=some n) {P:Params} {h:Heap} {args:List WData} {vals:List Value}
    (hpre:l.row.toRowW.claim.pre args=true) (hwl:WellAll P h vals args) :
    ∃ a vs ns,vals=[Value.ref a]∧args=[WData.list (ns.map WData.int)]∧h.get? a=some { cls:=.type "list",data:=.seq vs.toArray }∧IntsAre vs ns∧ns.length≤n:=by
  have hsh:WShape.hasAll [] args [.list .int]=true:=(pre_splitW hpre).1
  have hc:l.pre.holds [] { args:=args }=true:=(pre_splitW hpre).2
  obtain ⟨d,r,rfl,h1,h2⟩:=hasAllW_cons hsh
  obtain rfl:=hasAllW_nil h2
  obtain ⟨xs,rfl,h3⟩:=hasW_list h1
  obtain ⟨ns,rfl⟩:=items_int h3
  have hlen:ns.length≤n:=by
    unfold OpenLaw.pre at hc
    have h4:(WTm.not (.lt (.lit (.int (n:Int))) (.len (.arg 0)))).holds [] { args:=[.list (ns.map .int)] }=true:=by
      have h4:=(holds_andW hc).1
      rw [hn] at h4
      exact h4
    have h5:=condW_of h4 (w_not (w_lt w_lit (w_len_list (w_arg rfl))))
    rw [List.length_map] at h5
    refine Nat.le_of_not_lt fun q=>?_
    have q':(n:Int) < ((ns.length:Nat):Int):=by omega
    first
      | (rw [decide_eq_true q'] at h5; exact absurd h5 (by decide))
      | (simp at h5; omega)
  cases hwl with
  | cons w1 w2 =>
    cases w2
    cases w1 with
    | list ho hall=>exact ⟨_,_,ns,rfl,rfl,ho,ints_of_wellAll ns _ hall,hlen⟩
theorem post_true (l:OpenLaw) (args:List WData):l.row.toRowW.claim.post args (.bool true) args=true :=
  postW_of (r:=l.row.toRowW) (X:=(true == true))
    (show WShape.has [] (.bool true) .bool=true by first | rfl | decide | simp [WShape.has,WShape.arms,WShape.armsAll])
    (show (WTm.eq .res (.lit (.bool true))).value [] { args:=args,res:=some (.bool true),after:=args }=some (.bool (true == true)) from w_eq_bool (w_res rfl) w_lit) rfl
theorem attach_call {l:OpenLaw} {n:Nat} {q:Program} {loose:List Str} {XP:(Str→Option Value)→Heap→Prop} {YP:World→Heap→Prop} {d:DefRec}
    (hn:l.most=some n) (hdf:d.params.defaults=[])
    (call:∀ (w:World) (s₀ s₁:Shared) (mg mb:Str→Option Value) (fa:Addr) (o:Obj) (pm cd doc:Value) (a:Addr) (vs:List Value) (ns:List Int),
      Ground q loose [] XP w s₀ mg mb s₁.heap→YP w s₁.heap →
      s₁.heap.get? fa=some o→o.data=.func (docDef d.name d.params d.body d.scope pm cd doc)→s₁.heap.CodeRec cd d.name→mg d.name=some (.ref fa) →
      s₁.heap.get? a=some { cls:=.type "list",data:=.seq vs.toArray }→IntsAre vs ns→ns.length≤n→s₁.gens=#[] →
      codeAny (model l.prog w) callerA (.call (.ref fa) ⟨[.ref a],[]⟩) (fun r s'=>r=.ok (.ret (.bool true))∧OldK s₁.heap s'.heap∧s'.os=s₁.os∧AllBare s'.gens) s₁) :
    WalkO q loose XP YP l.row.toRowW d [] (fun f vs=>PySem.call f vs):=by
  intro w s₀ s₁ mg mb G Y fa o pm cd doc dV kV ho hd hcd hD hmg hg args vals as hpre hlay hrd hwl hlo
  obtain rfl:dV=.none:=Dflts.none hD hdf
  obtain rfl:kV=.none:=Dflts.noKw hD
  obtain ⟨a,vs,ns,rfl,rfl,hobj,hints,hlen⟩:=script_of hn hpre hwl
  refine enter_call (codeAny_mono (call w s₀ s₁ mg mb fa o pm cd doc a vs ns G Y ho (fd_plain hd) hcd hmg hobj hints hlen hg) fun r s' hq=>?_)
  obtain ⟨rfl,h2,h3,h4⟩:=hq
  exact ⟨.inl ⟨.bool true,.bool true,[],rfl,fun _=>rfl,.bool true,post_true l _,fun _=>⟨List.Pairwise.nil,fun _ hm=>(nomatch hm)⟩⟩,h2,h3,h4⟩
section
variable {prog:Program} {w:World} {A:Around} {E:Value→Shared→Prop} {s:Shared} {K:Frag}
end
end Att
namespace L2
open PySem PySem.Spec PyProof.Rows
theorem vals_ints:∀ {vs:List Value} {ns:List Int},IntsAre vs ns→Vals (ns.map V.int) vs
  | _,_,.nil=>.nil
  | _,_,.cons n t h=>.cons ⟨t,rfl⟩ (vals_ints h)
noncomputable def Only (H:Hp):Prop:=∀ b,H b=none ∨ ∃ o xs,H b=some (.frz o (.lst xs))
theorem law_call {P:Program} {w:World} {K:PySem.W.Frag} {mg mb:Str→Option Value} {CX:CXT} {k:Nat} {fa a:Addr} {fd:FuncData} {x:Str} {sp:Sp} {s₁:Shared} {vs:List Value} {ns:List Int}
    (KX:K.In s₁.heap) (hns:s₁.heap.Ns mainGlobals mg) (hb:s₁.heap.Ns builtinsNs mb) (hbb:∀ x:Str,x ≠ "__name__"→mb x=bootBuiltins x) (hlim:s₁.heap.NoLimit) (hg:s₁.gens=#[])
    (ha:s₁.heap.get? a=some { cls:=.type "list",data:=.seq vs.toArray }) (hi:IntsAre vs ns) (hl:ns.length≤sizeLine) (hr:Room k callerA)
    (F:∀ base:Heap,K.In base→base.Ns mainGlobals mg→FnOk P w K mg base CX k fa fd [x] sp) (hbind:∀ (s:Shared) (u:Value),BindsTo s fd ⟨[u],[]⟩ [(x,u)])
    (hsp:∀ H:Hp,Only H→SqL K H a (ns.map V.int)→sp [.ref a] H (fun v _=>v=.bl true) fun _ _ _=>False)
    (hCX:∀ H e s',CX [] H s₁ (fun _ _ _=>False) e s'→False) :
    codeAny (model P w) callerA (.call (.ref fa) ⟨[.ref a],[]⟩) (fun r s'=>r=.ok (.ret (.bool true))∧OldK s₁.heap s'.heap∧s'.os=s₁.os∧AllBare s'.gens) s₁:=by
  have rv:=vals_ints hi
  have lenV:=hi.length
  have core:∀ H:Hp,Only H→SqL K H a (ns.map V.int)→HOk P w H s₁.heap→(∀ b,H b≠none→b=a)→(H a≠none→K.lookup a=none) →
      codeAny (model P w) callerA (.call (.ref fa) ⟨[.ref a],[]⟩) (fun r s'=>r=.ok (.ret (.bool true))∧OldK s₁.heap s'.heap∧s'.os=s₁.os∧AllBare s'.gens) s₁:=by
    intro H hO hS hok hA hK
    have base_of:∀ {b:Addr} {o:Obj},s₁.heap.get? b=some o→H b=none→(hidT s₁.heap H).get? b=some o:=fun e n=>hidT_get e n
    have noA:∀ {b:Addr} {o:Obj} {es:Array DictEntry} {ep:Nat},s₁.heap.get? b=some o→o.data=.dict es ep→H b=none:=fun {b o es ep} e d=>by
      cases q:H b with
      | none=>rfl
      | some u =>
        have e':b=a:=hA b (by rw [q]; simp)
        subst e'
        rw [ha] at e; cases e
        have d':Data.seq vs.toArray _=Data.dict es ep:=d
        cases d'
    have nsK:∀ {b:Addr} {m:Str→Option Value},s₁.heap.Ns b m→(hidT s₁.heap H).Ns b m:=fun {b m} ⟨o,es,ep,e,d,r⟩=>⟨o,es,ep,base_of e (noA e d),d,r⟩
    have hKb:K.In (hidT s₁.heap H):=fun b o e=>base_of (KX b o e) (by
      cases q:H b with
      | none=>rfl
      | some u =>
        have e':b=a:=hA b (by rw [q]; simp)
        subst e'
        rw [hK (by rw [q]; simp)] at e; cases e)
    have hM:Mod K mg (hidT s₁.heap H):=⟨hKb,nsK hns,⟨mb,nsK hb,hbb⟩,let ⟨mc,h1,h2⟩:=hlim; ⟨mc,nsK h1,h2⟩⟩
    have e0:Env0 P w K mg (hidT s₁.heap H) callerA [] s₁ H:=⟨rfl,hM,fun b o e=>of_hidT e,Nat.le_of_eq (hidT_size _ _),trivial,fun b hb=>absurd (show b∈([]:List Addr) from hb) (by simp),hok,.of_eq hg⟩
    refine codeAny_mono ((F _ hKb (nsK hns)).run callerA [] s₁ H ⟨[.ref a],[]⟩ [.ref a] [.ref a] _ _ hr e0 (hbind s₁ (.ref a)) (.cons rfl .nil) (hsp H hO hS)) fun r s' h=>?_
    cases r with
    | error e=>exact (hCX H e s' h).elim
    | ok fl =>
      cases fl with
      | next=>exact False.elim h
      | brk=>exact False.elim h
      | cont=>exact False.elim h
      | ret u =>
        obtain ⟨v,H',os,bare,un,hok',r',q⟩:=h
        have q':v=.bl true:=q
        subst q'
        obtain rfl:u=Value.bool true:=r'
        refine ⟨rfl,OldK.of_keep fun b o e=>?_,os,bare⟩
        cases q:H b with
        | none=>exact un.keep b o e q (by intro z; exact absurd (show b∈([]:List Addr) from z) (by simp)) (by simp)
        | some u =>
          rcases hO b with z | ⟨ob,xs,z⟩
          · rw [q] at z; cases z
          · have z2:=un.frzs b ob _ z
            obtain ⟨e1,_⟩:=hok b _ z
            obtain ⟨e2,_⟩:=hok' b _ z2
            rw [e] at e1; cases e1
            exact e2
  cases hk:K.lookup a with
  | some o =>
    have e:=KX a o hk
    rw [ha] at e
    cases e
    refine core (fun _=>none) (fun _=>.inl rfl) (.inr ⟨_,vs.toArray,_,hk,rfl,rfl,rfl,by rw [List.size_toArray,lenV]; exact hl,by simpa using rv⟩) (fun b u z=>by have z':(none:Option HO)=some u:=z; cases z') (fun b z=>absurd rfl z) fun z=>absurd rfl z
  | none =>
    refine core (fun b=>if b=a then some (.frz { cls:=.type "list",data:=.seq vs.toArray } (.lst (ns.map V.int))) else none) (fun b=>?_) (.inl (.inr ⟨{ cls:=.type "list",data:=.seq vs.toArray },if_pos rfl⟩)) (fun b u z=>?_) (fun b z=>?_) fun _=>hk
    · by_cases hb:b=a
      · exact .inr ⟨_,_,if_pos hb⟩
      · exact .inl (if_neg hb)
    · by_cases hb:b=a
      · have z':=(if_pos hb).symm.trans z
        cases z'
        subst hb
        exact ⟨ha,by rw [List.length_map]; exact hl,vs,_,rv,ha⟩
      · have z':=(if_neg hb).symm.trans z
        cases z'
    · by_cases hb:b=a
      · exact hb
      · exact absurd (if_neg hb) z
end L2
namespace L2
open PySem PySem.Spec PyProof.Rows
noncomputable abbrev KOf {K:PySem.W.Frag} {h:Heap} (_:K.In h):PySem.W.Frag:=K
theorem walk_of {l:PySem.W.OpenLaw} {n k:Nat} {q:Program} {loose:List Str} {XP:(Str→Option Value)→Heap→Prop} {YP:World→Heap→Prop} {d:DefRec} {K:Params→PySem.W.Frag} {CX:World→CXT} {sp:World→Sp} {x:Str}
    (hn:l.most=some n) (hn2:n≤sizeLine) (hdf:d.params.defaults=[]) (hr:Room k callerA)
    (hY:∀ (w:World) (h:Heap),YP w h→(K w.params).In h)
    (F:∀ (w:World) (mg:Str→Option Value) (fa:Addr) (h:Heap),(K w.params).In h→h.Ns mainGlobals mg→mg d.name=some (.ref fa) →
      ∃ fd:FuncData,(∀ (s:Shared) (u:Value),BindsTo s fd ⟨[u],[]⟩ [(x,u)]) ∧
        ∀ base:Heap,(K w.params).In base→base.Ns mainGlobals mg→FnOk l.prog w (K w.params) mg base (CX w) k fa fd [x] (sp w))
    (hsp:∀ (w:World) (H:Hp) (a:Addr) (ns:List Int),ns.length≤n→Only H→SqL (K w.params) H a (ns.map V.int)→sp w [.ref a] H (fun v _=>v=.bl true) fun _ _ _=>False)
    (hCX:∀ (w:World) (H:Hp) (s:Shared) (e:Value) (s':Shared),CX w [] H s (fun _ _ _=>False) e s'→False) :
    PySem.W.WalkO q loose XP YP l.row.toRowW d [] (fun f vs=>PySem.call f vs):=by
  refine Att.attach_call hn hdf fun w s₀ s₁ mg mb fa o pm cd doc a vs ns G Y ho hd hcd hmg hobj hints hlen hg=>?_
  have KX:=hY w _ Y
  obtain ⟨fd,hb,hF⟩:=F w mg fa _ KX G.T.g hmg
  exact law_call KX G.T.g G.T.b G.T.builtins G.T.nolimit hg hobj hints (Nat.le_trans hlen hn2) hr hF hb (fun H hO hS=>hsp w H a ns hlen hO hS) fun H e s'=>hCX w H s₁ e s'
theorem walk_ofK {l:PySem.W.OpenLaw} {n k:Nat} {q:Program} {loose:List Str} {XP:(Str→Option Value)→Heap→Prop} {YP:World→Heap→Prop} {d:DefRec} {K:Params→PySem.W.Frag} {CX:CXT} {sp:PySem.W.Frag→Sp} {x:Str}
    (hn:l.most=some n) (hn2:n≤sizeLine) (hdf:d.params.defaults=[]) (hr:Room k callerA)
    (hY:∀ (w:World) (h:Heap),YP w h→(K w.params).In h)
    (F:∀ (w:World) (mg:Str→Option Value) (fa:Addr) (h:Heap),(K w.params).In h→h.Ns mainGlobals mg→mg d.name=some (.ref fa) →
      ∃ fd:FuncData,(∀ (s:Shared) (u:Value),BindsTo s fd ⟨[u],[]⟩ [(x,u)]) ∧
        ∀ base:Heap,(K w.params).In base→base.Ns mainGlobals mg→FnOk l.prog w (K w.params) mg base CX k fa fd [x] (sp (K w.params)))
    (hsp:∀ (K:PySem.W.Frag) (H:Hp) (a:Addr) (ns:List Int),ns.length≤n→Only H→SqL K H a (ns.map V.int)→sp K [.ref a] H (fun v _=>v=.bl true) fun _ _ _=>False)
    (hCX:∀ (H:Hp) (s:Shared) (e:Value) (s':Shared),CX [] H s (fun _ _ _=>False) e s'→False) :
    PySem.W.WalkO q loose XP YP l.row.toRowW d [] (fun f vs=>PySem.call f vs) :=
  walk_of (K:=K) (CX:=fun _=>CX) (sp:=fun w=>sp (K w.params)) hn hn2 hdf hr hY F (fun w H a ns h1 h2 h3=>hsp (K w.params) H a ns h1 h2 h3) fun _ H s e s'=>hCX H s e s'
end L2
namespace L2
open PySem PySem.Spec PyProof.Rows
noncomputable def defArgs (s:Stmt):Arguments:=match s with
  | .FunctionDef _ a _ _ _ _ _ _ _ _=>a
  | _=>{ posonlyargs:=[],args:=[],vararg:=none,kwonlyargs:=[],kw_defaults:=[],kwarg:=none,defaults:=[] }
noncomputable def defBody (s:Stmt):List Stmt:=match s with
  | .FunctionDef _ _ b _ _ _ _ _ _ _=>b
  | _=>[]
noncomputable def defScope (s:Stmt):Scope:=match s with
  | .FunctionDef _ _ _ _ _ _ sc _ _ _=>sc
  | _=>{ kind:=.function,names:=[],isGenerator:=false,isCoroutine:=false }
noncomputable abbrev CX0:CXT:=fun _ _ _ _ _ _=>False
noncomputable abbrev E0:XK:=fun _ _ _=>False
theorem pass0 {X:Cx}:Passes CX0 X E0:=fun _ _ _ _ _ _ _ h=>h.elim
structure Fun (K:PySem.W.Frag) (x qual:Str) (st:Stmt) (f:Addr) (fd:FuncData):Prop where
  ex:∃ (oc:Value) (od:Option Addr) (kV doc pm:Value) (an:Option Addr) (cdv ct:Value) (osl:Array (Option Value)),
    fd=PySem.W.fnOf x qual (defArgs st) (defBody st) (defScope st) .none kV doc pm an cdv ct∧K.lookup f=some ⟨oc,od,.func fd,osl⟩∧PySem.W.codeIn K cdv qual=true
  kp:PySem.W.keepIn K (.ref f)=true
section
variable {P:Program} {w:World} {K:PySem.W.Frag} {mg:Str→Option Value} {base:Heap}
theorem Fun.ok {x qual:Str} {st:Stmt} {f:Addr} {fd:FuncData} {N ps:List Str} {k:Nat} {sp:Sp} (F:Fun K x qual st f fd) (S:FnScope N ps (defScope st)) (len:∀ vs H Q E,sp vs H Q E→vs.length=ps.length)
    (hbody:∀ (cdv:Value) (A:Around) (outer:List Env) (s:Shared) (H:Hp) (vs:List V) (Q:VK) (E:XK),Room k (A.deeper (envOfC qual (defScope st) s.heap.objs.size f cdv))→sp vs H Q E →
      ∃ t,PSs (cxOf CX0 P w K mg base N qual (defScope st) f cdv A outer s H E).nox (defBody st) t∧t { nx:=fun _ H'=>Q .non H',rt:=Q } (start N vs) H):FnOk P w K mg base CX0 (k + 1) f fd ps sp:=by
  obtain ⟨oc,od,kV,doc,pm,an,cdv,ct,osl,rfl,lk,hcd⟩:=F.ex
  refine fn_of lk hcd S len fun A outer s H vs Q E hr hsp=>?_
  obtain ⟨t,h,q⟩:=hbody cdv A outer s H vs Q E hr hsp
  exact ⟨t,h.nox,q⟩
theorem Fun.binds {x qual:Str} {st:Stmt} {f:Addr} {fd:FuncData} {ps:List Str} (F:Fun K x qual st f fd)
    (h:∀ (kV doc pm:Value) (an:Option Addr) (cdv ct:Value) (us:List Value),us.length=ps.length→bindArgs (PySem.W.fnOf x qual (defArgs st) (defBody st) (defScope st) .none kV doc pm an cdv ct) ⟨us,[]⟩=pure (ps.zip us)):Binds K fd ps []:=by
  obtain ⟨oc,od,kV,doc,pm,an,cdv,ct,osl,rfl,lk,hcd⟩:=F.ex
  exact .all (h kV doc pm an cdv ct)
theorem fun_mk {x qual:Str} {st:Stmt} {f:Addr} {oc:Value} {od an:Option Addr} {osl:Array (Option Value)} {kV doc pm cdv ct:Value} (l:K.lookup f=some ⟨oc,od,.func (PySem.W.fnOf x qual (defArgs st) (defBody st) (defScope st) .none kV doc pm an cdv ct),osl⟩)
    (c:PySem.W.codeIn K cdv qual=true) (k:PySem.W.keepIn K (.ref f)=true):Fun K x qual st f (PySem.W.fnOf x qual (defArgs st) (defBody st) (defScope st) .none kV doc pm an cdv ct):=⟨⟨oc,od,kV,doc,pm,an,cdv,ct,osl,rfl,l,c⟩,k⟩
end
section
variable {X:Cx}
theorem pv (i:Nat) {x:Str} {pos:Pos} (hN:X.N[i]?=some x:=by rfl) (hv:Vis X.env.scope x:=by first | exact Or.inl rfl | exact Or.inr (Or.inl rfl) | exact Or.inr (Or.inr rfl)) (hd:(x == ("__debug__":Str))=false:=by decide)
    (hcd:(x == ("__classdict__":Str))=false:=by decide):PE X (.Name x pos) (tVar i):=pe_var hN hv hd hcd
end
noncomputable def Same (H H':Hp):Prop:=∀ b o,H b=some o→H' b=some o
theorem Same.refl (H:Hp):Same H H:=fun _ _ h=>h
theorem Same.trans {H H1 H2:Hp} (a:Same H H1) (b:Same H1 H2):Same H H2:=fun c o h=>b c o (a c o h)
theorem Same.free {H H':Hp} (e:Same H H') {l:Addr} (h:H' l=Option.none):H l=Option.none:=by
  cases q:H l with
  | none=>rfl
  | some o =>
    rw [e l o q] at h
    cases h
end L2
set_option maxHeartbeats 4000000
namespace L2
open PySem PySem.Spec PyProof.Rows
noncomputable def clOf (scope:Scope) (env:Env):List (Str × Addr) :=
  ((scope.names.filter fun p=>p.2 == .free).reverse).map fun p=>(p.1,(env.cells.lookup p.1).getD 0)
theorem lookup_of_mem {β:Type}:∀ {l:List (Str × β)} {a:Str} {b:β},(a,b)∈l→∃ c,l.lookup a=some c
  | [],_,_,h=>absurd h (by simp)
  | (n,v) :: r,a,b,h=>by
    cases e:a == n with
    | true=>exact ⟨v,by simp [List.lookup_cons,e]⟩
    | false =>
      rcases List.mem_cons.mp h with z | z
      · cases z; simp at e
      · obtain ⟨c,hc⟩:=lookup_of_mem z
        exact ⟨c,by simp [List.lookup_cons,e,hc]⟩
theorem relabel_look {env:Env}:∀ {names:List (Str × NameKind)} {y:Str} {k:NameKind},(∀ p∈names,p.2≠.cell) →
    (names.map fun (n,k)=>if (k == NameKind.free && env.scope.kind == .function && env.kindOf n == some .cell) then (n,NameKind.cell) else (n,k)).lookup y=some k →
    (k=.local→names.lookup y=some .local)∧(k=.cell ∨ k=.free→names.lookup y=some .free)
  | [],_,_,_,h=>by simp at h
  | (n,k0) :: r,y,k,nc,h=>by
    have ih:=@relabel_look env r y k (fun p hp=>nc p (List.mem_cons_of_mem _ hp))
    have nc0:=nc (n,k0) List.mem_cons_self
    have h':List.lookup y ((if (k0 == NameKind.free && env.scope.kind == .function && env.kindOf n == some .cell)=true then (n,NameKind.cell) else (n,k0)) :: (r.map fun (n,k)=>if (k == NameKind.free && env.scope.kind == .function && env.kindOf n == some .cell) then (n,NameKind.cell) else (n,k)))=some k:=h
    cases hx:y == n with
    | true =>
      by_cases hc:(k0 == NameKind.free && env.scope.kind == .function && env.kindOf n == some .cell)=true
      · rw [if_pos hc] at h'
        simp only [List.lookup_cons,hx] at h'
        have hk:NameKind.cell=k:=Option.some.inj h'
        subst hk
        have hf:k0=.free:=by
          simp only [Bool.and_eq_true] at hc
          exact beq_iff_eq.mp hc.1.1
        subst hf
        exact ⟨(fun z=>nomatch z),fun _=>by simp [List.lookup_cons,hx]⟩
      · rw [if_neg hc] at h'
        simp only [List.lookup_cons,hx] at h'
        have hk:k0=k:=Option.some.inj h'
        subst hk
        refine ⟨fun z=>by subst z; simp [List.lookup_cons,hx],fun z=>?_⟩
        rcases z with z | z
        · exact absurd z nc0
        · subst z; simp [List.lookup_cons,hx]
    | false =>
      by_cases hc:(k0 == NameKind.free && env.scope.kind == .function && env.kindOf n == some .cell)=true
      · rw [if_pos hc] at h'
        simp only [List.lookup_cons,hx] at h'
        have:=ih h'
        simpa [List.lookup_cons,hx] using this
      · rw [if_neg hc] at h'
        simp only [List.lookup_cons,hx] at h'
        have:=ih h'
        simpa [List.lookup_cons,hx] using this
noncomputable def blk (X:Cx) (scope:Scope) (x:Str) (C:Addr) (ex:List Addr) (s₂:Shared) (H₂:Hp):Cx :=
  { X with N:=X.N ++ [x],s₀:=s₂,H₀:=H₂,env:=compEnvC scope (clOf scope X.env) C X.env,outer:=X.stack,ex:=ex,fn:=fun _=>false,pn:=[],xe:=fun _ _=>False }
noncomputable def compChk (N:List Str) (sc scope:Scope) (x:Str):Bool :=
  (scope.names.all fun p=>!(p.2 == .cell)) && (scope.kind == .function) && (scope.names.all fun p=>!(p.2 == .local) || scope.names.lookup p.1 == some .local) && (scope.names.lookup x == some .local)
    && (N.all fun y=>!(scope.names.lookup y == some .local)) && (scope.names.all fun p=>!(p.2 == .free) || sc.names.lookup p.1 == some .cell || sc.names.lookup p.1 == some .free)
structure CompSc (N:List Str) (sc scope:Scope) (x:Str):Prop where
  nc:∀ p∈scope.names,p.2≠.cell
  kind:scope.kind=.function
  locs:∀ p∈scope.names,p.2=.local→scope.names.lookup p.1=some .local
  var:scope.names.lookup x=some .local
  noN:∀ y∈N,scope.names.lookup y≠some .local
  fr:∀ p∈scope.names,p.2=.free→sc.names.lookup p.1=some .cell ∨ sc.names.lookup p.1=some .free
theorem CompSc.of {N:List Str} {sc scope:Scope} {x:Str} (h:compChk N sc scope x=true):CompSc N sc scope x:=by
  unfold compChk at h
  simp only [Bool.and_eq_true,List.all_eq_true,Bool.or_eq_true,Bool.not_eq_true',beq_iff_eq,beq_eq_false_iff_ne] at h
  obtain ⟨⟨⟨⟨⟨h1,h2⟩,h3⟩,h4⟩,h5⟩,h6⟩:=h
  refine ⟨h1,h2,fun p hp e=>?_,h4,h5,fun p hp e=>?_⟩
  · rcases h3 p hp with z | z
    · exact absurd e z
    · exact z
  · rcases h6 p hp with (z | z) | z
    · exact absurd e z
    · exact .inl z
    · exact .inr z
section
variable {X:Cx} {pins:List (Addr × Obj)} {σ:St} {H:Hp} {s:Shared}
theorem Inv.adopt {D:Addr} {ys:List V} {its:List Value} {n:Nat} (I:Inv X pins σ H s) (hn:H D=none) (h1:X.s₀.heap.objs.size≤D) (hL:D≠X.env.locals) (hc:∀ x c,X.env.cells.lookup x=some c→c≠D)
    (hp:∀ p∈X.pn ++ pins,p.1≠D) (ho:s.heap.get? D=some { cls:=.type "list",data:=.seq its.toArray n }) (r:Vals ys its) (hz:ys.length≤sizeLine):Inv X pins σ (upd H D (.lst ys)) s:=by
  refine I.step (h':=s.heap) (g':=s.gens) (d':=s.drawn) (t':=s.toks) (ch:=[D]) (fun b hb=>?_) (fun b o _ _ _ e _=>e) (fun b o _ _ _ e _=>⟨o.slots,e⟩) (fun b o hb _ e=>?_) (fun b o _ e=>⟨o,e⟩)
    (fun b xs e=>?_) (fun b o u e=>?_) (fun b ps e=>⟨#[], ?_⟩) (fun m hm=>hm) (fun b u e=>?_) I.bare
  · have e:b=D:=by simpa using hb
    subst e
    exact ⟨.inr h1,hL,hc,hp⟩
  · rw [upd_ne (by simpa using hb)]; exact e
  · rw [upd_ne (ne_of_none e hn)]; exact e
  · rw [upd_ne (ne_of_none e hn)]; exact e
  · rw [upd_ne (ne_of_none e hn),e]; simp
  · by_cases hb:b=D
    · subst hb
      rw [upd_same] at e; cases e
      exact ⟨hz,its,n,r,ho⟩
    · rw [upd_ne hb] at e
      exact (I.hok b u e).stay (fun c v _ q=>q) (fun c q=>by rw [upd_ne (ne_of_none q hn)]; exact q) fun c xs q=>by rw [upd_ne (ne_of_none q hn)]; exact q
end
section
variable {X:Cx} {pins:List (Addr × Obj)} {σ:St} {s₂:Shared} {H₂:Hp} {scope:Scope} {x:Str} {px:Pos} {elt iter:Expr} {pos:Pos} {te:TE} {J:It} {fp:List Addr} {it:Addr} {tn:Nat→Heap→Prop}
theorem clOf_some {sc:CompSc X.N X.env.scope scope x} (ok:X.Ok) {y:Str} {c:Addr} (h:(clOf scope X.env).lookup y=some c):X.env.cells.lookup y=some c:=by
  have hm:=PySem.mem_of_lookup h
  unfold clOf at hm
  obtain ⟨p,hp,e⟩:=List.mem_map.mp hm
  have hp':=List.mem_filter.mp (List.mem_reverse.mp hp)
  obtain ⟨e1,e2⟩:=Prod.mk.inj e
  have hk:=sc.fr p hp'.1 (beq_iff_eq.mp hp'.2)
  obtain ⟨c',hc'⟩:=ok.has p.1 hk
  rw [hc'] at e2
  rw [← e1,hc']
  exact congrArg some e2
theorem clOf_has {y:Str} (h:scope.names.lookup y=some .free):∃ c,(clOf scope X.env).lookup y=some c:=by
  have hm:=PySem.mem_of_lookup h
  refine lookup_of_mem (b:=(X.env.cells.lookup y).getD 0) ?_
  unfold clOf
  exact List.mem_map.mpr ⟨(y,.free),List.mem_reverse.mpr (List.mem_filter.mpr ⟨hm,rfl⟩),rfl⟩
theorem blk_ok (I:Inv X pins σ H₂ s₂) (sc:CompSc X.N X.env.scope scope x) {C:Addr} (hC:s₂.heap.objs.size≤C) (ff:∀ b∈fp,FpOk X pins H₂ b) (fo:∀ b∈fp,∃ o,s₂.heap.get? b=some o):(blk X scope x C fp s₂ H₂).Ok where
  mod:=I.ok.mod
  kind:=sc.kind
  glob:=I.ok.glob
  blt:=I.ok.blt
  above:=hC
  inj:=fun y z c h1 h2=>I.ok.inj y z c (clOf_some (sc:=sc) I.ok h1) (clOf_some (sc:=sc) I.ok h2)
  has:=fun y hy=>by
    have hy':(relabel scope X.env).names.lookup y=some .cell ∨ (relabel scope X.env).names.lookup y=some .free:=hy
    have hf:scope.names.lookup y=some .free:=by
      rcases hy' with z | z
      · exact (relabel_look sc.nc z).2 (.inl rfl)
      · exact (relabel_look sc.nc z).2 (.inr rfl)
    exact clOf_has hf
  cab:=fun y c h=>by cases h
  hd:=I.ok.hd
  frames:=I.ok.frames
  stk:=.inl rfl
  exf:=fun b hb=>by
    obtain ⟨f0,f1,f2,f3,f4,f5⟩:=ff b hb
    obtain ⟨o,ho⟩:=fo b hb
    exact ⟨Nat.ne_of_lt (Nat.lt_of_lt_of_le (Heap.lt_size ho) hC),fun y c h=>f4 y c (clOf_some (sc:=sc) I.ok h)⟩
  bs:=I.bs
  bsz:=Nat.le_trans I.ok.bsz I.sz
  noex:=fun b o e hb=>by
    obtain ⟨f0,f1,f2,f3,f4,f5⟩:=ff b hb
    rcases f3 with z | z
    · exact I.ok.noex b o e z
    · exact absurd (Nat.lt_of_lt_of_le (Heap.lt_size e) (Nat.le_trans I.ok.bsz z)) (Nat.lt_irrefl _)
  exfs:=fun b hb z=>by
    obtain ⟨f0,f1,f2,f3,f4,f5⟩:=ff b hb
    rcases List.mem_cons.mp (I.stkSub b z) with e | e
    · exact f1 e
    · exact f2 e
  funs:=I.stack
  frf:=I.stkFree
end
noncomputable def tCompJ (σ:St) (te:TE) (J:It) (H1:Hp) (Q:VK):Prop:=∃ W:Nat→Nat→List V→Hp→Prop,(∃ m,W 0 m [] H1)∧∀ i m ys H2,W i m ys H2→ys.length≤sizeLine ∧
  ((J.stop i H2∧∀ p,H2 p=none→Q (.ref p) (upd H2 p (.lst ys))) ∨
   (J.go i H2∧∃ N:List V→Hp→Prop,(∀ ys' H',N ys' H'→∃ m',m' < m∧W (i + 1) m' ys' H')∧∀ x H3,J.yld i H2 x H3→te (σ ++ [some x]) H3 fun y H4=>N (ys ++ [y]) H4))
noncomputable def tComp (wi:TI) (te:TE):TE:=fun σ H Q=>wi σ H fun J H1=>tCompJ σ te J H1 Q
section
variable {X:Cx} {pins:List (Addr × Obj)} {σ:St} {s₂:Shared} {H₂:Hp} {scope:Scope} {x:Str} {px:Pos} {elt iter:Expr} {pos:Pos} {te:TE} {J:It} {fp:List Addr} {it:Addr} {tn:Nat→Heap→Prop}
theorem comp_run {E:Value→Shared→Prop} {Q:VK} {RR:Value→Addr→Result→Shared→Prop} (I:Inv X pins σ H₂ s₂) (sc:CompSc X.N X.env.scope scope x) (hNd:X.N.Nodup) (hc:X.calm=true)
    (T:Turn X.prog X.w X.K (.Name x px) J fp it tn) (st:tn 0 s₂.heap) (ff:∀ b∈fp,FpOk X pins H₂ b) (hw:tCompJ σ te J H₂ Q)
    (he:∀ C s₂ H₂ ex,PE (blk X scope x C ex s₂ H₂) elt te)
    (hRR:∀ D C s' H' m',s₂.heap.objs.size≤C→Inv X pins σ H' s'→s'.heap.Ns C m'→H' C=none→Q (.ref D) H'→RR (.ref D) C (.ok .next) s') :
    wpAny (model X.prog X.w) X.A (newList []) (fun acc s₃=>wpAny (model X.prog X.w) X.A (newFunctionEnv scope X.env.globals (clOf scope X.env) [] X.env.qual none .none (some X.env)) (fun cenv s₄ =>
      codeAny (model X.prog X.w) X.A (.compStart (.ListComp elt [⟨.Name x px,iter,[],0⟩] scope pos) 0 (.ref it) acc { cenv with scope:=relabel scope X.env }) (RR acc cenv.locals) s₄) E s₃) E s₂:=by
  refine wpAny_newObj_type (wpAny_newFunctionEnv sc.nc (by intro y hy; simp at hy) (fun h₁ hns₁ hsb₁=>?_) sc.kind)
  dsimp only at hns₁ hsb₁ ⊢
  generalize hP2:s₂.heap.push { cls:=.type "list",dict:=none,data:=.seq ([]:List Value).toArray }=P2 at hns₁ hsb₁ ⊢
  have hCs:P2.objs.size=s₂.heap.objs.size + 1:=by rw [← hP2,Heap.size_push]
  have hCle:s₂.heap.objs.size≤P2.objs.size:=by rw [hCs]; exact Nat.le_succ _
  have hDC:s₂.heap.objs.size≠P2.objs.size:=by rw [hCs]; exact Nat.ne_of_lt (Nat.lt_succ_self _)
  generalize hCe:P2.objs.size=C at hns₁ hsb₁ hCs hCle hDC ⊢
  generalize hDe:s₂.heap.objs.size=D at hCs hCle hDC ⊢
  have fo:∀ b∈fp,∃ o,s₂.heap.get? b=some o:=fun b hb=>let ⟨o,e,_⟩:=T.obj _ _ st b hb; ⟨o,e⟩
  have flt:∀ b∈fp,b < D:=fun b hb=>by obtain ⟨o,e⟩:=fo b hb; rw [← hDe]; exact Heap.lt_size e
  have old:∀ b o,s₂.heap.get? b=some o→h₁.get? b=some o:=fun b o e=>by
    have hb:=Heap.lt_size e
    exact hsb₁.extBut b o (Nat.ne_of_lt (by rw [hCs]; exact Nat.lt_succ_of_lt (hDe ▸ hb))) (Heap.get?_push_of_some _ (hP2 ▸ Heap.get?_push_of_some _ e))
  have hacc:h₁.get? D=some { cls:=.type "list",data:=.seq ([]:List Value).toArray 0 }:=hsb₁.extBut _ _ hDC (Heap.get?_push_of_some _ (hP2 ▸ hDe ▸ Heap.get?_push_size _ rfl))
  have okB:=blk_ok (x:=x) (C:=C) I sc (by rw [hDe]; exact hCle) ff fo
  have hfreshD:H₂ D=none:=I.hok.fresh (by rw [hDe]; exact Nat.le_refl _)
  have hfreshC:H₂ C=none:=I.hok.fresh (by rw [hDe]; exact hCle)
  have hxN:x ∉ X.N:=fun z=>sc.noN x z sc.var
  have ndB:(X.N ++ [x]).Nodup:=List.nodup_append.mpr ⟨hNd,by simp,fun a ha b hb=>by
    have:b=x:=by simpa using hb
    subst this; rintro rfl; exact hxN ha⟩
  have I0:Inv (blk X scope x C fp s₂ H₂) [(D,{ cls:=.type "list",data:=.seq ([]:List Value).toArray 0 })] (σ ++ [none]) H₂ { s₂ with heap:=h₁,toks:=s₂.toks + ([]:List (Str × Value)).length }:=by
    refine ⟨okB,rfl,I.bare,Un.kept old,⟨_,hns₁,fun i y v e1 e2 e3=>?_⟩,fun y c e=>?_,hfreshC,fun y c e=>I.freeC y c (clOf_some (sc:=sc) I.ok e),fun p hp=>?_,I.hok.kept old,by simp [blk,I.len]⟩
    · have hi:i < σ.length:=by
        by_cases hi:i < σ.length
        · exact hi
        · rw [List.getElem?_append_right (by omega)] at e2
          have:([none]:St)[i - σ.length]?=some (some v):=e2
          cases hj:i - σ.length with
          | zero=>rw [hj] at this; simp at this
          | succ j=>rw [hj] at this; simp at this
      rw [List.getElem?_append_left hi] at e2
      have e1':(X.N ++ [x])[i]?=some y:=e1
      rw [List.getElem?_append_left (by rw [← I.len]; exact hi)] at e1'
      have yN:y∈X.N:=List.mem_of_getElem? e1'
      have e3':(relabel scope X.env).names.lookup y=some .local ∨ (relabel scope X.env).names.lookup y=some .cell ∨ (relabel scope X.env).names.lookup y=some .free:=e3
      have hcf:(relabel scope X.env).names.lookup y=some .cell ∨ (relabel scope X.env).names.lookup y=some .free:=by
        rcases e3' with z | z
        · exact absurd ((relabel_look sc.nc z).1 rfl) (sc.noN y yN)
        · exact z
      have hfree:scope.names.lookup y=some .free:=by
        rcases hcf with z | z
        · exact (relabel_look sc.nc z).2 (.inl rfl)
        · exact (relabel_look sc.nc z).2 (.inr rfl)
      obtain ⟨c,hcl⟩:=clOf_has (X:=X) hfree
      have hcx:=clOf_some (sc:=sc) I.ok hcl
      have hvis:=sc.fr _ (PySem.mem_of_lookup hfree) rfl
      obtain ⟨m,hn,hl⟩:=I.loc
      obtain ⟨u,ru,hlook⟩:=hl i y v e1' e2 (.inr hvis)
      refine ⟨u,ru,.inr ⟨hcf,c,hcl, ?_⟩⟩
      rcases hlook with ⟨k,_⟩ | ⟨k,c',ec,hcell⟩
      · have k':X.env.scope.names.lookup y=some .local:=k
        have hv':X.env.scope.names.lookup y=some .cell ∨ X.env.scope.names.lookup y=some .free:=hvis
        rw [k'] at hv'
        rcases hv' with z | z <;> cases z
      · rw [hcx] at ec; cases ec
        obtain ⟨o,ho,hd⟩:=hcell
        exact ⟨o,old _ _ ho,hd⟩
    · obtain ⟨v,o,ho,hd⟩:=I.cell y c (clOf_some (sc:=sc) I.ok e)
      exact ⟨v,o,old _ _ ho,hd⟩
    · have e:p=(D,{ cls:=.type "list",data:=.seq ([]:List Value).toArray 0 }):=by simpa [blk] using hp
      subst e
      exact ⟨hacc,hfreshD,hDC,(fun z=>by
        rcases List.mem_cons.mp (I.stkSub D z) with e | e
        · exact absurd I.lt (by rw [← e,hDe]; exact Nat.lt_irrefl _)
        · exact I.nofs (by rw [hDe]; exact Nat.le_refl _) e),fun v z=>nomatch z⟩
  obtain ⟨W,⟨m0,w0⟩,turn⟩:=hw
  have fpB:∀ {H':Hp} {o:Obj},(∀ b∈fp,H' b=none)→∀ b∈fp,FpOk (blk X scope x C fp s₂ H₂) [(D,o)] H' b:=fun {H' o} hn b hb=>by
    obtain ⟨f0,f1,f2,f3,f4,f5⟩:=ff b hb
    obtain ⟨g1,g2⟩:=okB.exf b hb
    exact ⟨hn b hb,g1,okB.exfs b hb,.inl hb,g2,fun p hp=>by
      have e:p=(D,o):=by simpa [blk] using hp
      subst e
      exact (Nat.ne_of_lt (flt b hb)).symm⟩
  have hσ:σ.length=X.N.length:=I.len
  have loop:∀ s₃:Shared,s₃={ s₂ with heap:=h₁,toks:=s₂.toks + ([]:List (Str × Value)).length } →
      codeAny (model X.prog X.w) X.A (.compLoop (.ListComp elt [⟨.Name x px,iter,[],0⟩] scope pos) 0 (.ref it) (.ref D) (compEnvC scope (clOf scope X.env) C X.env)) (RR (.ref D) C) s₃:=by
    rintro s₃ rfl
    refine codeAny_compLoop_tests
      (fun n s'=>∃ i ys its k σx H',Inv (blk X scope x C fp s₂ H₂) [(D,{ cls:=.type "list",data:=.seq (List.toArray its) k })] (σ ++ [σx]) H' s'∧tn i s'.heap∧(∀ b∈fp,H' b=none)∧Vals ys its∧W i n ys H') ?_ m0
      ⟨0,[],[],0,none,H₂,I0,T.keep _ _ _ st (fun b hb o e=>old b o e),fun b hb=>(ff b hb).1,.nil,w0⟩
    rintro n s' ⟨i,ys,its,k,σx,H',I',st',fr',rv,w'⟩
    obtain ⟨hz,hcase⟩:=turn i n ys H' w'
    have hpinD:=I'.pin (D,{ cls:=.type "list",data:=.seq (List.toArray its) k }) (by simp [blk])
    rcases hcase with ⟨stop,q⟩ | ⟨go,N,hN,step⟩
    · refine thn (T.done (blk X scope x C fp s₂ H₂) rfl rfl rfl hc i _ s' _ H' _ I' (fpB fr') st' stop) fun r s4 ⟨hr,I4⟩=>?_
      subst hr
      have pD:=I4.pin (D,{ cls:=.type "list",data:=.seq (List.toArray its) k }) (by simp [blk])
      obtain ⟨m4,hn4,_⟩:=I4.loc
      have IX:Inv X pins σ H' s4:=I.call' I4.os I4.base I4.hok I4.bare fun b hb=>by
        obtain ⟨f0,f1,f2,f3,f4,f5⟩:=ff b hb
        exact ⟨f3,f1,f4,f5⟩
      have IX2:=IX.adopt (D:=D) (ys:=ys) (its:=its) (n:=k) hpinD.2.1 (by rw [← hDe]; exact I.sz) (by rw [← hDe]; exact Nat.ne_of_gt I.lt)
        (fun y c e z=>by
          obtain ⟨v,o,ho,hd⟩:=I.cell y c e
          have:=Heap.lt_size ho
          rw [hDe,z] at this
          exact Nat.lt_irrefl _ this)
        (fun p hp z=>by
          have:=Heap.lt_size (I.pin p hp).1
          rw [hDe,z] at this
          exact Nat.lt_irrefl _ this) pD.1 rv hz
      refine hRR D C s4 _ m4 (by rw [hDe]; exact hCle) IX2 hn4 ?_ (q D hpinD.2.1)
      rw [upd_ne (Ne.symm hDC)]
      exact I4.free
    · refine thn (T.item (blk X scope x C fp s₂ H₂) rfl rfl rfl hc i _ s' _ H' _ I' (fpB fr') st' go) fun r s4 ⟨u,hr,h4⟩=>?_
      subst hr
      show wpAny _ _ (letOwnedTupleGo (.Name x px) (.ref it) u >>= fun _=>assign (.Name x px) (compEnvC scope (clOf scope X.env) C X.env) u) _ _ s4
      refine wpAny_bind (thn h4 fun _ s5 ⟨y,H5,I5,r5,y5,st5,fr5⟩=>?_)
      have I5':=I5.pinned (fpB fr5) (T.obj _ _ st5)
      refine wpAny_assign_Name ?_
      refine store_ok (X:=blk X scope x C fp s₂ H₂) (i:=X.N.length) (x:=x) (v:=y) I5' ndB (by simp [blk]) (.inl (lookup_relabel_local sc.var)) r5 (fun s6 I6=>?_) (.inr (lookup_relabel_local sc.var))
      have eσ:(σ ++ [σx]).set X.N.length (some y)=σ ++ [some y]:=by
        rw [← hσ]; simp
      rw [eσ] at I6
      refine wpAny_tests_nil ?_
      simp only [if_true]
      refine wpAny_mono (he C s₂ H₂ fp _ s6 _ H5 _ I6 (step y H5 y5)) (fun u7 s7 h7=>?_) fun _ _ f=>f.elim
      obtain ⟨v7,H7,I7,r7,n7⟩:=h7
      have pD7:=I7.pin (D,{ cls:=.type "list",data:=.seq (List.toArray its) k }) (by simp [blk])
      have hlen:=rv.length
      refine append_at (hsz:=by show its.toArray.size≤sizeLine; rw [List.size_toArray,← hlen]; exact hz) pD7.1 fun h8 hs8 hD8=>?_
      obtain ⟨m',hm,w8⟩:=hN _ _ n7
      have hD8':h8.get? D=some { cls:=.type "list",data:=.seq (its ++ [u7]).toArray (k + 1) }:=by rw [hD8,List.push_toArray]
      have I8:Inv (blk X scope x C fp s₂ H₂) [] (σ ++ [some y]) H7 { s7 with heap:=h8 }:=by
        refine (I7.pins_of (pins':=[]) fun p hp=>absurd hp (by simp)).turned (t':=s7.toks) (it:=D) (fun b o hb e=>(hs8.2 b hb).trans e) pD7.2.1 pD7.2.2.1 (.inr (by show s₂.heap.objs.size≤D; rw [hDe]; exact Nat.le_refl _)) (fun y' c' e' z=>?_) fun p hp=>absurd (show p∈([]:List (Addr × Obj)) from by simpa [blk] using hp) (by simp)
        obtain ⟨v,o,ho,hd⟩:=I.cell y' c' (clOf_some (sc:=sc) I.ok e')
        have:=Heap.lt_size ho
        rw [hDe,z] at this
        exact Nat.lt_irrefl _ this
      refine ⟨m',hm,i + 1,ys ++ [v7],its ++ [u7],k + 1,some y,H7,I8.pins_of fun p hp=>?_, ?_,fun b hb=>?_,rv.append (.cons r7 .nil),w8⟩
      · have e:p=(D,{ cls:=.type "list",data:=.seq (its ++ [u7]).toArray (k + 1) }):=by simpa using hp
        subst e
        exact ⟨hD8',pD7.2.1,pD7.2.2.1,pD7.2.2.2.1,fun v z=>nomatch z⟩
      · refine T.keep _ _ _ st5 fun b hb o e=>?_
        have hpb:=I7.pin (b,o) (List.mem_append_right _ (List.mem_append_right _ (mem_pinsAt hb e)))
        exact (hs8.2 b (Nat.ne_of_lt (flt b hb))).trans hpb.1
      · obtain ⟨o,e,d⟩:=T.obj _ _ st5 b hb
        exact (I7.pin (b,o) (List.mem_append_right _ (List.mem_append_right _ (mem_pinsAt hb e)))).2.1
  exact codeAny_compStart_list (loop _ rfl) (T.self _ 0 _ _ _ (T.keep _ _ _ st fun b hb o e=>old b o e) (loop _ rfl))
theorem pe_comp {wi:TI} (hi:PI X (.Name x px) iter wi) (he:∀ C s₂ H₂ ex,PE (blk X scope x C ex s₂ H₂) elt te) (hNd:X.N.Nodup) (hc:X.calm=true)
    (hclos:closureFor scope X.env=pure (clOf scope X.env):=by rfl) (hchk:compChk X.N X.env.scope scope x=true:=by rfl) (hs:∀ x,foldedSetIterable iter X.env x=pure x:=by exact fun _=>rfl) :
    PE X (.ListComp elt [⟨.Name x px,iter,[],0⟩] scope pos) (tComp wi te):=by
  intro pins s σ H Q I h
  have sc:=CompSc.of hchk
  rw [eval_ListComp]
  refine wpAny_comprehension_free (use:=none) rfl hs hclos sc.kind sc.locs (thn (hi pins s σ H _ I h) fun xv s₁ h₁=>thn h₁ fun itv s₂ h₂=>?_)
  obtain ⟨it,fp,tn,J,H2,e,I2,T,st2,f2,q⟩:=h₂
  subst e
  refine comp_run (RR:=fun acc C=>compPost (model X.prog X.w) X.A X.xe none (EP X pins σ Q) acc C) I2 sc hNd hc T st2 f2 q he ?_
  intro D C s' H' m' hC I' hn hC0 hq
  refine ⟨m',hn,fun h'' hs''=>⟨.ref D,H', ?_,rfl,hq⟩⟩
  refine I'.turned (t':=s'.toks) (it:=C) (fun b o hb e=>(hs''.2 b hb).trans e) hC0 (Nat.ne_of_gt (Nat.lt_of_lt_of_le I2.lt hC)) (.inr (Nat.le_trans I2.sz hC)) (fun y c e z=>?_) fun p hp z=>?_
  · obtain ⟨v,o,ho,hd⟩:=I2.cell y c e
    exact absurd (Heap.lt_size ho) (Nat.not_lt.mpr (by rw [z]; exact hC))
  · exact absurd (Heap.lt_size (I2.pin p hp).1) (Nat.not_lt.mpr (by rw [z]; exact hC))
end
end L2
namespace HL
open PySem PyProof.Rows
section
open PySem.SeqAt
open PySem.AutoSeq1 (wpAny_loadPart')
open PySem.MeetsSeq PySem.MeetsSeq2 PySem.MeetsSeq3 SeqRoads2
theorem intsAre_get:∀ {vs:List Value} {ns:List Int} {i:Nat} (_:IntsAre vs ns) (h1:i < vs.length) (h2:i < ns.length),∃ t,vs[i]=Value.int ns[i] t
  | _,_,0,.cons n t _,_,_=>⟨t,rfl⟩
  | _,_,i + 1,.cons n t h,h1,h2=>by
    obtain ⟨u,e⟩:=intsAre_get (i:=i) h (by simpa using h1) (by simpa using h2)
    exact ⟨u,by simpa using e⟩
theorem lt_loop (l b:Addr) (items items2:Array Value) (n n2:Nat) (dd dd2:Option Addr) (sl sl2:Array (Option Value)) (ns ms:List Int) (hi:IntsAre items.toList ns) (hj:IntsAre items2.toList ms) (k:Nat) :
    ∀ i:Nat,min items.size items2.size - i=k→i≤min items.size items2.size→Meets (Builtin.«list.__eq__.loop» ⟨[.ref l,.ref b,rawInt i,rawInt 0],[]⟩)
      (fun A R s=>s.heap.get? l=some { cls:=.type "list",dict:=dd,data:=.seq items n,slots:=sl }∧s.heap.get? b=some { cls:=.type "list",dict:=dd2,data:=.seq items2 n2,slots:=sl2 } ∧
        R (.ok (.ret (.bool (HT.lexLt (ns.drop i) (ms.drop i))))) s):=by
  have z1:items.size=ns.length:=by rw [← hi.length]; simp
  have z2:items2.size=ms.length:=by rw [← hj.length]; simp
  induction k with
  | zero =>
    intro i hk hle prog w A R s h
    obtain ⟨hp,g,d,tk,os⟩:=s; obtain ⟨hl,hb,h⟩:=h
    have hmin:min items.size items2.size=i:=by omega
    have fin:HT.lexLt (ns.drop i) (ms.drop i)=decide (items.size < items2.size):=by
      rw [z1,z2] at hmin ⊢
      by_cases h1:ns.length≤i
      · rw [List.drop_of_length_le h1]
        by_cases h2:ms.length≤i
        · rw [List.drop_of_length_le h2,HT.lexLt_nil_nil]
          exact (decide_eq_false (by omega)).symm
        · rw [List.drop_eq_getElem_cons (by omega),HT.lexLt_nil_cons]
          exact (decide_eq_true (by omega)).symm
      · rw [List.drop_eq_getElem_cons (by omega),List.drop_of_length_le (l:=ms) (by omega),HT.lexLt_cons_nil]
        exact (decide_eq_false (by omega)).symm
    rw [fin] at h
    wp_walk using wpAny_loadPart' hl,wpAny_loadPart' hb
    by_cases h1:items.size≤i
    · have hi1:items[((i:Nat):Int).toNat]?=none:=by simp; omega
      rw [hi1]
      cases h2:items2[((i:Nat):Int).toNat]? <;>
      · wp_walk using wpAny_loadPart' hl,wpAny_loadPart' hb
        exact h
    · have hi1:items[((i:Nat):Int).toNat]?=some (items[i]'(by omega)):=by simp
      have hi2:items2[((i:Nat):Int).toNat]?=none:=by simp; omega
      rw [hi1,hi2]
      wp_walk using wpAny_loadPart' hl,wpAny_loadPart' hb
      exact h
  | succ k ih =>
    intro i hk hle prog w A R s h
    obtain ⟨hp,g,d,tk,os⟩:=s; obtain ⟨hl,hb,h⟩:=h
    wp_walk using wpAny_loadPart' hl,wpAny_loadPart' hb
    have hlt:i < items.size:=by omega
    have hlt2:i < items2.size:=by omega
    have hn1:i < ns.length:=by omega
    have hn2:i < ms.length:=by omega
    have hi1:items[((i:Nat):Int).toNat]?=some items[i]:=by simp [hlt]
    have hi2:items2[((i:Nat):Int).toNat]?=some items2[i]:=by simp [hlt2]
    have hc:((i:Int) + 1)=((i + 1:Nat):Int):=by push_cast; rfl
    obtain ⟨t,e1⟩:∃ t,items[i]=Value.int ns[i] t:=by
      obtain ⟨t,e⟩:=intsAre_get hi (i:=i) (by simpa using hlt) hn1
      exact ⟨t,by simpa using e⟩
    obtain ⟨u,e2⟩:∃ t,items2[i]=Value.int ms[i] t:=by
      obtain ⟨t,e⟩:=intsAre_get hj (i:=i) (by simpa using hlt2) hn2
      exact ⟨t,by simpa using e⟩
    rw [List.drop_eq_getElem_cons hn1,List.drop_eq_getElem_cons hn2,HT.lexLt_cons] at h
    rw [hi1,hi2,e1,e2]
    obtain ⟨e,he,hiff⟩:=HT.eqAt_int A.in1 ⟨hp,g,d,tk,os⟩ ns[i] t ms[i] u
    refine wpAny_bind (he prog w _ _ ?_)
    cases e with
    | true =>
      rw [if_pos (hiff.mp rfl)] at h
      wp_walk
      rw [hc]
      exact ⟨plainId_quiet plain_eq_loop _,codeAny_builtin entry_eq_loop (by
        rw [Around.under_plainId plain_eq_loop _]
        exact ih (i + 1) (by omega) (by omega) prog w A R _ ⟨hl,hb,h⟩)⟩
    | false =>
      rw [if_neg (fun q=>absurd (hiff.mpr q) Bool.false_ne_true)] at h
      wp_walk using wpAny_loadPart' hl,wpAny_loadPart' hb
      rw [hi1,hi2,e1,e2]
      have hri:=HT.rcLt_int A.in1 ⟨hp,g,d,tk,os⟩ ns[i] t ms[i] u prog w
      wp_walk using hri
      exact h
theorem list_lt_ints (l b:Addr) (items items2:Array Value) (n n2:Nat) (dd dd2:Option Addr) (sl sl2:Array (Option Value)) (ns ms:List Int) (hi:IntsAre items.toList ns) (hj:IntsAre items2.toList ms) :
    Meets (Builtin.«list.__lt__» ⟨[.ref l,.ref b],[]⟩)
      (fun _ R s=>s.heap.get? l=some { cls:=.type "list",dict:=dd,data:=.seq items n,slots:=sl }∧s.heap.get? b=some { cls:=.type "list",dict:=dd2,data:=.seq items2 n2,slots:=sl2 } ∧
        R (.ok (.ret (.bool (HT.lexLt ns ms)))) s):=by
  intro prog w A R s h
  obtain ⟨hp,g,d,tk,os⟩:=s; obtain ⟨hl,hb,h⟩:=h
  have f3:=AutoSeq1.sub_list_list
  wp_walk using wpAny_loadPart' hl,wpAny_loadPart' hb
  exact ⟨plainId_quiet plain_eq_loop _,codeAny_builtin entry_eq_loop (by
    rw [Around.under_plainId plain_eq_loop _]
    exact lt_loop l b items items2 n n2 dd dd2 sl sl2 ns ms hi hj _ 0 rfl (Nat.zero_le _) prog w A R _ ⟨hl,hb,by simpa using h⟩)⟩
end
section
variable {prog:Program} {w:World} {A:Around} {E:Value→Shared→Prop} {s:Shared}
theorem rcLt_lists {l b:Addr} {items items2:Array Value} {ns ms:List Int} {Q:Value→Shared→Prop} (hl:s.heap.IsList l items) (hb:s.heap.IsList b items2) (hi:IntsAre items.toList ns) (hj:IntsAre items2.toList ms)
    (hu:A.units < cLine) (h:Q (.bool (HT.lexLt ns ms)) s):wpAny (model prog w) A (richCompare .Lt (.ref l) (.ref b)) Q E s:=by
  obtain ⟨⟨cls,dd,data,sl⟩,ho,hc,n,hd⟩:=id hl
  obtain ⟨⟨cls2,dd2,data2,sl2⟩,ho2,hc2,n2,hd2⟩:=id hb
  simp only at hc hd hc2 hd2
  subst hc hd hc2 hd2
  exact richCompare_meets_room (op:=.Lt) ⟨_,ho,rfl⟩ ⟨_,ho2,rfl⟩ PySem.F.slot_list_lt PySem.F.entry_list_lt (PySem.F.args_list_lt_2 _ _) (list_lt_ints l b items items2 n n2 dd dd2 sl sl2 ns ms hi hj)
    ⟨ho,ho2,show Value.bool (HT.lexLt ns ms)≠Value.notImplemented∧Q (.bool (HT.lexLt ns ms)) s from ⟨(fun x=>nomatch x),h⟩⟩ hu
end
end HL
namespace L2
open PySem PySem.Spec PyProof.Rows
section
variable {X:Cx}
theorem call_sum (hc:X.calm=true):CallR X (.builtin "sum") (fun xs H Q=>∃ p,∃ ns:List Int,xs=[.ref p]∧SqL X.K H p (ns.map V.int)∧Q (.int ns.sum) H):=by
  intro pins s σ H xs us Q I r h
  obtain ⟨p,ns,rfl,hq,q⟩:=h
  obtain ⟨u,rfl,rx⟩:=vals1 r
  cases rx
  obtain ⟨its,r',pl,hz⟩:=I.list hq
  have hi:IntsAre its ns:=intsAre_of r'
  obtain ⟨xs,hx⟩:=hi.allInts.items
  have hl':s.heap.IsList p (intItems xs):=hx ▸ pl.isList
  refine sum_intListG (I.ok.hd hc) hl' fun h' tk t' hk=>?_
  have e1:ns=xs.toList.map (·.1):=by
    rw [← nums_intItems,← hx]
    exact (show numsOf its.toArray.toList=ns from hi.numsOf).symm
  have e2:preSum (numAt xs) xs.size=ns.sum:=by
    rw [preSum_eq,List.take_of_length_le (by simp),e1]
  rw [e2]
  exact ⟨.int ns.sum,H,I.kept hk,⟨_,rfl⟩,q⟩
end
end L2
namespace HL
open PySem PyProof.Rows
section
variable {prog:Program} {w:World} {A:Around} {R:Result→Shared→Prop} {I:Addr} {fp wr:List Addr} {n:Nat} {P:Nat→Value→Prop} {St:Nat→Heap→Prop}
noncomputable def CmpH (prog:Program) (w:World) (A:Around) (P:Nat→Value→Prop) (bt:Nat→Nat→Bool) (wr:List Addr) (S:Addr) (hb:Heap):Prop :=
  ∀ i j vi vj (s:Shared) (Q:Value→Shared→Prop) (E:Value→Shared→Prop),P i vi→P j vj→(∀ b o,b ∉ wr→b≠S→hb.get? b=some o→s.heap.get? b=some o)→Q (.bool (bt i j)) s →
    wpAny (model prog w) A (richCompare .Lt vi vj) Q E s
theorem min_loopH (W:Walks prog w A.in1 I fp wr n P St) (bt:Nat→Nat→Bool) (S:Addr) (hSf:S ∉ fp) (hb:Heap) (hcmp:CmpH prog w A.in1 P bt wr S hb) :
    ∀ (k j:Nat) (s:Shared) (vb:Value) (c:Nat),n - (j + 1)=k→j + 1≤n→St (j + 1) s.heap→P (argBest bt j) vb →
    s.heap.get? S=some { cls:=.type "list",dict:=none,data:=.seq #[vb,vb] c,slots:=#[] }→(∀ b o,b ∉ wr→b≠S→hb.get? b=some o→s.heap.get? b=some o) →
    (∀ v h' tk,P (argBest bt (n - 1)) v→(∀ b o,b ∉ wr→b≠S→hb.get? b=some o→h'.get? b=some o)→R (.ok (.ret v)) { s with heap:=h',toks:=tk }) →
    codeAny (model prog w) A (.builtin "min.loop" ⟨[.ref I,.none,.ref S],[]⟩) R s:=by
  have hSw:S ∉ wr:=by intro h; exact hSf (W.sub _ h)
  have hnm:(toString "min" ++ toString ".loop":String) = "min.loop":=by decide
  intro k
  induction k with
  | zero =>
    intro j s vb c hk hj hst hPb hS hold hR
    have hjn:j + 1=n:=by omega
    refine codeAny_builtin F.entry_min_loop ?_
    rw [Around.under_plainId F.plain_min_loop]
    show wpAny _ A.in1 (seqItems? (.ref S) >>= _) _ _ s
    refine wpAny_bind (wpAny_seqItems hS rfl ?_)
    show wpAny _ A.in1 (tryCatch (pyNext (.ref I)) _ >>= _) _ _ s
    refine wpAny_bind (wpAny_tryCatch (W.done s _ _ (hjn ▸ hst) fun h' tk hk'=>?_))
    have hS':=hk' S _ hSw hS
    show wpAny _ A.in1 (updateSeq S (fun _=>#[]) >>= _) _ _ _
    refine wpAny_bind (wpAny_updateSeq hS' rfl (wpAny_bind (wpAny_letGo (wpAny_pure ?_))))
    refine hR vb _ tk (by rw [← hjn]; exact hPb) fun b o hbw hbS e=>?_
    exact (Heap.get?_update_other _ _ (Ne.symm hbS)).trans (hk' b o hbw (hold b o hbw hbS e))
  | succ k ih =>
    intro j s vb c hk hj hst hPb hS hold hR
    have hltn:j + 1 < n:=by omega
    refine codeAny_builtin F.entry_min_loop ?_
    rw [Around.under_plainId F.plain_min_loop]
    show wpAny _ A.in1 (seqItems? (.ref S) >>= _) _ _ s
    refine wpAny_bind (wpAny_seqItems hS rfl ?_)
    show wpAny _ A.in1 (tryCatch (pyNext (.ref I)) _ >>= _) _ _ s
    refine wpAny_bind (wpAny_tryCatch (W.item (j + 1) s _ _ hltn hst fun v h' tk hP hst' hk'=>?_))
    have hS':=hk' S _ hSw hS
    have hold':∀ b o,b ∉ wr→b≠S→hb.get? b=some o→h'.get? b=some o:=fun b o hbw hbS e=>hk' b o hbw (hold b o hbw hbS e)
    show wpAny _ A.in1 (tryCatch (holding [v,v] (richCompare .Lt v vb >>= _)) _ >>= _) _ _ _
    refine wpAny_bind (wpAny_tryCatch (wpAny_holding (wpAny_bind (hcmp (j + 1) (argBest bt j) v vb { s with heap:=h',toks:=tk } _ _ hP hPb hold' ?_))))
    refine wpAny_bind (wpAny_holding (wpAny_truthy_bool ?_))
    refine wpAny_bind (wpAny_letGo (wpAny_pure ?_))
    cases hbt:bt (j + 1) (argBest bt j) with
    | true =>
      simp only [if_true]
      refine wpAny_bind (wpAny_updateSeq hS' rfl (wpAny_bind (wpAny_letGo ?_)))
      rw [hnm]
      refine wpAny_pure ⟨plainId_quiet F.plain_min_loop _,ih (j + 1) _ v _ (by omega) hltn (W.frame _ _ _ hst' fun b hbf o e=>?_) (by simp only [argBest,hbt,if_true]; exact hP) (Heap.get?_update_self _ hS' rfl) (fun b o hbw hbS e=>?_)
        fun v' h'' tk'' hP' hk''=>hR v' h'' tk'' hP' hk''⟩
      · exact (Heap.get?_update_other _ _ (fun z:S=b=>hSf (by rw [z]; exact hbf))).trans e
      · exact (Heap.get?_update_other _ _ (Ne.symm hbS)).trans (hold' b o hbw hbS e)
    | false =>
      simp only [Bool.false_eq_true,if_false]
      refine wpAny_bind (wpAny_letGo ?_)
      rw [hnm]
      exact wpAny_pure ⟨plainId_quiet F.plain_min_loop _,ih (j + 1) _ vb c (by omega) hltn hst' (by simp only [argBest,hbt,Bool.false_eq_true,if_false]; exact hPb) hS' hold' fun v' h'' tk'' hP' hk''=>hR v' h'' tk'' hP' hk''⟩
end
section
variable {prog:Program} {w:World} {A:Around} {E:Value→Shared→Prop} {s:Shared}
theorem call_minH {x:Value} {Q:Value→Shared→Prop}
    (h:wpAny (model prog w) A.in1 (pyIter x) (fun it s₂=>∃ I fp wr n P St bt,it=.ref I∧Walks prog w A.in1 I fp wr n P St∧St 0 s₂.heap∧(∀ b∈fp,b < s₂.heap.objs.size)∧0 < n∧CmpH prog w A.in1 P bt wr s₂.heap.objs.size s₂.heap ∧
      ∀ v h' tk,P (argBest bt (n - 1)) v→(∀ b o,b ∉ wr→s₂.heap.get? b=some o→h'.get? b=some o)→Q v { s₂ with heap:=h',toks:=tk }) E s) :
    wpAny (model prog w) A (call (.builtin "min") [x]) Q E s:=by
  have hnm:(toString "min" ++ toString ".loop":String) = "min.loop":=by decide
  refine call_function_tree F.kind_min F.plain_min F.entry_min (F.args_min1 _) ?_
  show wpAny _ A.in1 (Builtin.Builtins.bindParams "min" ["key", "default"] 0 ⟨[],[]⟩ >>= _) _ _ s
  refine wpAny_bind (wpAny_of_eq (show Builtin.Builtins.bindParams "min" ["key", "default"] 0 ⟨[],[]⟩=pure [none,none] from rfl) (wpAny_bind (wpAny_pure ?_)))
  refine wpAny_bind (wpAny_mono h (fun it s₂ h₂=>?_) fun _ _ e=>e)
  obtain ⟨I,fp,wr,n,P,St,bt,rfl,W,hst,hfp,hn,hcmp,hQ⟩:=h₂
  refine wpAny_bind (wpAny_newObj_type ?_)
  have hSf:s₂.heap.objs.size ∉ fp:=fun z=>absurd (hfp _ z) (Nat.lt_irrefl _)
  have hSw:s₂.heap.objs.size ∉ wr:=fun z=>hSf (W.sub _ z)
  rw [hnm]
  refine wpAny_pure ⟨plainId_quiet F.plain_min_loop _, ?_⟩
  generalize hs3:({ s₂ with heap:=s₂.heap.push { cls:=.type "list",dict:=none,data:=.seq ([]:List Value).toArray } }:Shared)=s3
  have k3:∀ b o,s₂.heap.get? b=some o→s3.heap.get? b=some o:=fun b o e=>by rw [← hs3]; exact Heap.get?_push_of_some _ e
  have st3:St 0 s3.heap:=W.frame _ _ _ hst fun b _ o e=>k3 b o e
  have hS3:s3.heap.get? s₂.heap.objs.size=some { cls:=.type "list",dict:=none,data:=.seq #[] 0,slots:=#[] }:=by rw [← hs3]; exact Heap.get?_push_size _ rfl
  have e3:∀ h' tk,({ s3 with heap:=h',toks:=tk }:Shared)={ s₂ with heap:=h',toks:=tk }:=fun h' tk=>by rw [← hs3]
  refine codeAny_builtin F.entry_min_loop ?_
  rw [Around.under_plainId F.plain_min_loop]
  show wpAny _ A.in1 (seqItems? (.ref s₂.heap.objs.size) >>= _) _ _ s3
  refine wpAny_bind (wpAny_seqItems hS3 rfl ?_)
  show wpAny _ A.in1 (tryCatch (pyNext (.ref I)) _ >>= _) _ _ s3
  refine wpAny_bind (wpAny_tryCatch (W.item 0 s3 _ _ hn st3 fun v h' tk hP hst' hk'=>?_))
  have hS':=hk' _ _ hSw hS3
  show wpAny _ A.in1 (updateSeq s₂.heap.objs.size (fun _=>#[v,v]) >>= _) _ _ _
  refine wpAny_bind (wpAny_updateSeq hS' rfl ?_)
  rw [hnm]
  refine wpAny_pure ⟨plainId_quiet F.plain_min_loop _,min_loopH W bt s₂.heap.objs.size hSf s₂.heap hcmp _ 0 _ v _ rfl hn (W.frame _ _ _ hst' fun b hbf o e=>?_) hP (Heap.get?_update_self _ hS' rfl) (fun b o hbw hbS e=>?_) fun v' h'' tk'' hP' hk''=>?_⟩
  · exact (Heap.get?_update_other _ _ (fun z:s₂.heap.objs.size=b=>hSf (by rw [z]; exact hbf))).trans e
  · exact (Heap.get?_update_other _ _ (Ne.symm hbS)).trans (hk' b o hbw (k3 b o e))
  · have:=hQ v' h'' tk'' hP' fun b o hbw e=>hk'' b o hbw (Nat.ne_of_lt (Heap.lt_size e)) e
    rw [← e3] at this
    exact this
end
section
open PySem.SeqAt
open PySem.AutoSeq1 (wpAny_loadPart')
open PySem.MeetsSeq PySem.MeetsSeq2 PySem.MeetsSeq3
end
end HL
namespace HL
open PySem
theorem lexLt_irrefl:∀ a:List Int,HT.lexLt a a=false
  | []=>rfl
  | x :: xs=>by rw [HT.lexLt_cons,if_pos rfl]; exact lexLt_irrefl xs
theorem lexLt_trans:∀ {a b c:List Int},HT.lexLt a b=true→HT.lexLt b c=true→HT.lexLt a c=true
  | [],[],_,h,_=>by simp [HT.lexLt] at h
  | [],_ :: _,[],_,h=>by simp [HT.lexLt] at h
  | [],_ :: _,_ :: _,_,_=>rfl
  | _ :: _,[],_,h,_=>by simp [HT.lexLt] at h
  | _ :: _,_ :: _,[],_,h=>by simp [HT.lexLt] at h
  | x :: xs,y :: ys,z :: zs,h1,h2=>by
    rw [HT.lexLt_cons] at h1 h2 ⊢
    by_cases e1:x=y
    · rw [if_pos e1] at h1
      subst e1
      by_cases e2:x=z
      · rw [if_pos e2] at h2 ⊢
        exact lexLt_trans h1 h2
      · rw [if_neg e2] at h2 ⊢
        exact h2
    · rw [if_neg e1] at h1
      have h1':=of_decide_eq_true h1
      by_cases e2:y=z
      · subst e2
        rw [if_neg e1]
        exact h1
      · rw [if_neg e2] at h2
        have h2':=of_decide_eq_true h2
        rw [if_neg (by omega)]
        exact decide_eq_true (by omega)
theorem lexLt_total:∀ {a b:List Int},HT.lexLt a b=false→HT.lexLt b a=false→a=b
  | [],[],_,_=>rfl
  | [],_ :: _,h,_=>by simp [HT.lexLt] at h
  | _ :: _,[],_,h=>by simp [HT.lexLt] at h
  | x :: xs,y :: ys,h1,h2=>by
    rw [HT.lexLt_cons] at h1 h2
    by_cases e:x=y
    · subst e
      rw [if_pos rfl] at h1 h2
      rw [lexLt_total h1 h2]
    · rw [if_neg e] at h1
      rw [if_neg (Ne.symm e)] at h2
      have:=of_decide_eq_false h1
      have:=of_decide_eq_false h2
      omega
theorem argBest_min {bt:Nat→Nat→Bool} (irr:∀ i,bt i i=false) (tr:∀ i j k,bt i j=true→bt j k=true→bt i k=true):∀ n,argBest bt n≤n∧∀ j,j≤n→bt j (argBest bt n)=false
  | 0=>⟨Nat.le_refl _,fun j hj=>by rw [Nat.le_zero.mp hj]; exact irr 0⟩
  | n + 1=>by
    obtain ⟨h1,h2⟩:=argBest_min irr tr n
    unfold argBest
    by_cases hb:bt (n + 1) (argBest bt n)=true
    · rw [if_pos hb]
      refine ⟨Nat.le_refl _,fun j hj=>?_⟩
      by_cases hj':j=n + 1
      · rw [hj']; exact irr _
      · cases hc:bt j (n + 1) with
        | false=>rfl
        | true=>have:=tr _ _ _ hc hb; rw [h2 j (by omega)] at this; cases this
    · rw [if_neg hb]
      refine ⟨Nat.le_succ_of_le h1,fun j hj=>?_⟩
      by_cases hj':j=n + 1
      · rw [hj']; exact Bool.eq_false_iff.mpr hb
      · exact h2 j (by omega)
end HL
namespace L2
open PySem PySem.Spec PyProof.Rows
section
variable {X:Cx}
end
end L2
namespace L2
open PySem PySem.Spec PyProof.Rows
noncomputable def Dfn (K:PySem.W.Frag) (mg:Str→Option Value) (x:Str) (st:Stmt):Prop:=∃ f fd,Fun K x x st f fd∧mg x=some (.ref f)
noncomputable abbrev BindFact (x:Str) (st:Stmt) (ps:List Str):Prop:=∀ (kV doc pm:Value) (an:Option Addr) (cdv ct:Value) (us:List Value),us.length=ps.length →
  bindArgs (PySem.W.fnOf x x (defArgs st) (defBody st) (defScope st) .none kV doc pm an cdv ct) ⟨us,[]⟩=pure (ps.zip us)
noncomputable def Ok (P:Program) (w:World) (K:PySem.W.Frag) (mg:Str→Option Value) (base:Heap) (k:Nat) (x:Str) (ps:List Str) (sp:Sp):Prop :=
  ∃ f fd,FnOk P w K mg base CX0 k f fd ps sp∧mg x=some (.ref f)∧PySem.W.keepIn K (.ref f)=true∧Binds K fd ps []
theorem okOf {P:Program} {w:World} {K:PySem.W.Frag} {mg:Str→Option Value} {base:Heap} {k:Nat} {x:Str} {st:Stmt} {ps:List Str} {sp:Sp} (d:Dfn K mg x st) (b:BindFact x st ps)
    (h:∀ {f fd},Fun K x x st f fd→FnOk P w K mg base CX0 k f fd ps sp):Ok P w K mg base k x ps sp:=by
  obtain ⟨f,fd,F,hm⟩:=d
  exact ⟨f,fd,h F,hm,F.kp,F.binds b⟩
section
variable {X:Cx} {k:Nat} {x:Str} {ps:List Str} {sp:Sp} {p pos:Pos} {e:Expr} {es:List Expr} {t:TA}
noncomputable def tCallO (sp:Sp) (t:TA):TE:=fun σ H Q=>t σ H fun vs H1=>sp vs H1 Q E0
theorem pe_callO (G:Ok X.prog X.w X.K X.mg X.base k x ps sp) (hr:Room k X.A) (hg:Gl X x) (ha:PA X (e :: es) t) (hdb:(x == ("__debug__":Str))=false:=by decide)
    (he:starEach (e :: es) X.env=(false,eval e X.env) :: starEach es X.env:=by rfl) (hpl:(backTo pos (starEach es X.env)).any (·.1)=false:=by rfl):PE X (.Call (.Name x p) (e :: es) [] pos) (tCallO sp t):=by
  obtain ⟨f,fd,F,hm,hk,hb⟩:=G
  intro pins s σ H Q I h
  refine pe_call (CX:=CX0) (E:=E0) (dvs:=[]) F hr hg hm hk hb .nil pass0 ha hdb he hpl pins s σ H Q I ?_
  have e:(fun vs H1=>sp (vs ++ []) H1 Q E0)=fun vs H1=>sp vs H1 Q E0:=by funext vs H1; rw [List.append_nil]
  show t σ H (fun vs H1=>sp (vs ++ []) H1 Q E0)
  rw [e]
  exact h
theorem pe_callO0 (G:Ok X.prog X.w X.K X.mg X.base k x ps sp) (hr:Room k X.A) (hg:Gl X x) (hdb:(x == ("__debug__":Str))=false:=by decide):PE X (.Call (.Name x p) [] [] pos) (tCallO sp tNil):=by
  obtain ⟨f,fd,F,hm,hk,hb⟩:=G
  exact pe_call0 (CX:=CX0) (E:=E0) (dvs:=[]) F hr hg hm hk hb .nil pass0 hdb
theorem pe_globI {i:Int} (hm:∃ t,X.mg x=some (.int i t)) (hg:Gl X x) (hd:(x == ("__debug__":Str))=false:=by decide):PE X (.Name x pos) (tC (.int i)):=by
  obtain ⟨t,hm⟩:=hm
  exact pe_glob (v:=.int i) hg hm ⟨t,rfl⟩ hd
end
theorem bb_isinstance:bootBuiltins "isinstance"=some (.builtin "isinstance"):=by decide +kernel
theorem bb_sum:bootBuiltins "sum"=some (.builtin "sum"):=by decide +kernel
theorem bb_min:bootBuiltins "min"=some (.builtin "min"):=by decide +kernel
theorem bt_int:bootBuiltins "int"=some (.type "int"):=by decide +kernel
theorem bt_bool:bootBuiltins "bool"=some (.type "bool"):=by decide +kernel
section
variable {t u:TS} {ta tb tc te:TE} {c d:TT} {D:Ends} {σ:St} {H:Hp} {Q:VK} {B:Bool→Hp→Prop} {a b:TA} {S:List V→Hp→Prop}
end
end L2
namespace L2
open PySem PySem.Spec PyProof.Rows
section
variable {t u:TS} {ta tb tc te:TE} {c d:TT} {D:Ends} {σ:St} {H:Hp} {Q:VK} {B:Bool→Hp→Prop} {a b:TA} {S:List V→Hp→Prop} {g:TG}
end
section
variable {X:Cx} {K:PySem.W.Frag}
theorem ix_seqK (e:X.K=K:=by rfl):IxR X (rIx K):=by subst e; exact ix_seq
theorem call_sumK (hc:X.calm=true) (e:X.K=K:=by rfl):CallR X (.builtin "sum") (fun xs H Q=>∃ p,∃ ns:List Int,xs=[.ref p]∧SqL K H p (ns.map V.int)∧Q (.int ns.sum) H):=by subst e; exact call_sum hc
theorem sl_listK (e:X.K=K:=by rfl):SlR X (rSlL K):=by subst e; exact sl_list
theorem pi_listK {tg l:Expr} {tl:TE} (hl:PE X l tl) (e:X.K=K:=by rfl):PI X tg l (iList K tl):=by subst e; exact pi_list hl
end
section
variable {t u:TS} {ta tb tc te:TE} {c d:TT} {D:Ends} {σ:St} {H:Hp} {Q:VK} {B:Bool→Hp→Prop} {a b:TA} {S:List V→Hp→Prop} {g:TG}
theorem Same.upd {H H':Hp} {p:Addr} {o:HO} (h:Same H H') (hp:H p=none):Same H (upd H' p o):=fun b u e=>by
  rw [upd_ne (ne_of_none e hp)]
  exact h b u e
theorem Same.new {H:Hp} {p:Addr} {o:HO} (hp:H p=none):Same H (L2.upd H p o):=Same.upd (Same.refl H) hp
theorem line_big {n:Nat} (h:n≤1000):n≤sizeLine:=Nat.le_trans h (by decide)
end
end L2
namespace L2
open PySem PySem.Spec PyProof.Rows
inductive Sh where
  | dk (ks:List Key) | dt (ks:List (List Key)) | ob (n:Str) (fs:List Str)
inductive PV where
  | non | bl (b:Bool) | int (i:Int) | str (x:Str) | lst (xs:List PV) | tup (xs:List PV)
    | exc (n:Str)
    | exa (n:Str) (i:Int)
    | box (p:Option Addr) (s:Sh) (xs:List PV)
mutual
noncomputable def PV.flat:PV→Bool
  | .lst _=>false
  | .tup xs=>PV.flats xs
  | .non=>true
  | .bl _=>true
  | .int _=>true
  | .str _=>true
  | .exc _=>true
  | .exa _ _=>true
  | .box _ _ _=>false
noncomputable def PV.flats:List PV→Bool
  | []=>true
  | x :: xs=>x.flat && PV.flats xs
end
noncomputable def KL (K:PySem.W.Frag) (a:Addr) (xs:List V):Prop :=
  ∃ (o:Obj) (its:Array Value) (n:Nat),K.lookup a=some o∧o.cls=.type "list"∧o.dict=none∧o.data=.seq its n∧its.size≤sizeLine∧Vals xs its.toList
noncomputable def ImO:HO→Prop
  | .tup _=>True
  | .frz _ _=>True
  | .xd _=>True
  | _=>False
noncomputable def Im (K:PySem.W.Frag) (H:Hp) (a:Addr) (u:HO):Prop:=H a=some u∧ImO u
noncomputable def Lvo:HO→Prop
  | .lst _=>True
  | .dK _=>True
  | .dT _=>True
  | .ins _ _ _=>True
  | _=>False
noncomputable abbrev LvO:={ u:HO // Lvo u }
noncomputable def XCls (K:PySem.W.Frag) (n:Str) (C:Addr):Prop:=PySem.W.nsIn K mainGlobals n=some (some (.ref C))
noncomputable def ExcAt (K:PySem.W.Frag) (H:Hp) (n:Str) (v:V):Prop:=∃ a o C,v=.ref a∧Im K H a (.frz o (.own a))∧o.cls=.ref C∧o.dict=none∧PySem.W.notCls o=true∧XCls K n C
noncomputable def ExaAt (K:PySem.W.Frag) (H:Hp) (n:Str) (i:Int) (v:V):Prop:=∃ a o C d fs,v=.ref a∧Im K H a (.frz o (.own a))∧Im K H d (.xd fs)∧o.cls=.ref C∧o.dict=some d∧PySem.W.notCls o=true∧XCls K n C∧fs=[(("at":Str),V.int i)]
noncomputable def BoxO (K:PySem.W.Frag):Sh→List V→HO→Prop
  | .dk ks,vs,u=>ks.length=vs.length∧u=.dK (ks.zip vs)
  | .dt ks,vs,u=>ks.length=vs.length∧u=.dT (ks.zip vs)
  | .ob n fs,vs,u=>fs.length=vs.length∧∃ C dx,u=.ins C dx (fs.zip vs)∧XCls K n C
noncomputable def PinO (p:Option Addr) (a:Addr):Prop:=match p with
  | none=>True
  | some b=>a=b
theorem BoxO.lv {K:PySem.W.Frag} {s:Sh} {vs:List V} {u:HO} (h:BoxO K s vs u):Lvo u:=by
  cases s with
  | dk ks=>obtain ⟨_,rfl⟩:=h; trivial
  | dt ks=>obtain ⟨_,rfl⟩:=h; trivial
  | ob n fs=>obtain ⟨_,C,dx,rfl,_⟩:=h; trivial
theorem lv_ne_im {u o:HO} (h:Lvo u) (h':ImO o):o≠u:=by
  intro e; subst e
  cases o <;> first | exact h | exact h'
mutual
noncomputable def Rep (K:PySem.W.Frag) (H:Hp) (S:Addr→Prop):PV→V→Prop
  | .non,v=>v=.non
  | .bl b,v=>v=.bl b
  | .int i,v=>v=.int i
  | .str x,v=>v=.str x
  | .exc n,v=>ExcAt K H n v
  | .exa n i,v=>ExaAt K H n i v
  | .box p s xs,v=>∃ a vs u,v=.ref a∧(Rd H a u∧S a)∧(PinO p a∧BoxO K s vs u)∧Reps K H S xs vs
  | .lst xs,v=>∃ a vs,v=.ref a∧((Rd H a (.lst vs)∧S a) ∨ KL K a vs)∧Reps K H S xs vs
  | .tup xs,v=>∃ a vs,v=.ref a∧Im K H a (.tup vs)∧Reps K H S xs vs
noncomputable def Reps (K:PySem.W.Frag) (H:Hp) (S:Addr→Prop):List PV→List V→Prop
  | [],vs=>vs=[]
  | x :: xs,vs=>∃ v r,vs=v :: r∧Rep K H S x v∧Reps K H S xs r
end
mutual
noncomputable def Tree (K:PySem.W.Frag) (H:Hp):PV→V→List Addr→Prop
  | .non,v,F=>v=.non∧F=[]
  | .bl b,v,F=>v=.bl b∧F=[]
  | .int i,v,F=>v=.int i∧F=[]
  | .str x,v,F=>v=.str x∧F=[]
  | .exc n,v,F=>ExcAt K H n v∧F=[]
  | .exa n i,v,F=>ExaAt K H n i v∧F=[]
  | .box p s xs,v,F=>∃ a vs u G,v=.ref a∧H a=some u∧(PinO p a∧BoxO K s vs u)∧Trees K H xs vs G∧a ∉ G∧F=a :: G
  | .lst xs,v,F=>∃ a vs G,v=.ref a∧H a=some (.lst vs)∧Trees K H xs vs G∧a ∉ G∧F=a :: G
  | .tup xs,v,F=>∃ a vs,v=.ref a∧Im K H a (.tup vs)∧Trees K H xs vs F
noncomputable def Trees (K:PySem.W.Frag) (H:Hp):List PV→List V→List Addr→Prop
  | [],vs,F=>vs=[]∧F=[]
  | x :: xs,vs,F=>∃ v r G1 G2,vs=v :: r∧Tree K H x v G1∧Trees K H xs r G2∧(∀ a∈G1,a ∉ G2)∧F=G1 ++ G2
end
section
variable {K:PySem.W.Frag} {H H':Hp} {S S':Addr→Prop}
mutual
theorem Rep.mono (h1:∀ a u,S a→Rd H a u→Rd H' a u∧S' a) (h2:∀ a u,Im K H a u→Im K H' a u):∀ {x:PV} {v:V},Rep K H S x v→Rep K H' S' x v
  | .non,_,h=>h
  | .bl _,_,h=>h
  | .int _,_,h=>h
  | .str _,_,h=>h
  | .exc n,_,h=>let ⟨a,o,C,e1,e2,e3⟩:=h; ⟨a,o,C,e1,h2 a _ e2,e3⟩
  | .exa n i,_,h=>let ⟨a,o,C,d,fs,e1,e2,e2',e3⟩:=h; ⟨a,o,C,d,fs,e1,h2 a _ e2,h2 d _ e2',e3⟩
  | .box p s xs,_,h=>by
    obtain ⟨a,vs,u,rfl,⟨n1,n2⟩,hb,hr⟩:=h
    exact ⟨a,vs,u,rfl,h1 a u n2 n1,hb,Reps.mono h1 h2 hr⟩
  | .lst xs,_,h=>by
    obtain ⟨a,vs,rfl,hn,hr⟩:=h
    refine ⟨a,vs,rfl, ?_,Reps.mono h1 h2 hr⟩
    rcases hn with ⟨n1,n2⟩ | n
    · exact .inl (h1 a _ n2 n1)
    · exact .inr n
  | .tup xs,_,h=>by
    obtain ⟨a,vs,rfl,hn,hr⟩:=h
    exact ⟨a,vs,rfl,h2 a _ hn,Reps.mono h1 h2 hr⟩
theorem Reps.mono (h1:∀ a u,S a→Rd H a u→Rd H' a u∧S' a) (h2:∀ a u,Im K H a u→Im K H' a u):∀ {xs:List PV} {vs:List V},Reps K H S xs vs→Reps K H' S' xs vs
  | [],_,h=>h
  | x :: xs,_,h=>by
    obtain ⟨v,r,rfl,h3,h4⟩:=h
    exact ⟨v,r,rfl,Rep.mono h1 h2 h3,Reps.mono h1 h2 h4⟩
end
mutual
theorem Tree.mono:∀ {x:PV} {v:V} {F:List Addr},(∀ a∈F,∀ o,H a=some o→H' a=some o)→(∀ a vs,Im K H a vs→Im K H' a vs)→Tree K H x v F→Tree K H' x v F
  | .non,_,_,_,_,h=>h
  | .bl _,_,_,_,_,h=>h
  | .int _,_,_,_,_,h=>h
  | .str _,_,_,_,_,h=>h
  | .exc n,_,_,_,h2,h=>let ⟨⟨a,o,C,e1,e2,e3⟩,e4⟩:=h; ⟨⟨a,o,C,e1,h2 a _ e2,e3⟩,e4⟩
  | .exa n i,_,_,_,h2,h=>let ⟨⟨a,o,C,d,fs,e1,e2,e2',e3⟩,e4⟩:=h; ⟨⟨a,o,C,d,fs,e1,h2 a _ e2,h2 d _ e2',e3⟩,e4⟩
  | .box p s xs,_,_,h1,h2,h=>by
    obtain ⟨a,vs,u,G,rfl,ha,hb,ht,hn,rfl⟩:=h
    exact ⟨a,vs,u,G,rfl,h1 a (by simp) _ ha,hb,Trees.mono (fun b hb o e=>h1 b (by simp [hb]) o e) h2 ht,hn,rfl⟩
  | .lst xs,_,_,h1,h2,h=>by
    obtain ⟨a,vs,G,rfl,ha,ht,hn,rfl⟩:=h
    exact ⟨a,vs,G,rfl,h1 a (by simp) _ ha,Trees.mono (fun b hb o e=>h1 b (by simp [hb]) o e) h2 ht,hn,rfl⟩
  | .tup xs,_,_,h1,h2,h=>by
    obtain ⟨a,vs,rfl,ha,ht⟩:=h
    exact ⟨a,vs,rfl,h2 a _ ha,Trees.mono h1 h2 ht⟩
theorem Trees.mono:∀ {xs:List PV} {vs:List V} {F:List Addr},(∀ a∈F,∀ o,H a=some o→H' a=some o)→(∀ a vs,Im K H a vs→Im K H' a vs)→Trees K H xs vs F→Trees K H' xs vs F
  | [],_,_,_,_,h=>h
  | x :: xs,_,_,h1,h2,h=>by
    obtain ⟨v,r,G1,G2,rfl,h3,h4,hd,rfl⟩:=h
    exact ⟨v,r,G1,G2,rfl,Tree.mono (fun b hb o e=>h1 b (by simp [hb]) o e) h2 h3,Trees.mono (fun b hb o e=>h1 b (by simp [hb]) o e) h2 h4,hd,rfl⟩
end
mutual
theorem Tree.rep:∀ {x:PV} {v:V} {F:List Addr},(∀ a∈F,S a)→Tree K H x v F→Rep K H S x v
  | .non,_,_,_,h=>h.1
  | .bl _,_,_,_,h=>h.1
  | .int _,_,_,_,h=>h.1
  | .str _,_,_,_,h=>h.1
  | .exc _,_,_,_,h=>h.1
  | .exa _ _,_,_,_,h=>h.1
  | .box p s xs,_,_,h1,h=>by
    obtain ⟨a,vs,u,G,rfl,ha,hb,ht,hn,rfl⟩:=h
    exact ⟨a,vs,u,rfl,⟨.inl ha,h1 a (by simp)⟩,hb,Trees.reps (fun b hb=>h1 b (by simp [hb])) ht⟩
  | .lst xs,_,_,h1,h=>by
    obtain ⟨a,vs,G,rfl,ha,ht,hn,rfl⟩:=h
    exact ⟨a,vs,rfl,.inl ⟨.inl ha,h1 a (by simp)⟩,Trees.reps (fun b hb=>h1 b (by simp [hb])) ht⟩
  | .tup xs,_,_,h1,h=>by
    obtain ⟨a,vs,rfl,ha,ht⟩:=h
    exact ⟨a,vs,rfl,ha,Trees.reps h1 ht⟩
theorem Trees.reps:∀ {xs:List PV} {vs:List V} {F:List Addr},(∀ a∈F,S a)→Trees K H xs vs F→Reps K H S xs vs
  | [],_,_,_,h=>h.1
  | x :: xs,_,_,h1,h=>by
    obtain ⟨v,r,G1,G2,rfl,h3,h4,hd,rfl⟩:=h
    exact ⟨v,r,rfl,Tree.rep (fun b hb=>h1 b (by simp [hb])) h3,Trees.reps (fun b hb=>h1 b (by simp [hb])) h4⟩
end
mutual
theorem Tree.alive:∀ {x:PV} {v:V} {F:List Addr},Tree K H x v F→∀ a∈F,∃ vs:LvO,H a=some vs.1
  | .non,_,_,h=>by rw [h.2]; simp
  | .bl _,_,_,h=>by rw [h.2]; simp
  | .int _,_,_,h=>by rw [h.2]; simp
  | .str _,_,_,h=>by rw [h.2]; simp
  | .exc _,_,_,h=>by rw [h.2]; simp
  | .exa _ _,_,_,h=>by rw [h.2]; simp
  | .box p s xs,_,_,h=>by
    obtain ⟨a,vs,u,G,rfl,ha,hb,ht,hn,rfl⟩:=h
    intro b hb'
    rcases List.mem_cons.mp hb' with rfl | hb'
    · exact ⟨⟨u,hb.2.lv⟩,ha⟩
    · exact Trees.alive ht b hb'
  | .lst xs,_,_,h=>by
    obtain ⟨a,vs,G,rfl,ha,ht,hn,rfl⟩:=h
    intro b hb
    rcases List.mem_cons.mp hb with rfl | hb
    · exact ⟨⟨.lst vs,trivial⟩,ha⟩
    · exact Trees.alive ht b hb
  | .tup xs,_,_,h=>by
    obtain ⟨a,vs,rfl,ha,ht⟩:=h
    exact Trees.alive ht
theorem Trees.alive:∀ {xs:List PV} {vs:List V} {F:List Addr},Trees K H xs vs F→∀ a∈F,∃ vs:LvO,H a=some vs.1
  | [],_,_,h=>by rw [h.2]; simp
  | x :: xs,_,_,h=>by
    obtain ⟨v,r,G1,G2,rfl,h3,h4,hd,rfl⟩:=h
    intro b hb
    rcases List.mem_append.mp hb with hb | hb
    · exact Tree.alive h3 b hb
    · exact Trees.alive h4 b hb
end
mutual
theorem Rep.tree:∀ {x:PV} {v:V},x.flat=true→Rep K H S x v→Tree K H x v []
  | .non,_,_,h=>⟨h,rfl⟩
  | .bl _,_,_,h=>⟨h,rfl⟩
  | .int _,_,_,h=>⟨h,rfl⟩
  | .str _,_,_,h=>⟨h,rfl⟩
  | .exc _,_,_,h=>⟨h,rfl⟩
  | .exa _ _,_,_,h=>⟨h,rfl⟩
  | .box p s xs,_,f,_=>by simp [PV.flat] at f
  | .lst xs,_,f,_=>by simp [PV.flat] at f
  | .tup xs,_,f,h=>by
    obtain ⟨a,vs,rfl,ha,ht⟩:=h
    exact ⟨a,vs,rfl,ha,Reps.trees (by simpa [PV.flat] using f) ht⟩
theorem Reps.trees:∀ {xs:List PV} {vs:List V},PV.flats xs=true→Reps K H S xs vs→Trees K H xs vs []
  | [],_,_,h=>⟨h,rfl⟩
  | x :: xs,_,f,h=>by
    obtain ⟨v,r,rfl,h3,h4⟩:=h
    simp only [PV.flats,Bool.and_eq_true] at f
    exact ⟨v,r,[],[],rfl,Rep.tree f.1 h3,Reps.trees f.2 h4,by simp,rfl⟩
end
theorem Rep.any (h:Rep K H S x v):Rep K H (fun _=>True) x v:=Rep.mono (fun a vs _ r=>⟨r,trivial⟩) (fun a vs r=>r) h
theorem Reps.any (h:Reps K H S xs vs):Reps K H (fun _=>True) xs vs:=Reps.mono (fun a vs _ r=>⟨r,trivial⟩) (fun a vs r=>r) h
theorem Rep.flatS {x:PV} {v:V} (f:x.flat=true) (h:Rep K H S x v):Rep K H S' x v:=Tree.rep (F:=[]) (by simp) (Rep.tree f h)
theorem Reps.length:∀ {xs:List PV} {vs:List V},Reps K H S xs vs→vs.length=xs.length
  | [],_,h=>by rw [h]; rfl
  | x :: xs,_,h=>by
    obtain ⟨v,r,rfl,h3,h4⟩:=h
    simp [Reps.length h4]
theorem Trees.length {xs:List PV} {vs:List V} {F:List Addr} (h:Trees K H xs vs F):vs.length=xs.length:=(Trees.reps (S:=fun _=>True) (fun _ _=>trivial) h).length
theorem Reps.get:∀ {xs:List PV} {vs:List V} {i:Nat} {x:PV},Reps K H S xs vs→xs[i]?=some x→∃ v,vs[i]?=some v∧Rep K H S x v
  | [],_,_,_,_,e=>by simp at e
  | y :: xs,_,0,x,h,e=>by
    obtain ⟨v,r,rfl,h3,h4⟩:=h
    simp at e; subst e
    exact ⟨v,rfl,h3⟩
  | y :: xs,_,i + 1,x,h,e=>by
    obtain ⟨v,r,rfl,h3,h4⟩:=h
    obtain ⟨w,e1,e2⟩:=Reps.get (i:=i) h4 (by simpa using e)
    exact ⟨w,by simpa using e1,e2⟩
theorem Reps.append:∀ {xs ys:List PV} {vs ws:List V},Reps K H S xs vs→Reps K H S ys ws→Reps K H S (xs ++ ys) (vs ++ ws)
  | [],_,_,_,h,h'=>by rw [h]; exact h'
  | x :: xs,_,_,_,h,h'=>by
    obtain ⟨v,r,rfl,h3,h4⟩:=h
    exact ⟨v,r ++ _,rfl,h3,Reps.append h4 h'⟩
theorem Reps.one {x:PV} {v:V} (h:Rep K H S x v):Reps K H S [x] [v]:=⟨v,[],rfl,h,rfl⟩
theorem Reps.take:∀ {xs:List PV} {vs:List V} (n:Nat),Reps K H S xs vs→Reps K H S (xs.take n) (vs.take n)
  | _,_,0,_=>by simp [Reps]
  | [],_,n + 1,h=>by rw [h]; rfl
  | y :: xs,_,n + 1,h=>by
    obtain ⟨w,r,rfl,h3,h4⟩:=h
    exact ⟨w,r.take n,rfl,h3,Reps.take n h4⟩
theorem Reps.drop:∀ {xs:List PV} {vs:List V} (n:Nat),Reps K H S xs vs→Reps K H S (xs.drop n) (vs.drop n)
  | _,_,0,h=>h
  | [],_,n + 1,h=>by rw [h]; rfl
  | y :: xs,_,n + 1,h=>by
    obtain ⟨w,r,rfl,h3,h4⟩:=h
    exact Reps.drop n h4
theorem Trees.append:∀ {xs ys:List PV} {vs ws:List V} {F G:List Addr},Trees K H xs vs F→Trees K H ys ws G→(∀ a∈F,a ∉ G)→Trees K H (xs ++ ys) (vs ++ ws) (F ++ G)
  | [],_,_,_,_,_,h,h',_=>by rw [h.1,h.2]; exact h'
  | x :: xs,_,_,_,_,_,h,h',hd=>by
    obtain ⟨v,r,G1,G2,rfl,h3,h4,hd',rfl⟩:=h
    refine ⟨v,r ++ _,G1,G2 ++ _,rfl,h3,Trees.append h4 h' (fun a ha=>hd a (by simp [ha])),fun a ha z=>?_,by simp⟩
    rcases List.mem_append.mp z with z | z
    · exact hd' a ha z
    · exact hd a (by simp [ha]) z
theorem Trees.one {x:PV} {v:V} {F:List Addr} (h:Tree K H x v F):Trees K H [x] [v] F:=⟨v,[],F,[],rfl,h,⟨rfl,rfl⟩,by simp,by simp⟩
theorem PV.flats_all:∀ {xs:List PV},PV.flats xs=true ↔ ∀ x∈xs,x.flat=true
  | []=>by simp [PV.flats]
  | x :: xs=>by simp [PV.flats,PV.flats_all (xs:=xs)]
theorem PV.flats_ints (ns:List Int):PV.flats (ns.map PV.int)=true:=PV.flats_all.mpr (by simp [PV.flat])
theorem Rd.same (e:Same H H') (h:Rd H a u):Rd H' a u:=by
  rcases h with h | ⟨o,h⟩
  · exact .inl (e _ _ h)
  · exact .inr ⟨o,e _ _ h⟩
theorem Same.im (e:Same H H') {k:HO} (h:Im K H a k):Im K H' a k:=⟨e _ _ h.1,h.2⟩
theorem Im.sqT {vs:List V} (h:Im K H a (.tup vs)):SqT K H a vs:=.inl (.inl h.1)
theorem Rep.same (e:Same H H') (h:Rep K H S x v):Rep K H' S x v:=Rep.mono (fun a vs s r=>⟨r.same e,s⟩) (fun a vs r=>e.im r) h
theorem Tree.same (e:Same H H') (h:Tree K H x v F):Tree K H' x v F:=Tree.mono (fun a _ o q=>e a o q) (fun a vs r=>e.im r) h
theorem Trees.same (e:Same H H') (h:Trees K H xs vs F):Trees K H' xs vs F:=Trees.mono (fun a _ o q=>e a o q) (fun a vs r=>e.im r) h
theorem Im.putL {p:Addr} {us:LvO} {o:HO} {k:HO} (hp:H p=some us.1) (h:Im K H a k):Im K (upd H p o) a k :=
  ⟨by rw [upd_ne (ne_of h.1 hp (lv_ne_im us.2 h.2))]; exact h.1,h.2⟩
theorem Trees.putL {p:Addr} {us:LvO} {o:HO} (hp:H p=some us.1) (hS:p ∉ F) (h:Trees K H xs vs F):Trees K (upd H p o) xs vs F :=
  Trees.mono (fun a ha o q=>by
    have hne:a≠p:=fun z=>hS (z ▸ ha)
    rw [upd_ne hne]; exact q) (fun a vs r=>Im.putL hp r) h
theorem Trees.put {p:Addr} {us:List V} {o:HO} (hp:H p=some (.lst us)) (hS:p ∉ F) (h:Trees K H xs vs F):Trees K (upd H p o) xs vs F:=Trees.putL (us:=⟨.lst us,trivial⟩) hp hS h
end
end L2
namespace L2
open PySem PySem.Spec PyProof.Rows
inductive Md | U | P | S | T | O
  deriving DecidableEq
noncomputable def NO (B:Addr→Prop) (F:Nat→List Addr) (R:List Addr) (a:Addr):Prop:=B a∧a ∉ R∧∀ i,a ∉ F i
noncomputable def SlotOk (K:PySem.W.Frag) (H:Hp) (S:Addr→Prop) (m:Md) (x:PV) (o:Option (Option V)) (G:List Addr):Prop:=match m with
  | .U=>G=[]
  | .P=>G=[]∧∃ v,o=some (some v)∧x.flat=true∧Rep K H (fun _=>True) x v
  | .S=>G=[]∧∃ v,o=some (some v)∧Rep K H S x v
  | .T=>∃ a vs xs,o=some (some (.ref a))∧x=.lst xs∧H a=some (.lst vs)∧Reps K H S xs vs∧G=[a]
  | .O=>∃ v,o=some (some v)∧Tree K H x v G
structure Ag (K:PySem.W.Frag) (B:Addr→Prop) (H0 H:Hp) (σ:St) (Γ:List Md) (ρ:List PV) (F:Nat→List Addr) (R:List Addr):Prop where
  same:Same H0 H
  own:∀ a,H0 a=none→B a
  young:∀ i,∀ a∈F i,H0 a=none
  youngR:∀ a∈R,H0 a=none
  live:∀ i,∀ a∈F i,∃ vs:LvO,H a=some vs.1
  liveR:∀ a∈R,∃ vs:LvO,H a=some vs.1
  disj:∀ i j,i≠j→∀ a∈F i,a ∉ F j
  disjR:∀ i,∀ a∈F i,a ∉ R
  lenS:σ.length=Γ.length
  lenR:ρ.length=Γ.length
  slot:∀ i,SlotOk K H (NO B F R) (Γ.getD i .U) (ρ.getD i .non) σ[i]? (F i)
theorem SlotOk.mono {K:PySem.W.Frag} {H H':Hp} {S S':Addr→Prop} {m:Md} {x:PV} {o:Option (Option V)} {G:List Addr} (h:SlotOk K H S m x o G) (h1:∀ a u,S a→Rd H a u→Rd H' a u∧S' a)
    (h2:∀ a u,Im K H a u→Im K H' a u) (h3:∀ a∈G,∀ u,H a=some u→H' a=some u):SlotOk K H' S' m x o G:=by
  cases m with
  | U=>exact h
  | P =>
    obtain ⟨e,v,h4,h5,h6⟩:=h
    exact ⟨e,v,h4,h5,Tree.rep (F:=[]) (by simp) (Tree.mono (by simp) h2 (Rep.tree h5 h6))⟩
  | S =>
    obtain ⟨e,v,h4,h5⟩:=h
    exact ⟨e,v,h4,Rep.mono h1 h2 h5⟩
  | T =>
    obtain ⟨a,vs,xs,h4,h5,h6,h7,rfl⟩:=h
    exact ⟨a,vs,xs,h4,h5,h3 a (by simp) _ h6,Reps.mono h1 h2 h7,rfl⟩
  | O =>
    obtain ⟨v,h4,h5⟩:=h
    exact ⟨v,h4,Tree.mono (fun a ha o q=>h3 a ha o q) h2 h5⟩
section
variable {K:PySem.W.Frag} {B:Addr→Prop} {H0 H H':Hp} {σ:St} {Γ:List Md} {ρ:List PV} {F:Nat→List Addr} {R R':List Addr}
theorem Ag.grow (A:Ag K B H0 H σ Γ ρ F R) (e:Same H H'):Ag K B H0 H' σ Γ ρ F R :=
  ⟨A.same.trans e,A.own,A.young,A.youngR,fun i a ha=>let ⟨vs,q⟩:=A.live i a ha; ⟨vs,e _ _ q⟩,fun a ha=>let ⟨vs,q⟩:=A.liveR a ha; ⟨vs,e _ _ q⟩,A.disj,A.disjR,A.lenS,A.lenR,
    fun i=>(A.slot i).mono (fun a vs s r=>⟨r.same e,s⟩) (fun a vs r=>e.im r) fun a ha vs q=>e _ _ q⟩
theorem Ag.less (A:Ag K B H0 H σ Γ ρ F R) (h:∀ a∈R',a∈R):Ag K B H0 H σ Γ ρ F R' :=
  ⟨A.same,A.own,A.young,fun a ha=>A.youngR a (h a ha),A.live,fun a ha=>A.liveR a (h a ha),A.disj,fun i a ha z=>A.disjR i a ha (h a z),A.lenS,A.lenR,
    fun i=>(A.slot i).mono (fun a vs s r=>⟨r,s.1,fun z=>s.2.1 (h a z),s.2.2⟩) (fun a vs r=>r) fun a ha vs q=>q⟩
theorem Ag.more {G:List Addr} (A:Ag K B H0 H σ Γ ρ F R) (e:Same H H') (hf:∀ a∈G,H a=none) (hl:∀ a∈G,∃ vs:LvO,H' a=some vs.1):Ag K B H0 H' σ Γ ρ F (G ++ R):=by
  refine ⟨A.same.trans e,A.own,A.young,fun a ha=>?_,fun i a ha=>let ⟨vs,q⟩:=A.live i a ha; ⟨vs,e _ _ q⟩,fun a ha=>?_,A.disj,fun i a ha z=>?_,A.lenS,A.lenR,fun i=>?_⟩
  · rcases List.mem_append.mp ha with z | z
    · exact A.same.free (hf a z)
    · exact A.youngR a z
  · rcases List.mem_append.mp ha with z | z
    · exact hl a z
    · obtain ⟨vs,q⟩:=A.liveR a z
      exact ⟨vs,e _ _ q⟩
  · rcases List.mem_append.mp z with z | z
    · obtain ⟨vs,q⟩:=A.live i a ha
      rw [hf a z] at q; cases q
    · exact A.disjR i a ha z
  · refine (A.slot i).mono (fun a vs s r=>⟨r.same e,s.1,fun z=>?_,s.2.2⟩) (fun a vs r=>e.im r) fun a ha vs q=>e _ _ q
    rcases List.mem_append.mp z with z | z
    · have:=hf a z
      rcases r with r | ⟨o,r⟩ <;> (rw [this] at r; cases r)
    · exact s.2.1 z
theorem Ag.fresh (A:Ag K B H0 H σ Γ ρ F R) {p:Addr} (hp:H p=none):p ∉ R∧(∀ i,p ∉ F i)∧H0 p=none∧B p:=by
  refine ⟨fun z=>?_,fun i z=>?_,A.same.free hp,A.own p (A.same.free hp)⟩
  · obtain ⟨vs,q⟩:=A.liveR p z
    rw [hp] at q; cases q
  · obtain ⟨vs,q⟩:=A.live i p z
    rw [hp] at q; cases q
theorem Ag.new {p:Addr} {xs:List V} (A:Ag K B H0 H σ Γ ρ F R) (hp:H p=none):Ag K B H0 (upd H p (.lst xs)) σ Γ ρ F (p :: R) :=
  A.more (G:=[p]) (Same.new hp) (fun a ha=>by rw [List.mem_singleton.mp ha]; exact hp) fun a ha=>⟨⟨.lst xs,trivial⟩,by rw [List.mem_singleton.mp ha,upd_same]⟩
theorem Ag.newB {p:Addr} {u:HO} (hu:Lvo u) (A:Ag K B H0 H σ Γ ρ F R) (hp:H p=none):Ag K B H0 (upd H p u) σ Γ ρ F (p :: R) :=
  A.more (G:=[p]) (Same.new hp) (fun a ha=>by rw [List.mem_singleton.mp ha]; exact hp) fun a ha=>⟨⟨u,hu⟩,by rw [List.mem_singleton.mp ha,upd_same]⟩
theorem Ag.getO {i:Nat} (A:Ag K B H0 H σ Γ ρ F R) (h:Γ[i]?=some .O):∃ v,σ[i]?=some (some v)∧Tree K H (ρ.getD i .non) v (F i):=by
  have:=A.slot i
  rw [List.getD_eq_getElem?_getD,h] at this
  exact this
theorem Ag.getT {i:Nat} (A:Ag K B H0 H σ Γ ρ F R) (h:Γ[i]?=some .T):∃ a vs xs,σ[i]?=some (some (.ref a))∧ρ.getD i .non=.lst xs∧H a=some (.lst vs)∧Reps K H (NO B F R) xs vs∧F i=[a]:=by
  have:=A.slot i
  rw [List.getD_eq_getElem?_getD (l:=Γ),h] at this
  exact this
theorem Ag.getS {i:Nat} (A:Ag K B H0 H σ Γ ρ F R) (h:Γ[i]?=some .S):∃ v,σ[i]?=some (some v)∧Rep K H (NO B F R) (ρ.getD i .non) v:=by
  have:=A.slot i
  rw [List.getD_eq_getElem?_getD (l:=Γ),h] at this
  exact this.2
theorem Ag.getP {i:Nat} (A:Ag K B H0 H σ Γ ρ F R) (h:Γ[i]?=some .P):∃ v,σ[i]?=some (some v)∧(ρ.getD i .non).flat=true∧Rep K H (fun _=>True) (ρ.getD i .non) v:=by
  have:=A.slot i
  rw [List.getD_eq_getElem?_getD (l:=Γ),h] at this
  exact this.2
theorem Ag.getA {i:Nat} {m:Md} (A:Ag K B H0 H σ Γ ρ F R) (h:Γ[i]?=some m) (hm:m≠.U):∃ v,σ[i]?=some (some v)∧Rep K H (fun _=>True) (ρ.getD i .non) v:=by
  cases m with
  | U=>exact absurd rfl hm
  | P=>obtain ⟨v,h1,h2,h3⟩:=A.getP h; exact ⟨v,h1,h3⟩
  | S=>obtain ⟨v,h1,h2⟩:=A.getS h; exact ⟨v,h1,h2.any⟩
  | T =>
    obtain ⟨a,vs,xs,h1,h2,h3,h4,h5⟩:=A.getT h
    exact ⟨_,h1,by rw [h2]; exact ⟨a,vs,rfl,.inl ⟨.inl h3,trivial⟩,h4.any⟩⟩
  | O=>obtain ⟨v,h1,h2⟩:=A.getO h; exact ⟨v,h1,h2.rep (fun _ _=>trivial)⟩
theorem Ag.lt {i:Nat} {m:Md} (A:Ag K B H0 H σ Γ ρ F R) (h:Γ[i]?=some m):i < Γ.length:=(List.getElem?_eq_some_iff.mp h).1
noncomputable def own1 (F:Nat→List Addr) (i:Nat) (G:List Addr):Nat→List Addr:=fun j=>if j=i then G else F j
theorem own1_same {i:Nat} {G:List Addr}:own1 F i G i=G:=if_pos rfl
theorem own1_ne {i j:Nat} {G:List Addr} (h:j≠i):own1 F i G j=F j:=if_neg h
theorem Ag.put {i:Nat} {m:Md} {x:PV} {v:V} {G:List Addr} (A:Ag K B H0 H σ Γ ρ F (G ++ R)) (hi:i < Γ.length) (hG:∀ a∈G,a ∉ R) (hs:SlotOk K H (NO B (own1 F i G) R) m x (some (some v)) G) :
    Ag K B H0 H (σ.set i (some v)) (Γ.set i m) (ρ.set i x) (own1 F i G) R:=by
  refine ⟨A.same,A.own,fun j a ha=>?_,fun a ha=>A.youngR a (List.mem_append_right _ ha),fun j a ha=>?_,fun a ha=>A.liveR a (List.mem_append_right _ ha),fun j k hjk a ha z=>?_,fun j a ha z=>?_,by simp [A.lenS],by simp [A.lenR],fun j=>?_⟩
  · by_cases h:j=i
    · subst h; rw [own1_same] at ha; exact A.youngR a (List.mem_append_left _ ha)
    · rw [own1_ne h] at ha; exact A.young j a ha
  · by_cases h:j=i
    · subst h; rw [own1_same] at ha; exact A.liveR a (List.mem_append_left _ ha)
    · rw [own1_ne h] at ha; exact A.live j a ha
  · by_cases h:j=i
    · subst h
      rw [own1_same] at ha
      rw [own1_ne (Ne.symm hjk)] at z
      exact A.disjR k a z (List.mem_append_left _ ha)
    · rw [own1_ne h] at ha
      by_cases h':k=i
      · subst h'
        rw [own1_same] at z
        exact A.disjR j a ha (List.mem_append_left _ z)
      · rw [own1_ne h'] at z
        exact A.disj j k hjk a ha z
  · by_cases h:j=i
    · subst h; rw [own1_same] at ha; exact hG a ha z
    · rw [own1_ne h] at ha; exact A.disjR j a ha (List.mem_append_right _ z)
  · by_cases h:j=i
    · subst h
      rw [own1_same,List.getD_eq_getElem?_getD,List.getD_eq_getElem?_getD,List.getElem?_set_self hi,List.getElem?_set_self (by rw [A.lenR]; exact hi),List.getElem?_set_self (by rw [A.lenS]; exact hi)]
      exact hs
    · rw [own1_ne h,List.getD_eq_getElem?_getD,List.getD_eq_getElem?_getD,List.getElem?_set_ne (Ne.symm h),List.getElem?_set_ne (Ne.symm h),List.getElem?_set_ne (Ne.symm h),← List.getD_eq_getElem?_getD,← List.getD_eq_getElem?_getD]
      refine (A.slot j).mono (fun a vs s r=>⟨r,s.1,fun z=>s.2.1 (List.mem_append_right _ z),fun k z=>?_⟩) (fun a vs r=>r) fun a ha vs q=>q
      by_cases h':k=i
      · subst h'; rw [own1_same] at z; exact s.2.1 (List.mem_append_left _ z)
      · rw [own1_ne h'] at z; exact s.2.2 k z
theorem Ag.turn {i:Nat} {m m':Md} {G:List Addr} (A:Ag K B H0 H σ Γ ρ F R) (h:Γ[i]?=some m) (hG:∀ a∈G,a∈F i) (hs:SlotOk K H (NO B (own1 F i []) (G ++ R)) m' (ρ.getD i .non) σ[i]? []) :
    Ag K B H0 H σ (Γ.set i m') ρ (own1 F i []) (G ++ R):=by
  have hi:=A.lt h
  refine ⟨A.same,A.own,fun j a ha=>?_,fun a ha=>?_,fun j a ha=>?_,fun a ha=>?_,fun j k hjk a ha z=>?_,fun j a ha z=>?_,by simp [A.lenS],by simp [A.lenR],fun j=>?_⟩
  · by_cases h:j=i
    · subst h; rw [own1_same] at ha; simp at ha
    · rw [own1_ne h] at ha; exact A.young j a ha
  · rcases List.mem_append.mp ha with z | z
    · exact A.young i a (hG a z)
    · exact A.youngR a z
  · by_cases h:j=i
    · subst h; rw [own1_same] at ha; simp at ha
    · rw [own1_ne h] at ha; exact A.live j a ha
  · rcases List.mem_append.mp ha with z | z
    · exact A.live i a (hG a z)
    · exact A.liveR a z
  · by_cases h:j=i
    · subst h; rw [own1_same] at ha; simp at ha
    · by_cases h':k=i
      · subst h'; rw [own1_same] at z; simp at z
      · rw [own1_ne h] at ha; rw [own1_ne h'] at z; exact A.disj j k hjk a ha z
  · by_cases h:j=i
    · subst h; rw [own1_same] at ha; simp at ha
    · rw [own1_ne h] at ha
      rcases List.mem_append.mp z with z | z
      · exact A.disj j i h a ha (hG a z)
      · exact A.disjR j a ha z
  · by_cases h:j=i
    · subst h
      rw [own1_same,List.getD_eq_getElem?_getD (l:=Γ.set _ _),List.getElem?_set_self hi]
      exact hs
    · rw [own1_ne h,List.getD_eq_getElem?_getD (l:=Γ.set _ _),List.getElem?_set_ne (Ne.symm h),← List.getD_eq_getElem?_getD]
      refine (A.slot j).mono (fun a vs s r=>⟨r,s.1,fun z=>?_,fun k z=>?_⟩) (fun a vs r=>r) fun a ha vs q=>q
      · rcases List.mem_append.mp z with z | z
        · exact s.2.2 i (hG a z)
        · exact s.2.1 z
      · by_cases h':k=i
        · subst h'; rw [own1_same] at z; simp at z
        · rw [own1_ne h'] at z; exact s.2.2 k z
theorem Ag.noF (A:Ag K B H0 H σ Γ ρ F R) {i:Nat} {a:Addr} (ha:a∈F i):NO B (own1 F i []) R a:=⟨A.own a (A.young i a ha),A.disjR i a ha,fun j z=>by
  by_cases h:j=i
  · subst h; rw [own1_same] at z; simp at z
  · rw [own1_ne h] at z; exact A.disj j i h a z ha⟩
theorem Ag.freeze {i:Nat} {m:Md} (A:Ag K B H0 H σ Γ ρ F R) (h:Γ[i]?=some m) (hm:m≠.U):Ag K B H0 H σ (Γ.set i .S) ρ (own1 F i []) R:=by
  refine A.turn (G:=[]) h (by simp) ?_
  show SlotOk K H (NO B (own1 F i []) R) .S (ρ.getD i .non) σ[i]? []
  have up:∀ {a vs},NO B F R a→Rd H a vs→Rd H a vs∧NO B (own1 F i []) R a:=fun {a vs} s r=>⟨r,s.1,s.2.1,fun j z=>by
    by_cases h:j=i
    · subst h; rw [own1_same] at z; simp at z
    · rw [own1_ne h] at z; exact s.2.2 j z⟩
  cases m with
  | U=>exact absurd rfl hm
  | P=>obtain ⟨v,h1,h2,h3⟩:=A.getP h; exact ⟨rfl,v,h1,h3.flatS h2⟩
  | S=>obtain ⟨v,h1,h2⟩:=A.getS h; exact ⟨rfl,v,h1,Rep.mono (fun a vs s r=>up s r) (fun a vs r=>r) h2⟩
  | T =>
    obtain ⟨a,vs,xs,h1,h2,h3,h4,h5⟩:=A.getT h
    refine ⟨rfl,_,h1, ?_⟩
    rw [h2]
    exact ⟨a,vs,rfl,.inl ⟨.inl h3,A.noF (by rw [h5]; simp)⟩,Reps.mono (fun a vs s r=>up s r) (fun a vs r=>r) h4⟩
  | O =>
    obtain ⟨v,h1,h2⟩:=A.getO h
    exact ⟨rfl,v,h1,h2.rep fun a ha=>A.noF ha⟩
theorem Ag.move {i:Nat} (A:Ag K B H0 H σ Γ ρ F R) (h:Γ[i]?=some .O):Ag K B H0 H σ (Γ.set i .U) ρ (own1 F i []) (F i ++ R):=A.turn (G:=F i) h (fun a ha=>ha) rfl
end
end L2
namespace L2
open PySem PySem.Spec PyProof.Rows
noncomputable abbrev PX:=Str × PV
inductive Rr (α:Type) where
  | ok (a:α) | exc (e:PX) | bad
noncomputable def Rr.bind {α β:Type}:Rr α→(α→Rr β)→Rr β
  | .ok a,f=>f a
  | .exc e,_=>.exc e
  | .bad,_=>.bad
noncomputable def Dn {α:Type} (r:Rr α) (ok:α→Prop) (ex:PX→Prop):Prop:=match r with
  | .ok a=>ok a
  | .exc e=>ex e
  | .bad=>False
theorem Dn.bind {α β:Type} {r:Rr α} {f:α→Rr β} {ok:β→Prop} {ex:PX→Prop} (h:Dn (r.bind f) ok ex):Dn r (fun a=>Dn (f a) ok ex) ex:=by
  cases r with
  | ok a=>exact h
  | exc e=>exact h
  | bad=>exact h
theorem Dn.imp {α:Type} {r:Rr α} {ok ok':α→Prop} {ex ex':PX→Prop} (h:Dn r ok ex) (h1:∀ a,r=.ok a→ok a→ok' a) (h2:∀ e,ex e→ex' e):Dn r ok' ex':=by
  cases r with
  | ok a=>exact h1 a rfl h
  | exc e=>exact h2 e h
  | bad=>exact h
@[simp] theorem Rr.bind_ok {α β:Type} {a:α} {f:α→Rr β}:(Rr.ok a).bind f=f a:=rfl
@[simp] theorem Rr.bind_exc {α β:Type} {e:PX} {f:α→Rr β}:(Rr.exc e:Rr α).bind f=.exc e:=rfl
@[simp] theorem Rr.bind_bad {α β:Type} {f:α→Rr β}:(Rr.bad:Rr α).bind f=.bad:=rfl
inductive Kd | P | F | T | Z | A | N
noncomputable def Res (K:PySem.W.Frag) (B:Addr→Prop) (H0 H:Hp) (σ:St) (Γ':List Md) (ρ:List PV) (F:Nat→List Addr) (R:List Addr) (k:Kd) (x:PV) (v:V) (H':Hp):Prop :=
  ∃ F',(∀ i,∀ a∈F' i,a∈F i)∧match k with
  | .P=>x.flat=true∧Rep K H' (fun _=>True) x v∧Ag K B H0 H' σ Γ' ρ F' R
  | .F=>∃ G,Tree K H' x v G∧(∀ a∈G,a ∉ R∧(H a=none ∨ ∃ i,a∈F i))∧Ag K B H0 H' σ Γ' ρ F' (G ++ R)
  | .T=>∃ a vs xs,x=.lst xs∧v=.ref a∧H' a=some (.lst vs)∧Reps K H' (NO B F' (a :: R)) xs vs∧a ∉ R∧(H a=none ∨ ∃ i,a∈F i)∧Ag K B H0 H' σ Γ' ρ F' (a :: R)
  | .Z=>Rep K H' (NO B F' R) x v∧Ag K B H0 H' σ Γ' ρ F' R
  | .A=>Rep K H' (fun _=>True) x v∧Ag K B H0 H' σ Γ' ρ F' R
  | .N=>False
noncomputable def DE (K:PySem.W.Frag) (EX:PX→Hp→Prop) (Γ Γ':List Md) (k:Kd) (te:TE) (f:List PV→Rr PV):Prop :=
  ∀ (B:Addr→Prop) (H0 H:Hp) (σ:St) (ρ:List PV) (F:Nat→List Addr) (R:List Addr) (Q:VK),Ag K B H0 H σ Γ ρ F R →
    Dn (f ρ) (fun x=>∀ v H',Same H H'→Res K B H0 H σ Γ' ρ F R k x v H'→Q v H') (fun e=>∀ H',Same H0 H'→EX e H')→te σ H Q
noncomputable def DT (K:PySem.W.Frag) (EX:PX→Hp→Prop) (Γ Γ':List Md) (tt:TT) (f:List PV→Rr Bool):Prop :=
  ∀ (B:Addr→Prop) (H0 H:Hp) (σ:St) (ρ:List PV) (F:Nat→List Addr) (R:List Addr) (Q:Bool→Hp→Prop),Ag K B H0 H σ Γ ρ F R →
    Dn (f ρ) (fun b=>∀ H' F',Same H H'→(∀ i,∀ a∈F' i,a∈F i)→Ag K B H0 H' σ Γ' ρ F' R→Q b H') (fun e=>∀ H',Same H0 H'→EX e H')→tt σ H Q
section
variable {K:PySem.W.Frag} {B:Addr→Prop} {EX:PX→Hp→Prop} {H0 H H':Hp} {σ:St} {Γ Γ' Γ1 Γ2 Γ3:List Md} {ρ:List PV} {F F':Nat→List Addr} {R:List Addr} {k:Kd} {x:PV} {v:V} {te ta tb tc:TE} {f fa fb fc:List PV→Rr PV}
theorem Res.ag (h:Res K B H0 H σ Γ' ρ F R k x v H'):∃ F',(∀ i,∀ a∈F' i,a∈F i)∧Rep K H' (fun _=>True) x v∧Ag K B H0 H' σ Γ' ρ F' R:=by
  obtain ⟨F',hF,h⟩:=h
  refine ⟨F',hF, ?_⟩
  cases k with
  | P=>exact ⟨h.2.1,h.2.2⟩
  | F=>obtain ⟨G,h1,h2,h3⟩:=h; exact ⟨h1.rep fun _ _=>trivial,h3.less fun a ha=>List.mem_append_right _ ha⟩
  | T=>obtain ⟨a,vs,xs,rfl,rfl,h1,h2,h3,h4,h5⟩:=h; exact ⟨⟨a,vs,rfl,.inl ⟨.inl h1,trivial⟩,h2.any⟩,h5.less fun a ha=>List.mem_cons_of_mem _ ha⟩
  | Z=>exact ⟨h.1.any,h.2⟩
  | A=>exact h
  | N=>exact h.elim
theorem Res.toA (h:Res K B H0 H σ Γ' ρ F R k x v H'):Res K B H0 H σ Γ' ρ F R .A x v H':=let ⟨F',a,b,c⟩:=h.ag; ⟨F',a,b,c⟩
theorem Res.PF (h:Res K B H0 H σ Γ' ρ F R .P x v H'):Res K B H0 H σ Γ' ρ F R .F x v H':=by
  obtain ⟨F',hF,h1,h2,h3⟩:=h
  exact ⟨F',hF,[],h2.tree h1,by simp,h3⟩
theorem Res.FZ (h:Res K B H0 H σ Γ' ρ F R .F x v H'):Res K B H0 H σ Γ' ρ F R .Z x v H':=by
  obtain ⟨F',hF,G,h1,h2,h3⟩:=h
  exact ⟨F',hF,h1.rep fun a ha=>⟨h3.own a (h3.youngR a (List.mem_append_left _ ha)),(h2 a ha).1,fun i z=>h3.disjR i a z (List.mem_append_left _ ha)⟩,h3.less fun a ha=>List.mem_append_right _ ha⟩
theorem DE.imp {k':Kd} (h:DE K EX Γ Γ' k te f) (hr:∀ {B:Addr→Prop} {H0 H H':Hp} {σ:St} {ρ:List PV} {F:Nat→List Addr} {R:List Addr} {x:PV} {v:V},Res K B H0 H σ Γ' ρ F R k x v H'→Res K B H0 H σ Γ' ρ F R k' x v H'):DE K EX Γ Γ' k' te f :=
  fun B H0 H σ ρ F R Q A d=>h B H0 H σ ρ F R Q A (d.imp (fun x _ q v H' s r=>q v H' s (hr r)) fun e q=>q)
theorem DE.toA (h:DE K EX Γ Γ' k te f):DE K EX Γ Γ' .A te f:=h.imp Res.toA
theorem DE.PF (h:DE K EX Γ Γ' .P te f):DE K EX Γ Γ' .F te f:=h.imp Res.PF
theorem DE.FZ (h:DE K EX Γ Γ' .F te f):DE K EX Γ Γ' .Z te f:=h.imp Res.FZ
noncomputable def grd (x:PV):Rr PV:=if x.flat=true then .ok x else .bad
theorem DE.grd (h:DE K EX Γ Γ' .A te f):DE K EX Γ Γ' .P te (fun ρ=>(f ρ).bind grd):=fun B H0 H σ ρ F R Q A d=>by
  refine h B H0 H σ ρ F R Q A (d.bind.imp (fun x _ q v H' s r=>?_) fun e q=>q)
  unfold L2.grd at q
  by_cases hx:x.flat=true
  · rw [if_pos hx] at q
    obtain ⟨F',h1,h2,h3⟩:=r
    exact q v H' s ⟨F',h1,hx,h2,h3⟩
  · rw [if_neg hx] at q; exact q.elim
theorem de_c {v:V} (hf:x.flat=true) (hr:∀ H,Rep K H (fun _=>True) x v):DE K EX Γ Γ .P (tC v) (fun _=>.ok x):=fun B H0 H σ ρ F R Q A d =>
  d v H (Same.refl H) ⟨F,fun _ _ h=>h,hf,hr H,A⟩
theorem de_int {i:Int}:DE K EX Γ Γ .P (tC (.int i)) (fun _=>.ok (.int i)):=de_c rfl fun _=>rfl
theorem de_bl {b:Bool}:DE K EX Γ Γ .P (tC (.bl b)) (fun _=>.ok (.bl b)):=de_c rfl fun _=>rfl
theorem de_str {x:Str}:DE K EX Γ Γ .P (tC (.str x)) (fun _=>.ok (.str x)):=de_c rfl fun _=>rfl
noncomputable def gv (i:Nat) (ρ:List PV):PV:=ρ.getD i .non
theorem de_varA {i:Nat} {m:Md} (h:Γ[i]?=some m) (hm:m≠.U):DE K EX Γ Γ .A (tVar i) (fun ρ=>.ok (gv i ρ)):=fun B H0 H σ ρ F R Q A d=>by
  obtain ⟨v,h1,h2⟩:=A.getA h hm
  exact ⟨v,h1,d v H (Same.refl H) ⟨F,fun _ _ h=>h,h2,A⟩⟩
theorem de_varP {i:Nat} (h:Γ[i]?=some .P):DE K EX Γ Γ .P (tVar i) (fun ρ=>.ok (gv i ρ)):=fun B H0 H σ ρ F R Q A d=>by
  obtain ⟨v,h1,h2,h3⟩:=A.getP h
  exact ⟨v,h1,d v H (Same.refl H) ⟨F,fun _ _ h=>h,h2,h3,A⟩⟩
theorem own1_sub {i:Nat} {F:Nat→List Addr}:∀ j,∀ a∈own1 F i [] j,a∈F j:=fun j a ha=>by
  by_cases h:j=i
  · subst h; rw [own1_same] at ha; simp at ha
  · rw [own1_ne h] at ha; exact ha
theorem de_varM {i:Nat} (h:Γ[i]?=some .O):DE K EX Γ (Γ.set i .U) .F (tVar i) (fun ρ=>.ok (gv i ρ)):=fun B H0 H σ ρ F R Q A d=>by
  obtain ⟨v,h1,h2⟩:=A.getO h
  exact ⟨v,h1,d v H (Same.refl H) ⟨own1 F i [],own1_sub,F i,h2,fun a ha=>⟨A.disjR i a ha,.inr ⟨i,ha⟩⟩,A.move h⟩⟩
theorem de_varS {i:Nat} {m:Md} (h:Γ[i]?=some m) (hm:m≠.U):DE K EX Γ (Γ.set i .S) .Z (tVar i) (fun ρ=>.ok (gv i ρ)):=fun B H0 H σ ρ F R Q A d=>by
  have A':=A.freeze h hm
  obtain ⟨v,h1,h2⟩:=A'.getS (List.getElem?_set_self (A.lt h))
  exact ⟨v,h1,d v H (Same.refl H) ⟨own1 F i [],own1_sub,h2,A'⟩⟩
noncomputable def OpP (K:PySem.W.Frag) (r:R2) (o:PV→PV→Rr PV):Prop:=∀ {H:Hp} {x y:PV} {v w:V} {Q:VK},Rep K H (fun _=>True) x v→Rep K H (fun _=>True) y w →
  (∃ z,o x y=.ok z∧(z.flat=true→∀ u,Rep K H (fun _=>True) z u→Q u H))→r v w H Q
theorem Dn.bind2 {α β γ:Type} {r:Rr α} {q:Rr β} {f:α→β→Rr γ} {ok:γ→Prop} {ex:PX→Prop} (h:Dn (r.bind fun a=>q.bind fun b=>f a b) ok ex):Dn r (fun a=>Dn q (fun b=>Dn (f a b) ok ex) ex) ex :=
  h.bind.imp (fun a _ h=>h.bind) fun e h=>h
theorem two {Q:V→V→Hp→Prop} {ok:PV→PV→Prop} (ha:DE K EX Γ Γ1 .A ta fa) (hb:DE K EX Γ1 Γ2 .A tb fb) (A:Ag K B H0 H σ Γ ρ F R)
    (d:Dn (fa ρ) (fun x=>Dn (fb ρ) (fun y=>ok x y) (fun e=>∀ H',Same H0 H'→EX e H')) (fun e=>∀ H',Same H0 H'→EX e H'))
    (hq:∀ x y v w H' F',ok x y→Same H H'→(∀ i,∀ a∈F' i,a∈F i)→Rep K H' (fun _=>True) x v→Rep K H' (fun _=>True) y w→Ag K B H0 H' σ Γ2 ρ F' R→Q v w H') :
    ta σ H fun v H1=>tb σ H1 fun w H2=>Q v w H2:=by
  refine ha B H0 H σ ρ F R _ A (d.imp (fun x _ d v H1 s1 r1=>?_) fun e q=>q)
  obtain ⟨F1,f1,p1,A1⟩:=r1
  refine hb B H0 H1 σ ρ F1 R _ A1 (d.imp (fun y _ q w H2 s2 r2=>?_) fun e q=>q)
  obtain ⟨F2,f2,p2,A2⟩:=r2
  exact hq x y v w H2 F2 q (s1.trans s2) (fun i a h=>f1 i a (f2 i a h)) (p1.same s2) p2 A2
theorem de_op {r:R2} {o:PV→PV→Rr PV} (hr:OpP K r o) (ho:∀ x y z,o x y=.ok z→z.flat=true) (hx:∀ x y e,o x y≠.exc e) (ha:DE K EX Γ Γ1 .A ta fa) (hb:DE K EX Γ1 Γ2 .A tb fb) :
    DE K EX Γ Γ2 .P (tOp r ta tb) (fun ρ=>(fa ρ).bind fun x=>(fb ρ).bind fun y=>o x y):=fun B H0 H σ ρ F R Q A d=>by
  refine two ha hb A d.bind2 fun x y v w H' F' d s hF p1 p2 A'=>?_
  cases e:o x y with
  | ok z=>rw [e] at d; exact hr p1 p2 ⟨z,e,fun hf u hu=>d u H' s ⟨F',hF,hf,hu,A'⟩⟩
  | exc q=>exact absurd e (hx x y q)
  | bad=>rw [e] at d; exact d.elim
noncomputable def oI (C:Int→Int→Bool) (g:Int→Int→PV) (x y:PV):Rr PV:=match x,y with
  | .int i,.int j=>if C i j=true then .ok (g i j) else .bad
  | _,_=>.bad
theorem oI_int {C:Int→Int→Bool} {g:Int→Int→PV} {i j:Int} (h:C i j=true):oI C g (.int i) (.int j)=.ok (g i j):=if_pos h
theorem opPI {C:Int→Int→Bool} {D:Int→Int→Prop} {g:Int→Int→PV} {g':Int→Int→V} (hC:∀ i j,C i j=true→D i j) (hg:∀ H i j,Rep K H (fun _=>True) (g i j) (g' i j)) (hf:∀ i j,(g i j).flat=true):OpP K (rI D g') (oI C g):=by
  intro H x y v w Q rx ry ⟨z,e,q⟩
  cases x <;> cases y <;> first | (simp only [oI] at e; cases e; done) | skip
  rename_i i j
  simp only [oI] at e
  by_cases h:C i j=true
  · rw [if_pos h] at e; cases e
    cases rx; cases ry
    exact ⟨i,j,rfl,rfl,hC i j h,q (hf i j) _ (hg H i j)⟩
  · rw [if_neg h] at e; cases e
theorem opPI0 {g:Int→Int→PV} {g':Int→Int→V} (hg:∀ H i j,Rep K H (fun _=>True) (g i j) (g' i j)) (hf:∀ i j,(g i j).flat=true):OpP K (rI0 g') (oI (fun _ _=>true) g):=by
  intro H x y v w Q rx ry ⟨z,e,q⟩
  cases x <;> cases y <;> first | (simp only [oI] at e; cases e; done) | skip
  rename_i i j
  simp only [oI,if_true] at e
  cases e; cases rx; cases ry
  exact ⟨i,j,rfl,rfl,q (hf i j) _ (hg H i j)⟩
theorem oI_noexc {C:Int→Int→Bool} {g:Int→Int→PV} (x y:PV) (e:PX):oI C g x y≠.exc e:=by
  cases x <;> cases y <;> first | (intro h; simp only [oI] at h; cases h; done) | skip
  intro h
  simp only [oI] at h
  split at h <;> cases h
theorem oI_flat {C:Int→Int→Bool} {g:Int→Int→PV} (hf:∀ i j,(g i j).flat=true) (x y z:PV) (h:oI C g x y=.ok z):z.flat=true:=by
  cases x <;> cases y <;> first | (simp only [oI] at h; cases h; done) | skip
  simp only [oI] at h
  split at h
  · cases h; exact hf _ _
  · cases h
end
end L2
namespace L2
open PySem PySem.Spec PyProof.Rows
mutual
noncomputable def PV.noX:PV→Bool
  | .exc _=>false
  | .exa _ _=>false
  | .box _ _ _=>false
  | .lst xs=>PV.noXs xs
  | .tup xs=>PV.noXs xs
  | .non=>true
  | .bl _=>true
  | .int _=>true
  | .str _=>true
noncomputable def PV.noXs:List PV→Bool
  | []=>true
  | x :: xs=>x.noX && PV.noXs xs
end
theorem PV.noXs_ints:∀ (ns:List Int),PV.noXs (ns.map PV.int)=true
  | []=>rfl
  | n :: ns=>by simp [PV.noXs,PV.noX,PV.noXs_ints ns]
mutual
noncomputable def PV.dat:PV→PyData
  | .non=>.none
  | .bl b=>.bool b
  | .int i=>.int i
  | .str x=>.str x
  | .exc _=>.none
  | .exa _ _=>.none
  | .box _ _ _=>.none
  | .lst xs=>.list (PV.dats xs)
  | .tup xs=>.tuple (PV.dats xs)
noncomputable def PV.dats:List PV→List PyData
  | []=>[]
  | x :: xs=>x.dat :: PV.dats xs
end
section
variable {X:Cx} {pins:List (Addr × Obj)} {σ:St} {H:Hp} {s:Shared} {S:Addr→Prop}
theorem sq_of {K:PySem.W.Frag} {a:Addr} {vs:List V} (h:(Rd H a (.lst vs)∧S a) ∨ KL K a vs):SqL K H a vs:=by
  rcases h with h | h
  · exact .inl h.1
  · exact .inr h
mutual
theorem Rep.reads (I:Inv X pins σ H s):∀ {x:PV} {v:V} {u:Value},x.noX=true→Rep X.K H S x v→RelV v u→∃ as,Reads s.heap u x.dat as
  | .non,_,_,_,h,r=>by cases h; cases r; exact ⟨_,.none⟩
  | .bl _,_,_,_,h,r=>by cases h; cases r; exact ⟨_,.bool _⟩
  | .int _,_,_,_,h,r=>by cases h; obtain ⟨t,rfl⟩:=r; exact ⟨_,.int _ _⟩
  | .str _,_,_,_,h,r=>by cases h; obtain ⟨t,rfl⟩:=r; exact ⟨_,.str _ _⟩
  | .exc _,_,_,z,_,_=>by simp [PV.noX] at z
  | .exa _ _,_,_,z,_,_=>by simp [PV.noX] at z
  | .box _ _ _,_,_,z,_,_=>by simp [PV.noX] at z
  | .lst xs,_,_,z,h,r=>by
    obtain ⟨a,vs,rfl,hn,hr⟩:=h
    cases r
    obtain ⟨its,rv,pl,_⟩:=I.list (sq_of hn)
    obtain ⟨as,ra⟩:=Reps.reads I (by simpa [PV.noX] using z) hr rv
    obtain ⟨o,ho,hc,n,hd⟩:=pl.isList
    exact ⟨_,.list ho hc hd (by simpa using ra)⟩
  | .tup xs,_,_,z,h,r=>by
    obtain ⟨a,vs,rfl,hn,hr⟩:=h
    cases r
    obtain ⟨its,rv,⟨o,ho,hc,n,hd⟩,_⟩:=I.tuple hn.sqT
    obtain ⟨as,ra⟩:=Reps.reads I (by simpa [PV.noX] using z) hr rv
    exact ⟨_,.tuple ho hc hd (by simpa using ra)⟩
theorem Reps.reads (I:Inv X pins σ H s):∀ {xs:List PV} {vs:List V} {us:List Value},PV.noXs xs=true→Reps X.K H S xs vs→Vals vs us→∃ as,ReadsAll s.heap us (PV.dats xs) as
  | [],_,_,_,h,r=>by rw [h] at r; cases r; exact ⟨_,.nil⟩
  | x :: xs,_,_,z,h,r=>by
    simp only [PV.noXs,Bool.and_eq_true] at z
    obtain ⟨v,vs,rfl,h1,h2⟩:=h
    cases r with
    | cons r1 r2 =>
      obtain ⟨as,a1⟩:=Rep.reads I z.1 h1 r1
      obtain ⟨bs,b1⟩:=Reps.reads I z.2 h2 r2
      exact ⟨_,.cons a1 b1⟩
end
noncomputable def okD (x:PV):Bool:=x.noX && x.dat.canLay0 && decide (x.dat.depth≤64)
noncomputable def rEqD (K:PySem.W.Frag) (g:Bool→Bool):R2:=fun x y H Q=>∃ p q,Rep K H (fun _=>True) p x∧Rep K H (fun _=>True) q y∧okD p=true∧okD q=true∧Q (.bl (g (PyData.eqv p.dat q.dat))) H
theorem op_eqD {K:PySem.W.Frag} (hu:X.A.units + 64 < cLine) (e:X.K=K:=by rfl):OpR X (compareOp .Eq) (rEqD K id):=by
  subst e
  intro pins s σ H x y v u Q I rx ry h
  obtain ⟨p,q,h1,h2,h3,h4,hq⟩:=h
  simp only [okD,Bool.and_eq_true,decide_eq_true_eq] at h3 h4
  obtain ⟨as,ra⟩:=h1.reads I h3.1.1 rx
  obtain ⟨bs,rb⟩:=h2.reads I h4.1.1 ry
  exact SeqAt.rcAt_reads ra rb h3.1.2 h4.1.2 (by have:=Nat.min_le_left p.dat.depth q.dat.depth; omega) _ _ _ _ ⟨.bl (PyData.eqv p.dat q.dat),H,I,rfl,hq⟩
theorem op_neD {K:PySem.W.Frag} (hu:X.A.units + 64 < cLine) (e:X.K=K:=by rfl):OpR X (compareOp .NotEq) (rEqD K (!·)):=by
  subst e
  intro pins s σ H x y v u Q I rx ry h
  obtain ⟨p,q,h1,h2,h3,h4,hq⟩:=h
  simp only [okD,Bool.and_eq_true,decide_eq_true_eq] at h3 h4
  obtain ⟨as,ra⟩:=h1.reads I h3.1.1 rx
  obtain ⟨bs,rb⟩:=h2.reads I h4.1.1 ry
  exact SeqAt.rcNeAt_reads ra rb h3.1.2 h4.1.2 (by have:=Nat.min_le_left p.dat.depth q.dat.depth; omega) _ _ _ _ ⟨.bl (!PyData.eqv p.dat q.dat),H,I,rfl,hq⟩
end
noncomputable def pEqG (g:Bool→Bool) (x y:PV):Rr PV:=if (okD x && okD y)=true then .ok (.bl (g (PyData.eqv x.dat y.dat))) else .bad
noncomputable def CMulB (i j:Int):Prop:=i.natAbs < 2 ^ 60000∧j.natAbs < 2 ^ 60000
noncomputable def CDivB (i j:Int):Prop:=0 < j∧j.natAbs < 2 ^ 9000
noncomputable instance (i j:Int):Decidable (CMulB i j):=by unfold CMulB; infer_instance
noncomputable instance (i j:Int):Decidable (CDivB i j):=by unfold CDivB; infer_instance
noncomputable instance (i j:Int):Decidable (CPow i j):=by unfold CPow; infer_instance
theorem bits_le {i:Int} {n:Nat} (h:i.natAbs < 2 ^ n):Builtin.Int.intBits i≤n:=by
  unfold Builtin.Int.intBits
  split
  · exact Nat.zero_le _
  · rename_i h0
    have:i.natAbs≠0:=by simpa using h0
    exact Nat.succ_le_of_lt ((Nat.log2_lt this).mpr h)
section
variable {X:Cx}
theorem op_mulB:OpR X (binaryOp .Mult) (rI CMulB fun i j=>.int (i * j)):=opI fun _ _ _ _ _ _ _ hc q=>mul_int q (PyProof.Rows.mulOk_of_bits (bits_le hc.1) (bits_le hc.2) (by decide))
theorem op_fdivB:OpR X (binaryOp .FloorDiv) (rI CDivB fun i j=>.int (i / j)):=opI fun i j _ _ _ _ _ hc q=>by
  refine floordiv_int (by have:=hc.1; omega) ?_ (.inl (PyProof.noPylong_of_log2 ?_))
  · rw [Int.fdiv_eq_ediv_of_nonneg _ (by have:=hc.1; omega)]; exact q
  · have h0:j.natAbs≠0:=by have:=hc.1; omega
    exact (Nat.log2_lt h0).mpr hc.2
end
section
variable {K:PySem.W.Frag} {B:Addr→Prop} {EX:PX→Hp→Prop} {H0 H H':Hp} {σ:St} {Γ Γ' Γ1 Γ2 Γ3:List Md} {ρ:List PV} {F F':Nat→List Addr} {R:List Addr} {k:Kd} {x:PV} {v:V} {te ta tb tc:TE} {f fa fb fc:List PV→Rr PV}
noncomputable abbrev pAdd:PV→PV→Rr PV:=oI (fun _ _=>true) fun i j=>.int (i + j)
noncomputable abbrev pSub:PV→PV→Rr PV:=oI (fun _ _=>true) fun i j=>.int (i - j)
noncomputable abbrev pMul:PV→PV→Rr PV:=oI (fun i j=>decide (CMulB i j)) fun i j=>.int (i * j)
noncomputable abbrev pDiv:PV→PV→Rr PV:=oI (fun i j=>decide (CDivB i j)) fun i j=>.int (i / j)
noncomputable abbrev pMod:PV→PV→Rr PV:=oI (fun _ j=>decide (0 < j)) fun i j=>.int (i % j)
noncomputable abbrev pPow:PV→PV→Rr PV:=oI (fun i j=>decide (CPow i j)) fun i j=>.int (i ^ j.toNat)
noncomputable abbrev pLt:PV→PV→Rr PV:=oI (fun _ _=>true) fun i j=>.bl (decide (i < j))
noncomputable abbrev pGt:PV→PV→Rr PV:=oI (fun _ _=>true) fun i j=>.bl (decide (j < i))
noncomputable abbrev pGe:PV→PV→Rr PV:=oI (fun _ _=>true) fun i j=>.bl (decide (j≤i))
theorem de_oI {D:Int→Int→Prop} {C:Int→Int→Bool} {g:Int→Int→PV} {g':Int→Int→V} (hC:∀ i j,C i j=true→D i j) (hg:∀ H i j,Rep K H (fun _=>True) (g i j) (g' i j)) (hf:∀ i j,(g i j).flat=true)
    (ha:DE K EX Γ Γ1 .A ta fa) (hb:DE K EX Γ1 Γ2 .A tb fb):DE K EX Γ Γ2 .P (tOp (rI D g') ta tb) (fun ρ=>(fa ρ).bind fun x=>(fb ρ).bind fun y=>oI C g x y) :=
  de_op (opPI hC hg hf) (oI_flat hf) oI_noexc ha hb
theorem de_oI0 {g:Int→Int→PV} {g':Int→Int→V} (hg:∀ H i j,Rep K H (fun _=>True) (g i j) (g' i j)) (hf:∀ i j,(g i j).flat=true)
    (ha:DE K EX Γ Γ1 .A ta fa) (hb:DE K EX Γ1 Γ2 .A tb fb):DE K EX Γ Γ2 .P (tOp (rI0 g') ta tb) (fun ρ=>(fa ρ).bind fun x=>(fb ρ).bind fun y=>oI (fun _ _=>true) g x y) :=
  de_op (opPI0 hg hf) (oI_flat hf) oI_noexc ha hb
theorem de_add (ha:DE K EX Γ Γ1 .A ta fa) (hb:DE K EX Γ1 Γ2 .A tb fb):DE K EX Γ Γ2 .P (tOp (rI0 fun i j=>.int (i + j)) ta tb) (fun ρ=>(fa ρ).bind fun x=>(fb ρ).bind fun y=>pAdd x y):=de_oI0 (fun _ _ _=>rfl) (fun _ _=>rfl) ha hb
theorem de_sub (ha:DE K EX Γ Γ1 .A ta fa) (hb:DE K EX Γ1 Γ2 .A tb fb):DE K EX Γ Γ2 .P (tOp (rI0 fun i j=>.int (i - j)) ta tb) (fun ρ=>(fa ρ).bind fun x=>(fb ρ).bind fun y=>pSub x y):=de_oI0 (fun _ _ _=>rfl) (fun _ _=>rfl) ha hb
theorem de_lt (ha:DE K EX Γ Γ1 .A ta fa) (hb:DE K EX Γ1 Γ2 .A tb fb):DE K EX Γ Γ2 .P (tOp (rI0 fun i j=>.bl (decide (i < j))) ta tb) (fun ρ=>(fa ρ).bind fun x=>(fb ρ).bind fun y=>pLt x y):=de_oI0 (fun _ _ _=>rfl) (fun _ _=>rfl) ha hb
theorem de_gt (ha:DE K EX Γ Γ1 .A ta fa) (hb:DE K EX Γ1 Γ2 .A tb fb):DE K EX Γ Γ2 .P (tOp (rI0 fun i j=>.bl (decide (j < i))) ta tb) (fun ρ=>(fa ρ).bind fun x=>(fb ρ).bind fun y=>pGt x y):=de_oI0 (fun _ _ _=>rfl) (fun _ _=>rfl) ha hb
theorem de_ge (ha:DE K EX Γ Γ1 .A ta fa) (hb:DE K EX Γ1 Γ2 .A tb fb):DE K EX Γ Γ2 .P (tOp (rI0 fun i j=>.bl (decide (j≤i))) ta tb) (fun ρ=>(fa ρ).bind fun x=>(fb ρ).bind fun y=>pGe x y):=de_oI0 (fun _ _ _=>rfl) (fun _ _=>rfl) ha hb
theorem de_mul (ha:DE K EX Γ Γ1 .A ta fa) (hb:DE K EX Γ1 Γ2 .A tb fb):DE K EX Γ Γ2 .P (tOp (rI CMulB fun i j=>.int (i * j)) ta tb) (fun ρ=>(fa ρ).bind fun x=>(fb ρ).bind fun y=>pMul x y):=de_oI (fun _ _ h=>of_decide_eq_true h) (fun _ _ _=>rfl) (fun _ _=>rfl) ha hb
theorem de_div (ha:DE K EX Γ Γ1 .A ta fa) (hb:DE K EX Γ1 Γ2 .A tb fb):DE K EX Γ Γ2 .P (tOp (rI CDivB fun i j=>.int (i / j)) ta tb) (fun ρ=>(fa ρ).bind fun x=>(fb ρ).bind fun y=>pDiv x y):=de_oI (fun _ _ h=>of_decide_eq_true h) (fun _ _ _=>rfl) (fun _ _=>rfl) ha hb
theorem de_mod (ha:DE K EX Γ Γ1 .A ta fa) (hb:DE K EX Γ1 Γ2 .A tb fb):DE K EX Γ Γ2 .P (tOp (rI (fun _ j=>0 < j) fun i j=>.int (i % j)) ta tb) (fun ρ=>(fa ρ).bind fun x=>(fb ρ).bind fun y=>pMod x y):=de_oI (fun _ _ h=>of_decide_eq_true h) (fun _ _ _=>rfl) (fun _ _=>rfl) ha hb
theorem de_pow (ha:DE K EX Γ Γ1 .A ta fa) (hb:DE K EX Γ1 Γ2 .A tb fb):DE K EX Γ Γ2 .P (tOp (rI CPow fun i j=>.int (i ^ j.toNat)) ta tb) (fun ρ=>(fa ρ).bind fun x=>(fb ρ).bind fun y=>pPow x y):=de_oI (fun _ _ h=>of_decide_eq_true h) (fun _ _ _=>rfl) (fun _ _=>rfl) ha hb
theorem pEqG_noexc {g:Bool→Bool} (x y:PV) (e:PX):pEqG g x y≠.exc e:=by
  unfold pEqG
  intro h
  split at h <;> cases h
theorem pEqG_flat {g:Bool→Bool} (x y z:PV) (h:pEqG g x y=.ok z):z.flat=true:=by
  unfold pEqG at h
  split at h
  · cases h; rfl
  · cases h
theorem de_eqG {g:Bool→Bool} (ha:DE K EX Γ Γ1 .A ta fa) (hb:DE K EX Γ1 Γ2 .A tb fb):DE K EX Γ Γ2 .P (tOp (rEqD K g) ta tb) (fun ρ=>(fa ρ).bind fun x=>(fb ρ).bind fun y=>pEqG g x y):=by
  refine de_op (fun {H x y v w Q} rx ry ⟨z,e,q⟩=>?_) pEqG_flat pEqG_noexc ha hb
  unfold pEqG at e
  by_cases h:(okD x && okD y)=true
  · rw [if_pos h] at e; cases e
    rw [Bool.and_eq_true] at h
    exact ⟨x,y,rx,ry,h.1,h.2,q rfl _ rfl⟩
  · rw [if_neg h] at e; cases e
noncomputable def asB (x:PV):Rr Bool:=match x with
  | .bl b=>.ok b
  | _=>.bad
theorem Dn.asB {x:PV} {ok:Bool→Prop} {ex:PX→Prop} (d:Dn (asB x) ok ex):∃ b,x=.bl b∧ok b:=by
  cases x with
  | bl b=>exact ⟨b,rfl,d⟩
  | _=>exact d.elim
theorem de_not (ha:DE K EX Γ Γ1 .A ta fa):DE K EX Γ Γ1 .P (tNotV ta) (fun ρ=>(fa ρ).bind fun x=>(asB x).bind fun b=>.ok (.bl (!b))):=fun B H0 H σ ρ F R Q A d=>by
  refine ha B H0 H σ ρ F R _ A (d.bind.imp (fun x _ d v H1 s1 r1=>?_) fun e q=>q)
  obtain ⟨b,rfl,d⟩:=d.bind.asB
  obtain ⟨F1,f1,p1,A1⟩:=r1
  cases p1
  exact ⟨b,rfl,d _ H1 s1 ⟨F1,f1,rfl,rfl,A1⟩⟩
theorem Res.shift {H1:Hp} {F1:Nat→List Addr} {k:Kd} {Γ2:List Md} {y:PV} {w:V} {H2:Hp} (s1:Same H H1) (f1:∀ i,∀ a∈F1 i,a∈F i) (h:Res K B H0 H1 σ Γ2 ρ F1 R k y w H2):Res K B H0 H σ Γ2 ρ F R k y w H2:=by
  obtain ⟨F2,f2,h⟩:=h
  refine ⟨F2,fun i a ha=>f1 i a (f2 i a ha), ?_⟩
  have org:∀ a,(H1 a=none ∨ ∃ i,a∈F1 i)→(H a=none ∨ ∃ i,a∈F i):=fun a h=>h.elim (fun z=>.inl (s1.free z)) fun ⟨i,z⟩=>.inr ⟨i,f1 i a z⟩
  cases k with
  | P=>exact h
  | F=>obtain ⟨G,h1,h2,h3⟩:=h; exact ⟨G,h1,fun a ha=>⟨(h2 a ha).1,org a (h2 a ha).2⟩,h3⟩
  | T=>obtain ⟨a,vs,xs,h1,h2,h3,h4,h5,h6,h7⟩:=h; exact ⟨a,vs,xs,h1,h2,h3,h4,h5,org a h6,h7⟩
  | Z=>exact h
  | A=>exact h
  | N=>exact h.elim
theorem de_and (ha:DE K EX Γ Γ .A ta fa) (hb:DE K EX Γ Γ .P tb fb):DE K EX Γ Γ .P (tAndV ta tb) (fun ρ=>(fa ρ).bind fun x=>(asB x).bind fun b=>if b=true then fb ρ else .ok (.bl false)):=fun B H0 H σ ρ F R Q A d=>by
  refine ha B H0 H σ ρ F R _ A (d.bind.imp (fun x _ d v H1 s1 r1=>?_) fun e q=>q)
  obtain ⟨b,rfl,d⟩:=d.bind.asB
  obtain ⟨F1,f1,p1,A1⟩:=r1
  cases p1
  refine ⟨b,rfl, ?_⟩
  cases b with
  | true=>exact hb B H0 H1 σ ρ F1 R _ A1 (d.imp (fun y _ q w H2 s2 r2=>q w H2 (s1.trans s2) (r2.shift s1 f1)) fun e q=>q)
  | false=>exact d _ H1 s1 ⟨F1,f1,rfl,rfl,A1⟩
theorem dt_test (ha:DE K EX Γ Γ' .A ta fa):DT K EX Γ Γ' (tTest ta) (fun ρ=>(fa ρ).bind asB):=fun B H0 H σ ρ F R Q A d=>by
  refine ha B H0 H σ ρ F R _ A (d.bind.imp (fun x _ d v H1 s1 r1=>?_) fun e q=>q)
  obtain ⟨b,rfl,d⟩:=d.asB
  obtain ⟨F1,f1,p1,A1⟩:=r1
  cases p1
  exact ⟨b,rfl,d H1 F1 s1 f1 A1⟩
theorem dt_b (ha:DE K EX Γ Γ' .A ta fa):DT K EX Γ Γ' (tB ta) (fun ρ=>(fa ρ).bind asB):=dt_test ha
theorem dt_and {c d:TT} {fc fd:List PV→Rr Bool} (hc:DT K EX Γ Γ c fc) (hd:DT K EX Γ Γ d fd):DT K EX Γ Γ (tAnd c d) (fun ρ=>(fc ρ).bind fun b=>if b=true then fd ρ else .ok false):=fun B H0 H σ ρ F R Q A dn=>by
  refine hc B H0 H σ ρ F R _ A (dn.bind.imp (fun b _ dn H1 F1 s1 f1 A1=>?_) fun e q=>q)
  cases b with
  | true=>exact hd B H0 H1 σ ρ F1 R _ A1 (dn.imp (fun y _ q H2 F2 s2 f2 A2=>q H2 F2 (s1.trans s2) (fun i a h=>f1 i a (f2 i a h)) A2) fun e q=>q)
  | false=>exact dn H1 F1 s1 f1 A1
theorem dt_or {c d:TT} {fc fd:List PV→Rr Bool} (hc:DT K EX Γ Γ c fc) (hd:DT K EX Γ Γ d fd):DT K EX Γ Γ (tOr c d) (fun ρ=>(fc ρ).bind fun b=>if b=true then .ok true else fd ρ):=fun B H0 H σ ρ F R Q A dn=>by
  refine hc B H0 H σ ρ F R _ A (dn.bind.imp (fun b _ dn H1 F1 s1 f1 A1=>?_) fun e q=>q)
  cases b with
  | false=>exact hd B H0 H1 σ ρ F1 R _ A1 (dn.imp (fun y _ q H2 F2 s2 f2 A2=>q H2 F2 (s1.trans s2) (fun i a h=>f1 i a (f2 i a h)) A2) fun e q=>q)
  | true=>exact dn H1 F1 s1 f1 A1
theorem dt_not {c:TT} {fc:List PV→Rr Bool} (hc:DT K EX Γ Γ' c fc):DT K EX Γ Γ' (tNot c) (fun ρ=>(fc ρ).bind fun b=>.ok (!b)):=fun B H0 H σ ρ F R Q A dn =>
  hc B H0 H σ ρ F R _ A (dn.bind.imp (fun b _ dn H1 F1 s1 f1 A1=>dn H1 F1 s1 f1 A1) fun e q=>q)
end
end L2
namespace L2
open PySem PySem.Spec PyProof.Rows
noncomputable def DAA (K:PySem.W.Frag) (EX:PX→Hp→Prop) (Γ Γ':List Md) (ta:TA) (f:List PV→Rr (List PV)):Prop :=
  ∀ (B:Addr→Prop) (H0 H:Hp) (σ:St) (ρ:List PV) (F:Nat→List Addr) (R:List Addr) (Q:List V→Hp→Prop),Ag K B H0 H σ Γ ρ F R →
    Dn (f ρ) (fun xs=>∀ vs H' F',Same H H'→(∀ i,∀ a∈F' i,a∈F i)→Reps K H' (fun _=>True) xs vs→Ag K B H0 H' σ Γ' ρ F' R→Q vs H') (fun e=>∀ H',Same H0 H'→EX e H')→ta σ H Q
noncomputable def DAF (K:PySem.W.Frag) (EX:PX→Hp→Prop) (Γ Γ':List Md) (ta:TA) (f:List PV→Rr (List PV)):Prop :=
  ∀ (B:Addr→Prop) (H0 H:Hp) (σ:St) (ρ:List PV) (F:Nat→List Addr) (R:List Addr) (Q:List V→Hp→Prop),Ag K B H0 H σ Γ ρ F R →
    Dn (f ρ) (fun xs=>∀ vs H' F' G,Same H H'→(∀ i,∀ a∈F' i,a∈F i)→Trees K H' xs vs G→(∀ a∈G,a ∉ R∧(H a=none ∨ ∃ i,a∈F i))→Ag K B H0 H' σ Γ' ρ F' (G ++ R)→Q vs H') (fun e=>∀ H',Same H0 H'→EX e H')→ta σ H Q
section
variable {K:PySem.W.Frag} {B:Addr→Prop} {EX:PX→Hp→Prop} {H0 H H':Hp} {σ:St} {Γ Γ' Γ1 Γ2 Γ3:List Md} {ρ:List PV} {F F':Nat→List Addr} {R:List Addr} {k:Kd} {x:PV} {v:V} {te tb tc:TE} {ta:TA} {f fb fc:List PV→Rr PV} {fa:List PV→Rr (List PV)}
theorem daa_nil:DAA K EX Γ Γ tNil (fun _=>.ok []):=fun B H0 H σ ρ F R Q A d=>d [] H F (Same.refl H) (fun _ _ h=>h) rfl A
theorem daa_cons (he:DE K EX Γ Γ1 .A te f) (ha:DAA K EX Γ1 Γ2 ta fa):DAA K EX Γ Γ2 (tCons te ta) (fun ρ=>(f ρ).bind fun x=>(fa ρ).bind fun xs=>.ok (x :: xs)):=fun B H0 H σ ρ F R Q A d=>by
  refine he B H0 H σ ρ F R _ A (d.bind.imp (fun x _ d v H1 s1 r1=>?_) fun e q=>q)
  obtain ⟨F1,f1,p1,A1⟩:=r1
  refine ha B H0 H1 σ ρ F1 R _ A1 (d.bind.imp (fun xs _ d vs H2 F2 s2 f2 p2 A2=>?_) fun e q=>q)
  exact d (v :: vs) H2 F2 (s1.trans s2) (fun i a h=>f1 i a (f2 i a h)) ⟨v,vs,rfl,p1.same s2,p2⟩ A2
theorem daf_nil:DAF K EX Γ Γ tNil (fun _=>.ok []):=fun B H0 H σ ρ F R Q A d=>d [] H F [] (Same.refl H) (fun _ _ h=>h) ⟨rfl,rfl⟩ (by simp) A
theorem daf_cons (he:DE K EX Γ Γ1 .F te f) (ha:DAF K EX Γ1 Γ2 ta fa):DAF K EX Γ Γ2 (tCons te ta) (fun ρ=>(f ρ).bind fun x=>(fa ρ).bind fun xs=>.ok (x :: xs)):=fun B H0 H σ ρ F R Q A d=>by
  refine he B H0 H σ ρ F R _ A (d.bind.imp (fun x _ d v H1 s1 r1=>?_) fun e q=>q)
  obtain ⟨F1,f1,G1,p1,o1,A1⟩:=r1
  refine ha B H0 H1 σ ρ F1 (G1 ++ R) _ A1 (d.bind.imp (fun xs _ d vs H2 F2 G2 s2 f2 p2 o2 A2=>?_) fun e q=>q)
  refine d (v :: vs) H2 F2 (G1 ++ G2) (s1.trans s2) (fun i a h=>f1 i a (f2 i a h)) ⟨v,vs,G1,G2,rfl,p1.same s2,p2,fun a ha z=>(o2 a z).1 (List.mem_append_left _ ha),rfl⟩ (fun a ha=>?_) (A2.less fun a ha=>?_)
  · rcases List.mem_append.mp ha with z | z
    · exact o1 a z
    · obtain ⟨o3,o4⟩:=o2 a z
      exact ⟨fun q=>o3 (List.mem_append_right _ q),o4.elim (fun q=>.inl (s1.free q)) fun ⟨i,q⟩=>.inr ⟨i,f1 i a q⟩⟩
  · simp only [List.mem_append] at ha ⊢
    rcases ha with (z | z) | z
    · exact .inr (.inl z)
    · exact .inl z
    · exact .inr (.inr z)
noncomputable def mkL (xs:List PV):Rr PV:=if xs.length≤1000 then .ok (.lst xs) else .bad
theorem Dn.mkL {xs:List PV} {ok:PV→Prop} {ex:PX→Prop} (d:Dn (mkL xs) ok ex):xs.length≤1000∧ok (.lst xs):=by
  unfold L2.mkL at d
  by_cases h:xs.length≤1000
  · rw [if_pos h] at d; exact ⟨h,d⟩
  · rw [if_neg h] at d; exact d.elim
theorem Res.newF {H1:Hp} {F1:Nat→List Addr} {G:List Addr} {xs:List PV} {vs:List V} {p:Addr} (s1:Same H H1) (f1:∀ i,∀ a∈F1 i,a∈F i) (p1:Trees K H1 xs vs G) (o1:∀ a∈G,a ∉ R∧(H a=none ∨ ∃ i,a∈F i)) (A1:Ag K B H0 H1 σ Γ' ρ F1 (G ++ R)) (hp:H1 p=none) :
    Res K B H0 H σ Γ' ρ F R .F (.lst xs) (.ref p) (upd H1 p (.lst vs)):=by
  have e:Same H1 (upd H1 p (.lst vs)):=Same.new hp
  have hf:=A1.fresh hp
  refine ⟨F1,f1,p :: G,⟨p,vs,G,rfl,upd_same,p1.same e,fun z=>hf.1 (List.mem_append_left _ z),rfl⟩,fun a ha=>?_,A1.new hp⟩
  rcases List.mem_cons.mp ha with rfl | z
  · exact ⟨fun z=>hf.1 (List.mem_append_right _ z),.inl (s1.free hp)⟩
  · exact o1 a z
theorem Res.newP {H1:Hp} {F1:Nat→List Addr} {xs:List PV} {vs:List V} {p:Addr} {S:Addr→Prop} (s1:Same H H1) (f1:∀ i,∀ a∈F1 i,a∈F i) (p1:Reps K H1 S xs vs) (hx:PV.flats xs=true) (A1:Ag K B H0 H1 σ Γ' ρ F1 R) (hp:H1 p=none) :
    Res K B H0 H σ Γ' ρ F R .F (.lst xs) (.ref p) (upd H1 p (.lst vs)):=Res.newF (G:=[]) s1 f1 (p1.trees hx) (by simp) A1 hp
theorem de_lstF (ha:DAF K EX Γ Γ' ta fa):DE K EX Γ Γ' .F (tLst ta) (fun ρ=>(fa ρ).bind mkL):=fun B H0 H σ ρ F R Q A d=>by
  refine ha B H0 H σ ρ F R _ A (d.bind.imp (fun xs _ d vs H1 F1 G s1 f1 p1 o1 A1=>?_) fun e q=>q)
  obtain ⟨hl,d⟩:=d.mkL
  refine ⟨by rw [p1.length]; exact line_big hl,fun p hp=>d _ _ (s1.trans (Same.new hp)) (Res.newF s1 f1 p1 o1 A1 hp)⟩
noncomputable def pIx (x y:PV):Rr PV:=match x,y with
  | .lst xs,.int i=>match atI xs i with
    | some z=>.ok z
    | none=>.bad
  | .tup xs,.int i=>match atI xs i with
    | some z=>.ok z
    | none=>.bad
  | _,_=>.bad
theorem reps_at {S:Addr→Prop} {xs:List PV} {vs:List V} {i:Int} {z:PV} (h:Reps K H S xs vs) (e:atI xs i=some z):∃ u,atI vs i=some u∧Rep K H S z u:=by
  unfold atI at e ⊢
  rw [h.length]
  cases q:ixN xs.length i with
  | none=>rw [q] at e; cases e
  | some j =>
    rw [q] at e
    obtain ⟨u,e1,e2⟩:=h.get e
    exact ⟨u,e1,e2⟩
theorem rix_of {S:Addr→Prop} {x y z:PV} {v w:V} {Q:VK} (hx:Rep K H S x v) (hy:Rep K H (fun _=>True) y w) (e:pIx x y=.ok z) (q:∀ u,Rep K H S z u→Q u H):rIx K v w H Q:=by
  cases x <;> cases y <;> first | (simp only [pIx] at e; cases e; done) | skip
  · rename_i xs i
    obtain ⟨a,vs,rfl,hn,hr⟩:=hx
    cases hy
    simp only [pIx] at e
    cases e1:atI xs i with
    | none=>rw [e1] at e; cases e
    | some z' =>
      rw [e1] at e; cases e
      obtain ⟨u,e2,e3⟩:=reps_at hr e1
      exact .inl ⟨a,vs,i,u,rfl,rfl,sq_of hn,e2,q u e3⟩
  · rename_i xs i
    obtain ⟨a,vs,rfl,hn,hr⟩:=hx
    cases hy
    simp only [pIx] at e
    cases e1:atI xs i with
    | none=>rw [e1] at e; cases e
    | some z' =>
      rw [e1] at e; cases e
      obtain ⟨u,e2,e3⟩:=reps_at hr e1
      exact .inr (.inl ⟨a,vs,i,u,rfl,rfl,hn.sqT,e2,q u e3⟩)
theorem pIx_noexc (x y:PV) (e:PX):pIx x y≠.exc e:=by
  cases x <;> cases y <;> first | (intro h; simp only [pIx] at h; cases h; done) | skip
  all_goals
    intro h
    simp only [pIx] at h
    split at h <;> cases h
theorem Dn.pIx {x y:PV} {ok:PV→Prop} {ex:PX→Prop} (d:Dn (pIx x y) ok ex):∃ z,pIx x y=.ok z∧ok z:=by
  cases e:L2.pIx x y with
  | ok z=>rw [e] at d; exact ⟨z,rfl,d⟩
  | exc q=>exact absurd e (pIx_noexc x y q)
  | bad=>rw [e] at d; exact d.elim
theorem de_ixA {te ta':TE} {fa':List PV→Rr PV} (ha:DE K EX Γ Γ1 .A ta' fa') (hb:DE K EX Γ1 Γ2 .A tb fb):DE K EX Γ Γ2 .A (tOp (rIx K) ta' tb) (fun ρ=>(fa' ρ).bind fun x=>(fb ρ).bind fun y=>pIx x y):=fun B H0 H σ ρ F R Q A d=>by
  refine two ha hb A d.bind2 fun x y v w H' F' d s hF p1 p2 A'=>?_
  obtain ⟨z,e,d⟩:=d.pIx
  exact rix_of p1 p2 e fun u hu=>d u H' s ⟨F',hF,hu,A'⟩
noncomputable def CbP (K:PySem.W.Frag) (r:List V→Hp→VK→Prop) (o:List PV→Rr PV):Prop:=∀ {H:Hp} {xs:List PV} {vs:List V} {Q:VK},Reps K H (fun _=>True) xs vs→∀ z,o xs=.ok z→z.flat=true∧((∀ u,Rep K H (fun _=>True) z u→Q u H)→r vs H Q)
theorem de_cb {r:List V→Hp→VK→Prop} {o:List PV→Rr PV} (hr:CbP K r o) (hx:∀ xs e,o xs≠.exc e) (ha:DAA K EX Γ Γ' ta fa):DE K EX Γ Γ' .P (tCB r ta) (fun ρ=>(fa ρ).bind o):=fun B H0 H σ ρ F R Q A d=>by
  refine ha B H0 H σ ρ F R _ A (d.bind.imp (fun xs _ d vs H1 F1 s1 f1 p1 A1=>?_) fun e q=>q)
  cases e:o xs with
  | ok z =>
    rw [e] at d
    obtain ⟨hf,h⟩:=hr (Q:=Q) p1 z e
    exact h fun u hu=>d u H1 s1 ⟨F1,f1,hf,hu,A1⟩
  | exc q=>exact absurd e (hx xs q)
  | bad=>rw [e] at d; exact d.elim
theorem reps1 {S:Addr→Prop} {x:PV} {vs:List V} (h:Reps K H S [x] vs):∃ v,vs=[v]∧Rep K H S x v:=by
  obtain ⟨v,r,rfl,h1,h2⟩:=h
  cases h2
  exact ⟨v,rfl,h1⟩
theorem reps2 {S:Addr→Prop} {x y:PV} {vs:List V} (h:Reps K H S [x,y] vs):∃ v w,vs=[v,w]∧Rep K H S x v∧Rep K H S y w:=by
  obtain ⟨v,r,rfl,h1,w,r',rfl,h2,h3⟩:=h
  cases h3
  exact ⟨v,w,rfl,h1,h2⟩
noncomputable def intsOf:List PV→Option (List Int)
  | []=>some []
  | .int i :: xs=>(intsOf xs).map (i :: ·)
  | _ :: _=>none
@[simp] theorem intsOf_map (ns:List Int):intsOf (ns.map PV.int)=some ns:=by
  induction ns with
  | nil=>rfl
  | cons n ns ih=>simp [intsOf,ih]
theorem intsOf_eq:∀ {xs:List PV} {ns:List Int},intsOf xs=some ns→xs=ns.map PV.int
  | [],_,h=>by cases h; rfl
  | .int i :: xs,ns,h=>by
    simp only [intsOf] at h
    cases e:intsOf xs with
    | none=>rw [e] at h; cases h
    | some ms=>rw [e] at h; cases h; rw [intsOf_eq e]; rfl
  | .non :: _,_,h=>by cases h
  | .bl _ :: _,_,h=>by cases h
  | .str _ :: _,_,h=>by cases h
  | .exc _ :: _,_,h=>by cases h
  | .exa _ _ :: _,_,h=>by cases h
  | .box _ _ _ :: _,_,h=>by cases h
  | .lst _ :: _,_,h=>by cases h
  | .tup _ :: _,_,h=>by cases h
theorem reps_ints {S:Addr→Prop}:∀ {ns:List Int} {vs:List V},Reps K H S (ns.map PV.int) vs→vs=ns.map V.int
  | [],_,h=>h
  | n :: ns,_,h=>by
    obtain ⟨v,r,rfl,h1,h2⟩:=h
    cases h1
    rw [reps_ints h2]; rfl
theorem ints_reps {S:Addr→Prop}:∀ (ns:List Int),Reps K H S (ns.map PV.int) (ns.map V.int)
  | []=>rfl
  | n :: ns=>⟨_,_,rfl,rfl,ints_reps ns⟩
theorem rep_ints {S:Addr→Prop} {ns:List Int} {v:V} (h:Rep K H S (.lst (ns.map PV.int)) v):∃ a,v=.ref a∧SqL K H a (ns.map V.int):=by
  obtain ⟨a,vs,rfl,hn,hr⟩:=h
  rw [reps_ints hr] at hn
  exact ⟨a,rfl,sq_of hn⟩
noncomputable def pInts (g:List Int→Rr PV) (xs:List PV):Rr PV:=match xs with
  | [.lst ys]=>match intsOf ys with
    | some ns=>g ns
    | none=>.bad
  | _=>.bad
theorem Rr.ints {g:List Int→Rr PV} {xs:List PV} {z:PV} (e:pInts g xs=.ok z):∃ ns,xs=[.lst (ns.map PV.int)]∧g ns=.ok z:=by
  unfold pInts at e
  split at e
  · split at e
    · rename_i ns h
      exact ⟨ns,by rw [intsOf_eq h],e⟩
    · cases e
  · cases e
theorem pInts_noexc {g:List Int→Rr PV} (hg:∀ ns e,g ns≠.exc e) (xs:List PV) (e:PX):pInts g xs≠.exc e:=by
  intro h
  unfold pInts at h
  split at h
  · split at h
    · exact hg _ _ h
    · cases h
  · cases h
noncomputable abbrev pSum:=pInts fun ns=>.ok (.int ns.sum)
theorem de_sum (ha:DAA K EX Γ Γ' ta fa):DE K EX Γ Γ' .P (tCB (fun xs H Q=>∃ p,∃ ns:List Int,xs=[.ref p]∧SqL K H p (ns.map V.int)∧Q (.int ns.sum) H) ta) (fun ρ=>(fa ρ).bind pSum):=by
  refine de_cb (fun {H xs vs Q} h z e=>?_) (pInts_noexc fun ns e h=>by cases h) ha
  obtain ⟨ns,rfl,e'⟩:=Rr.ints e
  cases e'
  obtain ⟨v,rfl,h1⟩:=reps1 h
  obtain ⟨a,rfl,h2⟩:=rep_ints h1
  exact ⟨rfl,fun q=>⟨a,ns,rfl,h2,q _ rfl⟩⟩
end
end L2
namespace L2
open PySem PySem.Spec PyProof.Rows
theorem line_mil {n:Nat} (h:n≤1000000):n≤sizeLine:=Nat.le_trans h (by decide)
noncomputable def LX (K:PySem.W.Frag) (H:Hp) (a:Addr) (vs:List V):Prop:=Rd H a (.lst vs) ∨ KL K a vs
noncomputable def rCatK (K:PySem.W.Frag):R2:=fun x y H Q=>∃ l b xs zs,x=.ref l∧y=.ref b∧LX K H l xs∧LX K H b zs∧xs.length + zs.length≤sizeLine∧∀ p,H p=none→Q (.ref p) (upd H p (.lst (xs ++ zs)))
section
variable {X:Cx} {K:PySem.W.Frag}
theorem lx_of {H:Hp} {S:Addr→Prop} {a:Addr} {vs:List V} (h:(Rd H a (.lst vs)∧S a) ∨ KL K a vs):LX K H a vs:=h.elim (fun z=>.inl z.1) .inr
theorem op_catK (e:X.K=K:=by rfl):OpR X (binaryOp .Add) (rCatK K):=by
  subst e
  intro pins s σ H x y v u Q I rx ry h
  obtain ⟨l,b,xs,zs,rfl,rfl,hH,hB,hz,q⟩:=h
  cases rx
  cases ry
  obtain ⟨its,r,pl,_⟩:=I.list (show SqL X.K H l xs from hH)
  obtain ⟨its2,r2,pl2,_⟩:=I.list (show SqL X.K H b zs from hB)
  have hl:=r.length
  have hl2:=r2.length
  obtain ⟨⟨cls,dd,data,sl⟩,ho,hc,n,hd⟩:=pl.isList
  obtain ⟨⟨cls2,dd2,data2,sl2⟩,ho2,hc2,n2,hd2⟩:=pl2.isList
  simp only at hc hd hc2 hd2
  subst hc hd hc2 hd2
  have ea:its.toArray ++ its2.toArray=(its ++ its2).toArray:=by simp
  refine concat_meets ⟨_,ho,rfl⟩ ⟨_,ho2,rfl⟩ noFill_list_add seq_list_add PySem.F.slot_list_add PySem.F.entry_list_add (PySem.F.args_list_add_2 _ _) (list_addW l b its.toArray its2.toArray n n2 dd dd2 sl sl2 (by rw [List.size_toArray,List.size_toArray]; omega)) ⟨ho,ho2, ?_⟩
  rw [ea]
  exact ⟨.ref _,_,I.lnew (t':=s.toks) (r.append r2) (by rw [List.length_append]; omega),rfl,q _ I.fresh⟩
end
noncomputable def Frm (H:Hp) (F:Nat→List Addr) (H':Hp) (F':Nat→List Addr):Prop:=∀ a o,H a=some o→(∀ i,a ∉ F i)→H' a=some o∧∀ i,a ∉ F' i
theorem Frm.refl {H:Hp} {F:Nat→List Addr}:Frm H F H F:=fun a o h n=>⟨h,n⟩
theorem Frm.trans {H H1 H2:Hp} {F F1 F2:Nat→List Addr} (h1:Frm H F H1 F1) (h2:Frm H1 F1 H2 F2):Frm H F H2 F2:=fun a o h n=>let ⟨h3,n3⟩:=h1 a o h n; h2 a o h3 n3
theorem Frm.of {H H':Hp} {F F':Nat→List Addr} (s:Same H H') (f:∀ i,∀ a∈F' i,a∈F i):Frm H F H' F':=fun a o h n=>⟨s a o h,fun i z=>n i (f i a z)⟩
noncomputable def ItP (K:PySem.W.Frag) (S:Addr→Prop) (J:It) (xs:List PV) (H:Hp):Prop :=
  ∀ i,(∀ x,xs[i]?=some x→J.go i H∧∀ v H',J.yld i H v H'→Same H H'∧Rep K H' S x v)∧(xs[i]?=none→J.stop i H)
noncomputable def DI (K:PySem.W.Frag) (EX:PX→Hp→Prop) (Γ Γ':List Md) (wi:TI) (f:List PV→Rr (List PV)):Prop :=
  ∀ (B:Addr→Prop) (H0 H:Hp) (σ:St) (ρ:List PV) (F:Nat→List Addr) (R:List Addr) (Q:It→Hp→Prop),Ag K B H0 H σ Γ ρ F R →
    Dn (f ρ) (fun xs=>∀ J H' F',Same H H'→(∀ i,∀ a∈F' i,a∈F i)→Ag K B H0 H' σ Γ' ρ F' R→(∀ H2 F2,Frm H' F' H2 F2→ItP K (fun a=>NO B F2 R a∧H' a≠none∧∀ i,a ∉ F' i) J xs H2)→Q J H') (fun e=>∀ H',Same H0 H'→EX e H')→wi σ H Q
noncomputable def DIc (K:PySem.W.Frag) (EX:PX→Hp→Prop) (Γ Γ':List Md) (wi:TI) (f:List PV→Rr (List PV)):Prop :=
  ∀ (B:Addr→Prop) (H0 H:Hp) (σ:St) (ρ:List PV) (F:Nat→List Addr) (R:List Addr) (Q:It→Hp→Prop),Ag K B H0 H σ Γ ρ F R →
    Dn (f ρ) (fun xs=>∀ J H' F',Same H H'→(∀ i,∀ a∈F' i,a∈F i)→Ag K B H0 H' σ Γ' ρ F' R→(∀ H2 F2,Same H' H2→(∀ i,∀ a∈F2 i,a∈F' i)→ItP K (fun a=>NO B F2 R a∧H' a≠none∧∀ i,a ∉ F' i) J xs H2)→Q J H') (fun e=>∀ H',Same H0 H'→EX e H')→wi σ H Q
theorem DI.c {K:PySem.W.Frag} {EX:PX→Hp→Prop} {Γ Γ':List Md} {wi:TI} {f:List PV→Rr (List PV)} (h:DI K EX Γ Γ' wi f):DIc K EX Γ Γ' wi f:=fun B H0 H σ ρ F R Q A d =>
  h B H0 H σ ρ F R Q A (d.imp (fun xs _ d J H' F' s1 f1 A1 it=>d J H' F' s1 f1 A1 fun H2 F2 s2 f2=>it H2 F2 (Frm.of s2 f2)) fun e q=>q)
section
variable {K:PySem.W.Frag} {B:Addr→Prop} {EX:PX→Hp→Prop} {H0 H H':Hp} {σ:St} {Γ Γ' Γ1 Γ2 Γ3:List Md} {ρ:List PV} {F F':Nat→List Addr} {R:List Addr} {k:Kd} {x:PV} {v:V} {te tb tc:TE} {ta:TA} {f fb fc:List PV→Rr PV} {fa:List PV→Rr (List PV)}
theorem Rep.frm {F2:Nat→List Addr} {H2:Hp} (h:Frm H F H2 F2) (A:Ag K B H0 H σ Γ ρ F R) (r:Rep K H (NO B F R) x v):Rep K H2 (fun a=>NO B F2 R a∧H a≠none∧∀ i,a ∉ F i) x v:=by
  refine Rep.mono (fun a us s r=>?_) (fun a us r=>?_) r
  · rcases r with r | ⟨o,r⟩
    · obtain ⟨h1,h2⟩:=h a _ r s.2.2; exact ⟨.inl h1,⟨s.1,s.2.1,h2⟩,by rw [r]; simp,s.2.2⟩
    · obtain ⟨h1,h2⟩:=h a _ r s.2.2; exact ⟨.inr ⟨o,h1⟩,⟨s.1,s.2.1,h2⟩,by rw [r]; simp,s.2.2⟩
  · refine ⟨(h a _ r.1 fun i z=>?_).1,r.2⟩
    obtain ⟨vs,q⟩:=A.live i a z
    exact lv_ne_im vs.2 r.2 (by rw [r.1] at q; exact Option.some.inj q)
noncomputable def rngP (lo:Int) (n:Nat):List PV:=(List.range n).map fun (k:Nat)=>PV.int (lo + (k:Int))
theorem itp_rng {lo:Int} {n:Nat} {S:Addr→Prop}:ItP K S (Itr lo n) (rngP lo n) H:=by
  intro i
  constructor
  · intro x hx
    unfold rngP at hx
    rw [List.getElem?_map] at hx
    by_cases h:i < n
    · rw [List.getElem?_range h] at hx
      cases hx
      exact ⟨h,fun v H' ⟨e1,e2⟩=>by subst e1 e2; exact ⟨Same.refl _,rfl⟩⟩
    · rw [List.getElem?_eq_none (by simpa using h)] at hx; cases hx
  · intro hx
    unfold rngP at hx
    have:=List.getElem?_eq_none_iff.mp hx
    show n≤i
    simpa using this
noncomputable def okR (j:Int):Bool:=decide (-(2 ^ 62)≤j∧j < 2 ^ 62)
noncomputable def pRng1 (xs:List PV):Rr (List PV):=match xs with
  | [.int j]=>if okR j=true then .ok (rngP 0 j.toNat) else .bad
  | _=>.bad
noncomputable def pRng2 (xs:List PV):Rr (List PV):=match xs with
  | [.int i,.int j]=>if (okR i && okR j)=true then .ok (rngP i (j - i).toNat) else .bad
  | _=>.bad
theorem di_rng1 (ha:DAA K EX Γ Γ' ta fa):DI K EX Γ Γ' (iRng1 ta) (fun ρ=>(fa ρ).bind pRng1):=fun B H0 H σ ρ F R Q A d=>by
  refine ha B H0 H σ ρ F R _ A (d.bind.imp (fun xs _ d vs H1 F1 s1 f1 p1 A1=>?_) fun e q=>q)
  unfold pRng1 at d
  split at d
  · rename_i j _
    obtain ⟨v,rfl,h1⟩:=reps1 p1
    cases h1
    by_cases h:okR j=true
    · rw [if_pos h] at d
      have h':=of_decide_eq_true h
      exact ⟨j,rfl,h'.1,h'.2,d _ H1 F1 s1 f1 A1 fun H2 F2 _=>itp_rng⟩
    · rw [if_neg h] at d; exact d.elim
  · exact d.elim
theorem di_rng2 (ha:DAA K EX Γ Γ' ta fa):DI K EX Γ Γ' (iRng2 ta) (fun ρ=>(fa ρ).bind pRng2):=fun B H0 H σ ρ F R Q A d=>by
  refine ha B H0 H σ ρ F R _ A (d.bind.imp (fun xs _ d vs H1 F1 s1 f1 p1 A1=>?_) fun e q=>q)
  unfold pRng2 at d
  split at d
  · rename_i i j _
    obtain ⟨v,w,rfl,h1,h2⟩:=reps2 p1
    cases h1; cases h2
    by_cases h:(okR i && okR j)=true
    · rw [if_pos h] at d
      rw [Bool.and_eq_true] at h
      have h':=of_decide_eq_true h.1
      have h'':=of_decide_eq_true h.2
      exact ⟨i,j,rfl,⟨h'.1,h'.2,h''.1,h''.2⟩,d _ H1 F1 s1 f1 A1 fun H2 F2 _=>itp_rng⟩
    · rw [if_neg h] at d; exact d.elim
  · exact d.elim
noncomputable def asL (x:PV):Rr (List PV):=match x with
  | .lst xs=>.ok xs
  | _=>.bad
theorem itp_lst {a:Addr} {xs:List PV} {S:Addr→Prop} (h:Rep K H S (.lst xs) (.ref a)):ItP K S (Itl K a) xs H:=by
  obtain ⟨a',vs,e,hn,hr⟩:=h
  cases e
  intro i
  constructor
  · intro x hx
    obtain ⟨u,e1,e2⟩:=hr.get hx
    refine ⟨⟨vs,u,sq_of hn,e1⟩,fun v H' ⟨e,y⟩=>?_⟩
    subst e
    have:=y vs (sq_of hn)
    rw [e1] at this; cases this
    exact ⟨Same.refl _,e2⟩
  · intro hx
    exact ⟨vs,sq_of hn,by rw [hr.length]; exact List.getElem?_eq_none_iff.mp hx⟩
theorem di_list (he:DE K EX Γ Γ' .Z te f):DI K EX Γ Γ' (iList K te) (fun ρ=>(f ρ).bind asL):=fun B H0 H σ ρ F R Q A d=>by
  refine he B H0 H σ ρ F R _ A (d.bind.imp (fun x _ d v H1 s1 r1=>?_) fun e q=>q)
  obtain ⟨F1,f1,p1,A1⟩:=r1
  cases x with
  | lst xs =>
    obtain ⟨a,vs,rfl,hn,hr⟩:=id p1
    exact ⟨a,rfl,⟨vs,sq_of hn⟩,d _ H1 F1 s1 f1 A1 fun H2 F2 h=>itp_lst (p1.frm h A1)⟩
  | _=>exact d.elim
noncomputable def DO (K:PySem.W.Frag) (EX:PX→Hp→Prop) (Γ Γ':List Md) (t:TO) (f:List PV→Rr (Option Int)):Prop :=
  ∀ (B:Addr→Prop) (H0 H:Hp) (σ:St) (ρ:List PV) (F:Nat→List Addr) (R:List Addr) (Q:Option Int→Hp→Prop),Ag K B H0 H σ Γ ρ F R →
    Dn (f ρ) (fun o=>∀ H' F',Same H H'→(∀ i,∀ a∈F' i,a∈F i)→Ag K B H0 H' σ Γ' ρ F' R→Q o H') (fun e=>∀ H',Same H0 H'→EX e H')→t σ H Q
theorem do_none:DO K EX Γ Γ tNoPart (fun _=>.ok none):=fun B H0 H σ ρ F R Q A d=>d H F (Same.refl H) (fun _ _ h=>h) A
noncomputable def asI (x:PV):Rr Int:=match x with
  | .int i=>.ok i
  | _=>.bad
theorem Dn.asI {x:PV} {ok:Int→Prop} {ex:PX→Prop} (d:Dn (asI x) ok ex):∃ b,x=.int b∧ok b:=by
  cases x with
  | int b=>exact ⟨b,rfl,d⟩
  | _=>exact d.elim
theorem do_some (he:DE K EX Γ Γ' .A te f):DO K EX Γ Γ' (tPart te) (fun ρ=>(f ρ).bind fun x=>(asI x).bind fun i=>.ok (some i)):=fun B H0 H σ ρ F R Q A d=>by
  refine he B H0 H σ ρ F R _ A (d.bind.imp (fun x _ d v H1 s1 r1=>?_) fun e q=>q)
  obtain ⟨i,rfl,d⟩:=d.bind.asI
  obtain ⟨F1,f1,p1,A1⟩:=r1
  cases p1
  exact ⟨i,rfl,d H1 F1 s1 f1 A1⟩
noncomputable def cutG {α:Type} (xs:List α) (lo hi:Option Int):List α:=(xs.drop (HT.sIx xs.length 0 lo)).take (HT.sIx xs.length xs.length hi - HT.sIx xs.length 0 lo)
theorem Reps.cut {S:Addr→Prop} {xs:List PV} {vs:List V} (h:Reps K H S xs vs) (lo hi:Option Int):Reps K H S (cutG xs lo hi) (cutV vs lo hi):=by
  unfold cutG cutV
  rw [h.length]
  exact (h.drop _).take _
noncomputable def newF (xs:List PV):Rr PV:=if (PV.flats xs && decide (xs.length≤1000000))=true then .ok (.lst xs) else .bad
theorem Dn.newF {xs:List PV} {ok:PV→Prop} {ex:PX→Prop} (d:Dn (newF xs) ok ex):PV.flats xs=true∧xs.length≤1000000∧ok (.lst xs):=by
  unfold L2.newF at d
  by_cases h:(PV.flats xs && decide (xs.length≤1000000))=true
  · rw [if_pos h] at d
    rw [Bool.and_eq_true] at h
    exact ⟨h.1,of_decide_eq_true h.2,d⟩
  · rw [if_neg h] at d; exact d.elim
theorem de_slF {tl th:TO} {fl fh:List PV→Rr (Option Int)} (he:DE K EX Γ Γ1 .A te f) (hl:DO K EX Γ1 Γ2 tl fl) (hh:DO K EX Γ2 Γ3 th fh) :
    DE K EX Γ Γ3 .F (tSl (rSlL K) te tl th) (fun ρ=>(f ρ).bind fun x=>(fl ρ).bind fun lo=>(fh ρ).bind fun hi=>(asL x).bind fun xs=>newF (cutG xs lo hi)):=fun B H0 H σ ρ F R Q A d=>by
  refine he B H0 H σ ρ F R _ A (d.bind.imp (fun x _ d v H1 s1 r1=>?_) fun e q=>q)
  obtain ⟨F1,f1,p1,A1⟩:=r1
  refine hl B H0 H1 σ ρ F1 R _ A1 (d.bind.imp (fun lo _ d H2 F2 s2 f2 A2=>?_) fun e q=>q)
  refine hh B H0 H2 σ ρ F2 R _ A2 (d.bind.imp (fun hi _ d H3 F3 s3 f3 A3=>?_) fun e q=>q)
  cases x with
  | lst xs =>
    obtain ⟨h1,h2,d⟩:=Dn.newF d
    obtain ⟨a,vs,rfl,hn,hr⟩:=(p1.same s2).same s3
    refine ⟨a,vs,rfl,sq_of (S:=fun _=>True) hn,fun p hp=>?_⟩
    exact d _ _ (((s1.trans s2).trans s3).trans (Same.new hp)) (Res.newP ((s1.trans s2).trans s3) (fun i a h=>f1 i a (f2 i a (f3 i a h))) (hr.cut lo hi) h1 A3 hp)
  | _=>exact d.elim
theorem de_catF {tb':TE} {fb':List PV→Rr PV} (ha:DE K EX Γ Γ1 .A te f) (hb:DE K EX Γ1 Γ2 .A tb' fb') :
    DE K EX Γ Γ2 .F (tOp (rCatK K) te tb') (fun ρ=>(f ρ).bind fun x=>(fb' ρ).bind fun y=>(asL x).bind fun xs=>(asL y).bind fun ys=>newF (xs ++ ys)):=fun B H0 H σ ρ F R Q A d=>by
  refine two ha hb A d.bind2 fun x y v w H' F' d s hF p1 p2 A'=>?_
  cases x with
  | lst xs =>
    cases y with
    | lst ys =>
      obtain ⟨h1,h2,d⟩:=Dn.newF d
      obtain ⟨a,vs,rfl,hn,hr⟩:=p1
      obtain ⟨b,ws,rfl,hn',hr'⟩:=p2
      refine ⟨a,b,vs,ws,rfl,rfl,lx_of (S:=fun _=>True) hn,lx_of (S:=fun _=>True) hn', ?_,fun p hp=>?_⟩
      · rw [hr.length,hr'.length,← List.length_append]; exact line_mil h2
      · exact d _ _ (s.trans (Same.new hp)) (Res.newP s hF (hr.append hr') h1 A' hp)
    | _=>exact d.elim
  | _=>exact d.elim
noncomputable def tyName:PV→String
  | .non => "NoneType"
  | .bl _ => "bool"
  | .int _ => "int"
  | .str _ => "str"
  | .lst _ => "list"
  | .tup _ => "tuple"
  | .exc _ => "?"
  | .exa _ _ => "?"
  | .box _ (.dk _) _ => "dict"
  | .box _ (.dt _) _ => "dict"
  | .box _ (.ob _ _) _ => "?"
noncomputable def PV.isX:PV→Bool
  | .exc _=>true
  | .exa _ _=>true
  | .box _ _ _=>true
  | _=>false
noncomputable def isSub (t n:String):Bool:=t == n || (t == "bool" && n == "int")
noncomputable def tyOk (n:String):Bool:=n == "int" || n == "bool" || n == "str" || n == "list" || n == "tuple"
theorem kit_of (K:PySem.W.Frag) {n:String} (h:tyOk n=true) (x:PV) (hx:x.isX=false):PySem.W.kitOne K (.type (tyName x)) (.type n)=some (isSub (tyName x) n):=by
  simp only [tyOk,Bool.or_eq_true,beq_iff_eq] at h
  rcases h with (((rfl | rfl) | rfl) | rfl) | rfl <;> cases x <;> first | rfl | cases hx
noncomputable def rIsi (K:PySem.W.Frag) (n:String):List V→Hp→VK→Prop:=fun xs H Q=>∃ x p,xs=[x,.ty n]∧Rep K H (fun _=>True) p x∧p.isX=false∧Q (.bl (isSub (tyName p) n)) H
theorem call_isiK {X:Cx} {n:String} (hn:tyOk n=true) (e:X.K=K:=by rfl):CallR X (.builtin "isinstance") (rIsi K n):=by
  subst e
  intro pins s σ H xs us Q I r h
  obtain ⟨x,p,rfl,hp,hx,q⟩:=h
  obtain ⟨u,w',rfl,rx,rn⟩:=vals2 r
  cases rn
  have e:=kit_of X.K hn p hx
  have fin:∀ tk,EP X pins σ Q (.bool (isSub (tyName p) n)) { s with toks:=tk }:=fun tk=>⟨.bl _,H,I.tok _,rfl,q⟩
  cases p with
  | non=>cases hp; cases rx; exact PySem.W.kia_one PySem.W.kitx_none I.kIn True.intro e (fun z=>nomatch z) fin
  | bl y=>cases hp; cases rx; exact PySem.W.kia_one PySem.W.kitx_bool I.kIn True.intro e (fun z=>nomatch z) fin
  | int i=>cases hp; obtain ⟨t,rfl⟩:=rx; exact PySem.W.kia_one PySem.W.kitx_int I.kIn True.intro e (fun z=>nomatch z) fin
  | str y=>cases hp; obtain ⟨t,rfl⟩:=rx; exact PySem.W.kia_one PySem.W.kitx_str I.kIn True.intro e (fun z=>nomatch z) fin
  | exc y=>cases hx
  | exa y i=>cases hx
  | box p s ps=>cases hx
  | lst ps =>
    obtain ⟨a,vs,rfl,hn',hr⟩:=hp
    cases rx
    obtain ⟨its,_,pl,_⟩:=I.list (sq_of (S:=fun _=>True) hn')
    obtain ⟨o,h1,h2,_⟩:=pl.isList
    exact PySem.W.kia_one PySem.W.kitx_list I.kIn ⟨o,h1,h2⟩ e (fun z=>nomatch z) fin
  | tup ps =>
    obtain ⟨a,vs,rfl,hn',hr⟩:=hp
    cases rx
    obtain ⟨its,_,⟨o,h1,h2,_⟩,_⟩:=I.tuple hn'.sqT
    exact PySem.W.kia_one PySem.W.kitx_tuple I.kIn ⟨o,h1,h2⟩ e (fun z=>nomatch z) fin
noncomputable def pIsi (n:String) (x:PV):Rr PV:=if x.isX=true then .bad else .ok (.bl (isSub (tyName x) n))
theorem de_isi {n:String} (he:DE K EX Γ Γ' .A te f):DE K EX Γ Γ' .P (tCB (rIsi K n) (tCons te (tCons (tC (.ty n)) tNil))) (fun ρ=>(f ρ).bind (pIsi n)):=fun B H0 H σ ρ F R Q A d=>by
  refine he B H0 H σ ρ F R _ A (d.bind.imp (fun x _ d v H1 s1 r1=>?_) fun e q=>q)
  obtain ⟨F1,f1,p1,A1⟩:=r1
  unfold pIsi at d
  cases hx:x.isX with
  | true=>rw [hx] at d; exact d.elim
  | false=>rw [hx] at d; exact ⟨v,x,rfl,p1,hx,d _ H1 s1 ⟨F1,f1,rfl,rfl,A1⟩⟩
noncomputable def Len (fa:List PV→Rr (List PV)) (n:Nat):Prop:=∀ ρ xs,fa ρ=.ok xs→xs.length=n
theorem len_nil:Len (fun _=>.ok []) 0:=fun ρ xs h=>by cases h; rfl
theorem len_cons {f:List PV→Rr PV} {fa:List PV→Rr (List PV)} {n:Nat} (h:Len fa n):Len (fun ρ=>(f ρ).bind fun x=>(fa ρ).bind fun xs=>.ok (x :: xs)) (n + 1):=fun ρ xs e=>by
  dsimp only at e
  cases h1:f ρ with
  | ok x =>
    rw [h1] at e
    cases h2:fa ρ with
    | ok ys=>simp only [Rr.bind_ok,h2] at e; cases e; simp [h ρ ys h2]
    | exc q=>simp only [Rr.bind_ok,h2,Rr.bind_exc] at e; cases e
    | bad=>simp only [Rr.bind_ok,h2,Rr.bind_bad] at e; cases e
  | exc q=>rw [h1] at e; cases e
  | bad=>rw [h1] at e; cases e
noncomputable def RetK (K:PySem.W.Frag) (B:Addr→Prop) (H:Hp) (k:Kd) (x:PV) (v:V) (H':Hp):Prop:=match k with
  | .P=>x.flat=true∧Rep K H' (fun _=>True) x v
  | .F=>∃ G,Tree K H' x v G∧∀ a∈G,H a=none
  | .N=>∃ y a s xs G1 G2,x=.tup [y,.box (some a) s xs]∧Tree K H' y v G1∧Tree K H' (.box (some a) s xs) (.ref a) G2∧(∀ b∈G1,b ∉ G2)∧(∀ b∈G1,H b=none)∧∀ b∈G2,H b=none
  | _=>Rep K H' (fun a=>B a ∨ H a=none) x v
noncomputable def spF (K:PySem.W.Frag) (n:Nat) (k:Kd) (W:PX→XK→Hp→Prop) (m:List PV→Rr PV):Sp:=fun vs H Q E=>∃ B xs,Reps K H B xs vs∧xs.length=n ∧
  Dn (m xs) (fun x=>∀ v H',Same H H'→RetK K B H k x v H'→Q v H') (fun e=>∀ H',Same H H'→W e E H')
noncomputable def W0:PX→XK→Hp→Prop:=fun _ _ _=>False
noncomputable def X0:PX→Hp→Prop:=fun _ _=>False
section
variable {n:Nat} {W:PX→XK→Hp→Prop} {m:List PV→Rr PV} {E:XK}
theorem de_callP {t:TE} (ht:∀ σ H Q,(ta σ H fun vs H1=>spF K n .P W m vs H1 Q E)→t σ H Q) (hW:∀ e H',EX e H'→W e E H') (hn:Len fa n) (ha:DAA K EX Γ Γ' ta fa):DE K EX Γ Γ' .P t (fun ρ=>(fa ρ).bind m):=fun B H0 H σ ρ F R Q A d=>by
  refine ht _ _ _ (ha B H0 H σ ρ F R _ A (d.bind.imp (fun xs hx d vs H1 F1 s1 f1 p1 A1=>?_) fun e q=>q))
  exact ⟨fun _=>True,xs,p1,hn ρ xs hx,d.imp (fun x _ d v H2 s2 r=>d v H2 (s1.trans s2) ⟨F1,f1,r.1,r.2,A1.grow s2⟩) fun e q H2 s2=>hW e H2 (q H2 (A1.same.trans s2))⟩
theorem de_callF {t:TE} (ht:∀ σ H Q,(ta σ H fun vs H1=>spF K n .F W m vs H1 Q E)→t σ H Q) (hW:∀ e H',EX e H'→W e E H') (hn:Len fa n) (ha:DAA K EX Γ Γ' ta fa):DE K EX Γ Γ' .F t (fun ρ=>(fa ρ).bind m):=fun B H0 H σ ρ F R Q A d=>by
  refine ht _ _ _ (ha B H0 H σ ρ F R _ A (d.bind.imp (fun xs hx d vs H1 F1 s1 f1 p1 A1=>?_) fun e q=>q))
  refine ⟨fun _=>True,xs,p1,hn ρ xs hx,d.imp (fun x _ d v H2 s2 r=>?_) fun e q H2 s2=>hW e H2 (q H2 (A1.same.trans s2))⟩
  obtain ⟨G,r1,r2⟩:=r
  exact d v H2 (s1.trans s2) ⟨F1,f1,G,r1,fun a ha=>⟨(A1.fresh (r2 a ha)).1,.inl (s1.free (r2 a ha))⟩,A1.more s2 r2 r1.alive⟩
end
end
end L2
namespace L2
open PySem PySem.Spec PyProof.Rows
noncomputable def mapR {α β:Type} (f:α→Rr β):List α→Rr (List β)
  | []=>.ok []
  | x :: xs=>(f x).bind fun y=>(mapR f xs).bind fun ys=>.ok (y :: ys)
noncomputable def lenM (xs:List PV):Rr Unit:=if xs.length≤1000000 then .ok () else .bad
theorem Dn.lenM {xs:List PV} {ok:Unit→Prop} {ex:PX→Prop} (d:Dn (lenM xs) ok ex):xs.length≤1000000∧ok ():=by
  unfold L2.lenM at d
  by_cases h:xs.length≤1000000
  · rw [if_pos h] at d; exact ⟨h,d⟩
  · rw [if_neg h] at d; exact d.elim
theorem Rr.assoc {α β γ:Type} {r:Rr α} {f:α→Rr β} {g:β→Rr γ}:(r.bind f).bind g=r.bind fun a=>(f a).bind g:=by cases r <;> rfl
section
variable {K:PySem.W.Frag} {B:Addr→Prop} {EX:PX→Hp→Prop} {H0 H H':Hp} {σ:St} {Γ Γ' Γ1 Γ2 Γ3:List Md} {ρ:List PV} {F F':Nat→List Addr} {R:List Addr} {k:Kd} {x:PV} {v:V} {te tb tc:TE} {ta:TA} {f fb fc fe:List PV→Rr PV} {fa:List PV→Rr (List PV)}
theorem Ag.outF (A:Ag K B H0 H σ Γ ρ F R) {i:Nat} (h:Γ.length≤i):F i=[]:=by
  have:=A.slot i
  rw [List.getD_eq_getElem?_getD,List.getElem?_eq_none h] at this
  exact this
theorem Ag.push (A:Ag K B H0 H σ Γ ρ F R) (h:Rep K H (NO B F R) x v):Ag K B H0 H (σ ++ [some v]) (Γ ++ [.S]) (ρ ++ [x]) F R:=by
  refine ⟨A.same,A.own,A.young,A.youngR,A.live,A.liveR,A.disj,A.disjR,by simp [A.lenS],by simp [A.lenR],fun i=>?_⟩
  by_cases h1:i < Γ.length
  · have:=A.slot i
    rw [List.getD_eq_getElem?_getD,List.getD_eq_getElem?_getD,List.getElem?_append_left h1,List.getElem?_append_left (by rw [A.lenR]; exact h1),List.getElem?_append_left (by rw [A.lenS]; exact h1),← List.getD_eq_getElem?_getD,← List.getD_eq_getElem?_getD]
    exact this
  · by_cases h2:i=Γ.length
    · subst h2
      rw [List.getD_eq_getElem?_getD,List.getD_eq_getElem?_getD,List.getElem?_append_right (Nat.le_refl _),List.getElem?_append_right (by rw [A.lenR]; exact Nat.le_refl _),List.getElem?_append_right (by rw [A.lenS]; exact Nat.le_refl _),A.lenR,A.lenS]
      simp only [Nat.sub_self,List.getElem?_cons_zero,Option.getD_some]
      exact ⟨A.outF (Nat.le_refl _),v,rfl,h⟩
    · rw [List.getD_eq_getElem?_getD,List.getElem?_eq_none (by simp; omega)]
      exact A.outF (by omega)
theorem Ag.pop {o:Option V} (A:Ag K B H0 H (σ ++ [o]) (Γ ++ [.S]) (ρ ++ [x]) F R):Ag K B H0 H σ Γ ρ F R:=by
  have l1:σ.length=Γ.length:=by have:=A.lenS; simpa using this
  have l2:ρ.length=Γ.length:=by have:=A.lenR; simpa using this
  refine ⟨A.same,A.own,A.young,A.youngR,A.live,A.liveR,A.disj,A.disjR,l1,l2,fun i=>?_⟩
  have:=A.slot i
  by_cases h1:i < Γ.length
  · rw [List.getD_eq_getElem?_getD,List.getD_eq_getElem?_getD,List.getElem?_append_left h1,List.getElem?_append_left (by rw [l2]; exact h1),List.getElem?_append_left (by rw [l1]; exact h1),← List.getD_eq_getElem?_getD,← List.getD_eq_getElem?_getD] at this
    exact this
  · rw [List.getD_eq_getElem?_getD,List.getElem?_eq_none (by omega)]
    by_cases h2:i=Γ.length
    · subst h2
      rw [List.getD_eq_getElem?_getD,List.getElem?_append_right (Nat.le_refl _)] at this
      simp only [Nat.sub_self,List.getElem?_cons_zero,Option.getD_some] at this
      exact this.1
    · exact A.outF (by simp; omega)
theorem de_compF {wi:TI} {fi:List PV→Rr (List PV)} (hi:DIc K EX Γ Γ1 wi fi) (he:DE K EX (Γ1 ++ [.S]) (Γ1 ++ [.S]) .F te fe) :
    DE K EX Γ Γ1 .F (tComp wi te) (fun ρ=>(fi ρ).bind fun xs=>(lenM xs).bind fun _=>(mapR (fun x=>fe (ρ ++ [x])) xs).bind fun ys=>.ok (.lst ys)):=fun B H0 H σ ρ F R Q A d=>by
  refine hi B H0 H σ ρ F R _ A (d.bind.imp (fun xs _ d J H1 F1 s1 f1 A1 it=>?_) fun e q=>q)
  obtain ⟨hlen,d⟩:=Dn.lenM d.bind
  refine ⟨fun i m ys H2=>∃ zs G F2,m=xs.length - i∧i≤xs.length∧ys.length=i∧Same H1 H2∧Trees K H2 zs ys G∧(∀ a∈G,a ∉ R∧(H1 a=none ∨ ∃ j,a∈F1 j))∧(∀ i,∀ a∈F2 i,a∈F1 i)∧Ag K B H0 H2 σ Γ1 ρ F2 (G ++ R) ∧
    Dn ((mapR (fun x=>fe (ρ ++ [x])) (xs.drop i)).bind fun ys'=>.ok (.lst (zs ++ ys'))) (fun x=>∀ v H',Same H H'→Res K B H0 H σ Γ1 ρ F R .F x v H'→Q v H') (fun e=>∀ H',Same H0 H'→EX e H'),
    ⟨xs.length,[],[],F1,by simp,Nat.zero_le _,rfl,Same.refl _,⟨rfl,rfl⟩,by simp,fun _ _ h=>h,A1,by simpa using d⟩, ?_⟩
  rintro i m ys H2 ⟨zs,G,F2,rfl,hi',hl,s2,tr,o2,f2,A2,dn⟩
  refine ⟨line_mil (by omega), ?_⟩
  have itp:=it H2 F2 s2 f2 i
  cases hx:xs[i]? with
  | none =>
    refine .inl ⟨itp.2 hx,fun p hp=>?_⟩
    have hd:xs.drop i=[]:=List.drop_eq_nil_of_le (List.getElem?_eq_none_iff.mp hx)
    rw [hd] at dn
    have dn':∀ v H',Same H H'→Res K B H0 H σ Γ1 ρ F R .F (.lst (zs ++ [])) v H'→Q v H':=dn
    rw [List.append_nil] at dn'
    exact dn' _ _ ((s1.trans s2).trans (Same.new hp)) (Res.newF (s1.trans s2) (fun i a h=>f1 i a (f2 i a h)) tr (fun a ha=>⟨(o2 a ha).1,(o2 a ha).2.elim (fun z=>.inl (s1.free z)) fun ⟨j,z⟩=>.inr ⟨j,f1 j a z⟩⟩) A2 hp)
  | some x =>
    have hlt:i < xs.length:=(List.getElem?_eq_some_iff.mp hx).1
    obtain ⟨go,yl⟩:=itp.1 x hx
    have hdx:xs.drop i=x :: xs.drop (i + 1):=by
      rw [List.drop_eq_getElem_cons hlt]
      rw [List.getElem?_eq_getElem hlt] at hx; cases hx; rfl
    rw [hdx] at dn
    simp only [mapR,Rr.assoc] at dn
    refine .inr ⟨go,fun ys' H'=>∃ zs G F2,ys'.length=i + 1∧Same H1 H'∧Trees K H' zs ys' G∧(∀ a∈G,a ∉ R∧(H1 a=none ∨ ∃ j,a∈F1 j))∧(∀ i,∀ a∈F2 i,a∈F1 i)∧Ag K B H0 H' σ Γ1 ρ F2 (G ++ R) ∧
      Dn ((mapR (fun x=>fe (ρ ++ [x])) (xs.drop (i + 1))).bind fun ys'=>.ok (.lst (zs ++ ys'))) (fun x=>∀ v H',Same H H'→Res K B H0 H σ Γ1 ρ F R .F x v H'→Q v H') (fun e=>∀ H',Same H0 H'→EX e H'),
      fun ys' H' ⟨zs,G,F2,a1,a2,a3,a4,a5,a6,a7⟩=>⟨xs.length - (i + 1),by omega,zs,G,F2,rfl,hlt,a1,a2,a3,a4,a5,a6,a7⟩,fun v H3 y=>?_⟩
    obtain ⟨s3,rx⟩:=yl v H3 y
    have A3:=(A2.grow s3).push (x:=x) (v:=v) (Rep.mono (fun a us s r=>⟨r,s.1.1,fun z=>by
      rcases List.mem_append.mp z with z | z
      · rcases (o2 a z).2 with q | ⟨j,q⟩
        · exact s.2.1 q
        · exact s.2.2 j q
      · exact s.1.2.1 z,s.1.2.2⟩) (fun a us r=>r) rx)
    refine he B H0 H3 _ _ F2 (G ++ R) _ A3 (dn.bind.imp (fun z _ dn w H4 s4 r4=>?_) fun e q=>q)
    obtain ⟨F4,f4,G4,t4,o4,A4⟩:=r4
    refine ⟨zs ++ [z],G ++ G4,F4,by simp [hl],(s2.trans s3).trans s4,Trees.append ((tr.same s3).same s4) (Trees.one t4) (fun a ha z=>(o4 a z).1 (List.mem_append_left _ ha)),fun a ha=>?_,fun i a h=>f2 i a (f4 i a h),A4.pop.less fun a ha=>?_, ?_⟩
    · rcases List.mem_append.mp ha with z | z
      · exact o2 a z
      · refine ⟨fun q=>(o4 a z).1 (List.mem_append_right _ q), ?_⟩
        rcases (o4 a z).2 with q | ⟨j,q⟩
        · exact .inl ((s2.trans s3).free q)
        · exact .inr ⟨j,f2 j a q⟩
    · simp only [List.mem_append] at ha ⊢
      rcases ha with (z | z) | z
      · exact .inr (.inl z)
      · exact .inl z
      · exact .inr (.inr z)
    · simp only [Rr.assoc,Rr.bind_ok,List.append_assoc,List.singleton_append] at dn ⊢
      exact dn
end
end L2
namespace L2
open PySem PySem.Spec PyProof.Rows
inductive RS where
  | next (ρ:List PV) | ret (x:PV) | brk (ρ:List PV) | cont (ρ:List PV) | exc (e:PX) | bad
noncomputable def Rr.thenS {α:Type}:Rr α→(α→RS)→RS
  | .ok a,f=>f a
  | .exc e,_=>.exc e
  | .bad,_=>.bad
noncomputable def RS.seq:RS→(List PV→RS)→RS
  | .next ρ,f=>f ρ
  | r,_=>r
@[simp] theorem Rr.thenS_ok {α:Type} {a:α} {f:α→RS}:(Rr.ok a).thenS f=f a:=rfl
@[simp] theorem Rr.thenS_exc {α:Type} {e:PX} {f:α→RS}:(Rr.exc e:Rr α).thenS f=.exc e:=rfl
@[simp] theorem RS.seq_next {ρ:List PV} {f:List PV→RS}:(RS.next ρ).seq f=f ρ:=rfl
@[simp] theorem RS.seq_ret {x:PV} {f:List PV→RS}:(RS.ret x).seq f=.ret x:=rfl
@[simp] theorem RS.seq_exc {e:PX} {f:List PV→RS}:(RS.exc e).seq f=.exc e:=rfl
structure Tys where
  n:List Md
  b:List Md
  c:List Md
  r:Kd
noncomputable def DnS (K:PySem.W.Frag) (B:Addr→Prop) (EX:PX→Hp→Prop) (Y:Tys) (H0 H:Hp) (F:Nat→List Addr) (D:Ends) (r:RS):Prop:=match r with
  | .next ρ=>∀ σ' H' F',Frm H F H' F'→Ag K B H0 H' σ' Y.n ρ F' []→D.nx σ' H'
  | .brk ρ=>∀ σ' H' F',Frm H F H' F'→Ag K B H0 H' σ' Y.b ρ F' []→D.bk σ' H'
  | .cont ρ=>∀ σ' H' F',Frm H F H' F'→Ag K B H0 H' σ' Y.c ρ F' []→D.ct σ' H'
  | .ret x=>∀ v H',Same H0 H'→RetK K B H0 Y.r x v H'→D.rt v H'
  | .exc e=>∀ H',Same H0 H'→EX e H'
  | .bad=>False
noncomputable def DS (K:PySem.W.Frag) (EX:PX→Hp→Prop) (Γ:List Md) (Y:Tys) (t:TS) (g:List PV→RS):Prop :=
  ∀ (B:Addr→Prop) (H0 H:Hp) (σ:St) (ρ:List PV) (F:Nat→List Addr) (D:Ends),Ag K B H0 H σ Γ ρ F []→DnS K B EX Y H0 H F D (g ρ)→t D σ H
section
variable {K:PySem.W.Frag} {B:Addr→Prop} {EX:PX→Hp→Prop} {H0 H H':Hp} {σ:St} {Γ Γ' Γ1 Γ2 Γ3:List Md} {ρ:List PV} {F F':Nat→List Addr} {R:List Addr} {k:Kd} {x:PV} {v:V} {te tb tc:TE} {ta:TA} {f fb fc fe:List PV→Rr PV} {fa:List PV→Rr (List PV)}
  {t u:TS} {g g':List PV→RS} {Y:Tys} {D:Ends}
theorem DnS.shift {H1:Hp} {F1:Nat→List Addr} {r:RS} (fr:Frm H F H1 F1) (h:DnS K B EX Y H0 H F D r):DnS K B EX Y H0 H1 F1 D r:=by
  cases r with
  | next ρ=>exact fun σ' H' F' fr' A=>h σ' H' F' (fr.trans fr') A
  | brk ρ=>exact fun σ' H' F' fr' A=>h σ' H' F' (fr.trans fr') A
  | cont ρ=>exact fun σ' H' F' fr' A=>h σ' H' F' (fr.trans fr') A
  | ret x=>exact h
  | exc e=>exact h
  | bad=>exact h
theorem DnS.thenS {α:Type} {r:Rr α} {f:α→RS} (h:DnS K B EX Y H0 H F D (r.thenS f)):Dn r (fun a=>DnS K B EX Y H0 H F D (f a)) (fun e=>∀ H',Same H0 H'→EX e H'):=by
  cases r with
  | ok a=>exact h
  | exc e=>exact h
  | bad=>exact h
theorem ds_next:DS K EX Γ ⟨Γ,Γ1,Γ2,k⟩ tNext (fun ρ=>.next ρ):=fun B H0 H σ ρ F D A d=>d σ H F Frm.refl A
theorem ds_seq {Γm:List Md} (h1:DS K EX Γ ⟨Γm,Y.b,Y.c,Y.r⟩ t g) (h2:DS K EX Γm Y u g'):DS K EX Γ Y (tSeq t u) (fun ρ=>(g ρ).seq g'):=fun B H0 H σ ρ F D A d=>by
  refine h1 B H0 H σ ρ F _ A ?_
  dsimp only at d
  cases e:g ρ with
  | next ρ1 =>
    rw [e] at d
    exact fun σ' H' F' fr A'=>h2 B H0 H' σ' ρ1 F' D A' (DnS.shift fr d)
  | brk ρ1=>rw [e] at d; exact d
  | cont ρ1=>rw [e] at d; exact d
  | ret x=>rw [e] at d; exact d
  | exc q=>rw [e] at d; exact d
  | bad=>rw [e] at d; exact d
noncomputable def mle (m m':Md):Bool:=m == m' || m' == .U || (m' == .S && m != .U) || (m' == .O && m == .P)
noncomputable def mles:List Md→List Md→Bool
  | [],[]=>true
  | m :: ms,m' :: ms'=>mle m m' && mles ms ms'
  | _,_=>false
theorem mles_get:∀ {Γ Γ':List Md},mles Γ Γ'=true→Γ.length=Γ'.length∧∀ i,mle (Γ.getD i .U) (Γ'.getD i .U)=true
  | [],[],_=>⟨rfl,fun i=>by simp [mle]⟩
  | m :: ms,m' :: ms',h=>by
    simp only [mles,Bool.and_eq_true] at h
    obtain ⟨h1,h2⟩:=mles_get h.2
    refine ⟨by simp [h1],fun i=>?_⟩
    cases i with
    | zero=>simpa using h.1
    | succ i=>simpa using h2 i
  | [],_ :: _,h=>by cases h
  | _ :: _,[],h=>by cases h
theorem Ag.weak (A:Ag K B H0 H σ Γ ρ F R) (h:mles Γ Γ'=true):∃ F',(∀ i,∀ a∈F' i,a∈F i)∧Ag K B H0 H σ Γ' ρ F' R:=by
  obtain ⟨hl,hm⟩:=mles_get h
  let F':Nat→List Addr:=fun i=>if Γ.getD i .U=Γ'.getD i .U then F i else []
  have hF:∀ i,∀ a∈F' i,a∈F i:=fun i a ha=>by
    by_cases q:Γ.getD i .U=Γ'.getD i .U
    · simp only [F',if_pos q] at ha; exact ha
    · simp only [F',if_neg q] at ha; simp at ha
  have up:∀ {a},NO B F R a→NO B F' R a:=fun {a} s=>⟨s.1,s.2.1,fun j z=>s.2.2 j (hF j a z)⟩
  refine ⟨F',hF,A.same,A.own,fun i a ha=>A.young i a (hF i a ha),A.youngR,fun i a ha=>A.live i a (hF i a ha),A.liveR,fun i j hij a ha z=>A.disj i j hij a (hF i a ha) (hF j a z),fun i a ha=>A.disjR i a (hF i a ha),by rw [A.lenS,hl],by rw [A.lenR,hl],fun i=>?_⟩
  have sl:=A.slot i
  have hmi:=hm i
  by_cases q:Γ.getD i .U=Γ'.getD i .U
  · simp only [F',if_pos q]
    rw [← q]
    exact sl.mono (fun a vs s r=>⟨r,up s⟩) (fun a vs r=>r) fun a ha vs r=>r
  · simp only [F',if_neg q]
    simp only [mle,Bool.or_eq_true,beq_iff_eq,Bool.and_eq_true,bne_iff_ne] at hmi
    rcases hmi with ((z | z) | z) | z
    · exact absurd z q
    · rw [z]; exact rfl
    rotate_left
    · rw [z.1]
      rw [z.2] at sl
      obtain ⟨e,v,h1,h2,h3⟩:=sl
      exact ⟨v,h1,h3.tree h2⟩
    · rw [z.1]
      have own:∀ a∈F i,NO B F' R a:=fun a ha=>⟨A.own a (A.young i a ha),A.disjR i a ha,fun j w=>by
        by_cases hj:j=i
        · subst hj; simp only [F',if_neg q] at w; simp at w
        · exact A.disj j i hj a (hF j a w) ha⟩
      cases hmm:Γ.getD i .U with
      | U=>exact absurd hmm z.2
      | P=>rw [hmm] at sl; obtain ⟨e,v,h1,h2,h3⟩:=sl; exact ⟨rfl,v,h1,h3.flatS h2⟩
      | S=>rw [hmm] at sl; obtain ⟨e,v,h1,h2⟩:=sl; exact ⟨rfl,v,h1,Rep.mono (fun a vs s r=>⟨r,up s⟩) (fun a vs r=>r) h2⟩
      | T =>
        rw [hmm] at sl
        obtain ⟨a,vs,xs,h1,h2,h3,h4,h5⟩:=sl
        refine ⟨rfl,_,h1, ?_⟩
        rw [h2]
        exact ⟨a,vs,rfl,.inl ⟨.inl h3,own a (by rw [h5]; simp)⟩,Reps.mono (fun a vs s r=>⟨r,up s⟩) (fun a vs r=>r) h4⟩
      | O=>rw [hmm] at sl; obtain ⟨v,h1,h2⟩:=sl; exact ⟨rfl,v,h1,h2.rep own⟩
theorem DS.out {Y':Tys} (h:DS K EX Γ Y t g) (hn:mles Y.n Y'.n=true) (hb:mles Y.b Y'.b=true) (hc:mles Y.c Y'.c=true) (hr:Y.r=Y'.r):DS K EX Γ Y' t g:=fun B H0 H σ ρ F D A d=>by
  refine h B H0 H σ ρ F D A ?_
  cases e:g ρ with
  | next ρ1=>rw [e] at d; exact fun σ' H' F' fr A'=>let ⟨F2,f2,A2⟩:=A'.weak hn; d σ' H' F2 (fr.trans (Frm.of (Same.refl _) f2)) A2
  | brk ρ1=>rw [e] at d; exact fun σ' H' F' fr A'=>let ⟨F2,f2,A2⟩:=A'.weak hb; d σ' H' F2 (fr.trans (Frm.of (Same.refl _) f2)) A2
  | cont ρ1=>rw [e] at d; exact fun σ' H' F' fr A'=>let ⟨F2,f2,A2⟩:=A'.weak hc; d σ' H' F2 (fr.trans (Frm.of (Same.refl _) f2)) A2
  | ret x=>rw [e] at d; exact fun v H' s r=>d v H' s (hr ▸ r)
  | exc q=>rw [e] at d; exact d
  | bad=>rw [e] at d; exact d
theorem frm_put {H1:Hp} {F1:Nat→List Addr} {i:Nat} {G:List Addr} (s1:Same H H1) (f1:∀ i,∀ a∈F1 i,a∈F i) (o:∀ a∈G,H a=none ∨ ∃ i,a∈F i):Frm H F H1 (own1 F1 i G):=fun a u h n=>by
  refine ⟨s1 a u h,fun j z=>?_⟩
  by_cases q:j=i
  · subst q
    rw [own1_same] at z
    rcases o a z with w | ⟨l,w⟩
    · rw [h] at w; cases w
    · exact n l w
  · rw [own1_ne q] at z; exact n j (f1 j a z)
theorem ds_setP {i:Nat} (he:DE K EX Γ Γ' .P te f) (hi:i < Γ'.length):DS K EX Γ ⟨Γ'.set i .P,Γ1,Γ2,k⟩ (tAsg te (gName i)) (fun ρ=>(f ρ).thenS fun x=>.next (ρ.set i x)):=fun B H0 H σ ρ F D A d=>by
  refine he B H0 H σ ρ F [] _ A (d.thenS.imp (fun x _ d v H1 s1 r1=>?_) fun e q=>q)
  obtain ⟨F1,f1,h1,h2,A1⟩:=r1
  exact d _ H1 _ (frm_put (G:=[]) s1 f1 (by simp)) (Ag.put (G:=[]) (R:=[]) A1 hi (by simp) ⟨rfl,v,rfl,h1,h2⟩)
theorem ds_setF {i:Nat} (he:DE K EX Γ Γ' .F te f) (hi:i < Γ'.length):DS K EX Γ ⟨Γ'.set i .O,Γ1,Γ2,k⟩ (tAsg te (gName i)) (fun ρ=>(f ρ).thenS fun x=>.next (ρ.set i x)):=fun B H0 H σ ρ F D A d=>by
  refine he B H0 H σ ρ F [] _ A (d.thenS.imp (fun x _ d v H1 s1 r1=>?_) fun e q=>q)
  obtain ⟨F1,f1,G,h1,h2,A1⟩:=r1
  exact d _ H1 _ (frm_put s1 f1 fun a ha=>(h2 a ha).2) (Ag.put (R:=[]) A1 hi (by simp) ⟨v,rfl,h1⟩)
theorem ds_expr (he:DE K EX Γ Γ' .A te f):DS K EX Γ ⟨Γ',Γ1,Γ2,k⟩ (tDrop te) (fun ρ=>(f ρ).thenS fun _=>.next ρ):=fun B H0 H σ ρ F D A d=>by
  refine he B H0 H σ ρ F [] _ A (d.thenS.imp (fun x _ d v H1 s1 r1=>?_) fun e q=>q)
  obtain ⟨F1,f1,h1,A1⟩:=r1
  exact d σ H1 F1 (Frm.of s1 f1) A1
theorem ds_retP (he:DE K EX Γ Γ' .P te f):DS K EX Γ ⟨Γ3,Γ1,Γ2,.P⟩ (tRet te) (fun ρ=>(f ρ).thenS fun x=>.ret x):=fun B H0 H σ ρ F D A d=>by
  refine he B H0 H σ ρ F [] _ A (d.thenS.imp (fun x _ d v H1 s1 r1=>?_) fun e q=>q)
  obtain ⟨F1,f1,h1,h2,A1⟩:=r1
  exact d v H1 A1.same ⟨h1,h2⟩
theorem ds_retF (he:DE K EX Γ Γ' .F te f):DS K EX Γ ⟨Γ3,Γ1,Γ2,.F⟩ (tRet te) (fun ρ=>(f ρ).thenS fun x=>.ret x):=fun B H0 H σ ρ F D A d=>by
  refine he B H0 H σ ρ F [] _ A (d.thenS.imp (fun x _ d v H1 s1 r1=>?_) fun e q=>q)
  obtain ⟨F1,f1,G,h1,h2,A1⟩:=r1
  exact d v H1 A1.same ⟨G,h1,fun a ha=>A1.youngR a (by simpa using ha)⟩
theorem ds_if {c:TT} {fc:List PV→Rr Bool} (hc:DT K EX Γ Γ' c fc) (h1:DS K EX Γ' Y t g) (h2:DS K EX Γ' Y u g'):DS K EX Γ Y (tIfS c t u) (fun ρ=>(fc ρ).thenS fun b=>if b=true then g ρ else g' ρ):=fun B H0 H σ ρ F D A d=>by
  refine hc B H0 H σ ρ F [] _ A (d.thenS.imp (fun b _ d H1 F1 s1 f1 A1=>?_) fun e q=>q)
  cases b with
  | true=>exact h1 B H0 H1 σ ρ F1 D A1 (DnS.shift (Frm.of s1 f1) d)
  | false=>exact h2 B H0 H1 σ ρ F1 D A1 (DnS.shift (Frm.of s1 f1) d)
end
end L2
namespace L2
open PySem PySem.Spec PyProof.Rows
section
variable {K:PySem.W.Frag} {B:Addr→Prop} {EX:PX→Hp→Prop} {H0 H H':Hp} {σ:St} {Γ Γ' Γ1 Γ2 Γ3 Γl Γt:List Md} {ρ:List PV} {F F':Nat→List Addr} {R:List Addr} {k:Kd} {x:PV} {v:V} {te ti tb tc:TE} {ta:TA} {f fi fb fc fe:List PV→Rr PV} {fa:List PV→Rr (List PV)}
  {t u:TS} {g g':List PV→RS} {Y:Tys} {D:Ends}
theorem Ag.chgB {i:Nat} {m:Md} {a:Addr} {o':HO} (ho:Lvo o') {x':PV} {G G':List Addr} (A:Ag K B H0 H σ Γ ρ F (G ++ R)) (hm:Γ[i]?=some m) (ha:a∈F i) (hG:∀ b∈G',b∈F i ∨ b∈G) (hGR:∀ b∈G,b ∉ R)
    (hs:SlotOk K (upd H a o') (NO B (own1 F i G') R) m x' σ[i]? G'):Ag K B H0 (upd H a o') σ Γ (ρ.set i x') (own1 F i G') R:=by
  obtain ⟨us,hH⟩:=A.live i a ha
  have hi:=A.lt hm
  have liveU:∀ b,(∃ us:LvO,H b=some us.1)→∃ us:LvO,upd H a o' b=some us.1:=fun b ⟨us,q⟩=>by
    by_cases e:b=a
    · exact ⟨⟨o',ho⟩,by rw [e,upd_same]⟩
    · exact ⟨us,by rw [upd_ne e]; exact q⟩
  refine ⟨A.same.upd (A.young i a ha),A.own,fun j b hb=>?_,fun b hb=>A.youngR b (List.mem_append_right _ hb),fun j b hb=>liveU b ?_,fun b hb=>liveU b (A.liveR b (List.mem_append_right _ hb)),fun j l hjl b hb z=>?_,fun j b hb z=>?_,A.lenS,by simp [A.lenR],fun j=>?_⟩
  · by_cases q:j=i
    · subst q; rw [own1_same] at hb
      rcases hG b hb with z | z
      · exact A.young j b z
      · exact A.youngR b (List.mem_append_left _ z)
    · rw [own1_ne q] at hb; exact A.young j b hb
  · by_cases q:j=i
    · subst q; rw [own1_same] at hb
      rcases hG b hb with z | z
      · exact A.live j b z
      · exact A.liveR b (List.mem_append_left _ z)
    · rw [own1_ne q] at hb; exact A.live j b hb
  · by_cases q:j=i
    · subst q
      rw [own1_same] at hb
      rw [own1_ne (Ne.symm hjl)] at z
      rcases hG b hb with w | w
      · exact A.disj j l hjl b w z
      · exact A.disjR l b z (List.mem_append_left _ w)
    · rw [own1_ne q] at hb
      by_cases q':l=i
      · subst q'
        rw [own1_same] at z
        rcases hG b z with w | w
        · exact A.disj j l hjl b hb w
        · exact A.disjR j b hb (List.mem_append_left _ w)
      · rw [own1_ne q'] at z; exact A.disj j l hjl b hb z
  · by_cases q:j=i
    · subst q; rw [own1_same] at hb
      rcases hG b hb with w | w
      · exact A.disjR j b w (List.mem_append_right _ z)
      · exact hGR b w z
    · rw [own1_ne q] at hb; exact A.disjR j b hb (List.mem_append_right _ z)
  · by_cases q:j=i
    · subst q
      rw [own1_same,List.getD_eq_getElem?_getD,List.getD_eq_getElem?_getD,hm,List.getElem?_set_self (by rw [A.lenR]; exact hi)]
      exact hs
    · rw [own1_ne q,List.getD_eq_getElem?_getD (l:=ρ.set _ _),List.getElem?_set_ne (Ne.symm q),← List.getD_eq_getElem?_getD]
      refine (A.slot j).mono (fun b us s r=>?_) (fun b us r=>Im.putL hH r) fun b hb us r=>?_
      · have hne:b≠a:=fun z=>s.2.2 i (z ▸ ha)
        refine ⟨?_,s.1,fun z=>s.2.1 (List.mem_append_right _ z),fun l z=>?_⟩
        · rcases r with r | ⟨o,r⟩
          · exact .inl (by rw [upd_ne hne]; exact r)
          · exact .inr ⟨o,by rw [upd_ne hne]; exact r⟩
        · by_cases q':l=i
          · subst q'; rw [own1_same] at z
            rcases hG b z with w | w
            · exact s.2.2 l w
            · exact s.2.1 (List.mem_append_left _ w)
          · rw [own1_ne q'] at z; exact s.2.2 l z
      · have hne:b≠a:=fun z=>A.disj j i q b hb (z ▸ ha)
        rw [upd_ne hne]; exact r
theorem Ag.chg {i:Nat} {m:Md} {a:Addr} {vs':List V} {x':PV} {G G':List Addr} (A:Ag K B H0 H σ Γ ρ F (G ++ R)) (hm:Γ[i]?=some m) (ha:a∈F i) (hG:∀ b∈G',b∈F i ∨ b∈G) (hGR:∀ b∈G,b ∉ R)
    (hs:SlotOk K (upd H a (.lst vs')) (NO B (own1 F i G') R) m x' σ[i]? G'):Ag K B H0 (upd H a (.lst vs')) σ Γ (ρ.set i x') (own1 F i G') R:=Ag.chgB (o':=.lst vs') trivial A hm ha hG hGR hs
theorem frm_chg {H1:Hp} {F1:Nat→List Addr} {i:Nat} {a:Addr} {o:HO} {G':List Addr} (s1:Same H H1) (f1:∀ i,∀ b∈F1 i,b∈F i) (ha:a∈F1 i) (hG:∀ b∈G',H b=none ∨ ∃ j,b∈F j):Frm H F (upd H1 a o) (own1 F1 i G'):=fun b u h n=>by
  have hne:b≠a:=fun z=>n i (f1 i b (z ▸ ha))
  refine ⟨by rw [upd_ne hne]; exact s1 b u h,fun j z=>?_⟩
  by_cases q:j=i
  · subst q; rw [own1_same] at z
    rcases hG b z with w | ⟨l,w⟩
    · rw [h] at w; cases w
    · exact n l w
  · rw [own1_ne q] at z; exact n j (f1 j b z)
theorem Dn.asL {x:PV} {ok:List PV→Prop} {ex:PX→Prop} (d:Dn (asL x) ok ex):∃ xs,x=.lst xs∧ok xs:=by
  cases x with
  | lst xs=>exact ⟨xs,rfl,d⟩
  | _=>exact d.elim
noncomputable def DG (K:PySem.W.Frag) (EX:PX→Hp→Prop) (Γ Γ':List Md) (g:TG) (h:PV→List PV→Rr (List PV)):Prop :=
  ∀ (B:Addr→Prop) (H0 H:Hp) (σ:St) (ρ:List PV) (F:Nat→List Addr) (v:V) (x:PV) (N:St→Hp→Prop),Ag K B H0 H σ Γ ρ F []→Rep K H (NO B F []) x v →
    Dn (h x ρ) (fun ρ'=>∀ σ' F',(∀ i,∀ a∈F' i,a∈F i)→Ag K B H0 H σ' Γ' ρ' F' []→N σ' H) (fun e=>∀ H',Same H0 H'→EX e H')→g v σ H N
theorem dg_S {i:Nat} (hi:i < Γ.length):DG K EX Γ (Γ.set i .S) (gName i) (fun x ρ=>.ok (ρ.set i x)):=fun B H0 H σ ρ F v x N A r d =>
  d _ (own1 F i []) own1_sub (Ag.put (G:=[]) (R:=[]) A hi (by simp) ⟨rfl,v,rfl,Rep.mono (fun a us s r=>⟨r,s.1,s.2.1,fun j z=>s.2.2 j (own1_sub j a z)⟩) (fun a us r=>r) r⟩)
theorem dg_P {i:Nat} (hi:i < Γ.length):DG K EX Γ (Γ.set i .P) (gName i) (fun x ρ=>(grd x).bind fun x=>.ok (ρ.set i x)):=fun B H0 H σ ρ F v x N A r d=>by
  unfold grd at d; dsimp only at d
  by_cases h:x.flat=true
  · rw [if_pos h] at d
    exact d _ (own1 F i []) own1_sub (Ag.put (G:=[]) (R:=[]) A hi (by simp) ⟨rfl,v,rfl,h,r.any⟩)
  · rw [if_neg h] at d; exact d.elim
end
end L2
namespace L2
open PySem PySem.Spec PyProof.Rows
noncomputable def RS.turn:RS→(List PV→RS)→RS
  | .next ρ,f=>f ρ
  | .cont ρ,f=>f ρ
  | .brk ρ,_=>.next ρ
  | r,_=>r
noncomputable def forR (b:PV→List PV→RS):List PV→List PV→RS
  | [],ρ=>.next ρ
  | x :: xs,ρ=>(b x ρ).turn (forR b xs)
noncomputable def iterW (c:List PV→Rr Bool) (b:List PV→RS):Nat→List PV→Option RS
  | 0,_=>none
  | n + 1,ρ=>match c ρ with
    | .ok true=>match b ρ with
      | .next ρ'=>iterW c b n ρ'
      | .cont ρ'=>iterW c b n ρ'
      | .brk ρ'=>some (.next ρ')
      | r=>some r
    | .ok false=>some (.next ρ)
    | .exc e=>some (.exc e)
    | .bad=>some .bad
open Classical in
noncomputable def whileR (c:List PV→Rr Bool) (b:List PV→RS) (ρ:List PV):RS:=if h:∃ n r,iterW c b n ρ=some r then h.choose_spec.choose else .bad
theorem iterW_more {c:List PV→Rr Bool} {b:List PV→RS}:∀ {n m:Nat} {ρ:List PV} {r:RS},n≤m→iterW c b n ρ=some r→iterW c b m ρ=some r
  | 0,_,_,_,_,h=>by cases h
  | n + 1,0,_,_,hl,_=>by omega
  | n + 1,m + 1,ρ,r,hl,h=>by
    unfold iterW at h ⊢
    cases hc:c ρ with
    | ok b' =>
      cases b' with
      | true =>
        rw [hc] at h
        cases hb:b ρ with
        | next ρ'=>rw [hb] at h; exact iterW_more (by omega) h
        | cont ρ'=>rw [hb] at h; exact iterW_more (by omega) h
        | brk ρ'=>rw [hb] at h; exact h
        | ret x=>rw [hb] at h; exact h
        | exc e=>rw [hb] at h; exact h
        | bad=>rw [hb] at h; exact h
      | false=>rw [hc] at h; exact h
    | exc e=>rw [hc] at h; exact h
    | bad=>rw [hc] at h; exact h
theorem iterW_det {c:List PV→Rr Bool} {b:List PV→RS} {n m:Nat} {ρ:List PV} {r r':RS} (h:iterW c b n ρ=some r) (h':iterW c b m ρ=some r'):r=r':=by
  rcases Nat.le_total n m with q | q
  · have:=iterW_more q h; rw [h'] at this; exact (Option.some.inj this).symm
  · have:=iterW_more q h'; rw [h] at this; exact Option.some.inj this
theorem whileR_eq {c:List PV→Rr Bool} {b:List PV→RS} {n:Nat} {ρ:List PV} {r:RS} (h:iterW c b n ρ=some r):whileR c b ρ=r:=by
  unfold whileR
  have hx:∃ n r,iterW c b n ρ=some r:=⟨n,r,h⟩
  rw [dif_pos hx]
  exact iterW_det hx.choose_spec.choose_spec h
section
variable {K:PySem.W.Frag} {B:Addr→Prop} {EX:PX→Hp→Prop} {H0 H H':Hp} {σ:St} {Γ Γ' Γ1 Γ2 Γ3 Γl Γt:List Md} {ρ:List PV} {F F':Nat→List Addr} {R:List Addr} {k:Kd} {x:PV} {v:V} {te ti tb tc:TE} {ta:TA} {f fb fc fe:List PV→Rr PV} {fa:List PV→Rr (List PV)}
  {t u:TS} {g g':List PV→RS} {Y:Tys} {D:Ends}
theorem ds_for {wi:TI} {gt:TG} {fi:List PV→Rr (List PV)} {h:PV→List PV→Rr (List PV)} (hi:DI K EX Γ Γ1 wi fi) (hw:mles Γ1 Γl=true) (hg:DG K EX Γl Γt gt h) (hb:DS K EX Γt ⟨Γl,Γl,Γl,k⟩ t g) :
    DS K EX Γ ⟨Γl,Γ2,Γ3,k⟩ (tFor wi gt t) (fun ρ=>(fi ρ).thenS fun xs=>forR (fun x ρ=>(h x ρ).thenS g) xs ρ):=fun B H0 H σ ρ F D A d=>by
  refine hi B H0 H σ ρ F [] _ A (d.thenS.imp (fun xs _ d J H1 F1 s1 f1 A1 it=>?_) fun e q=>q)
  obtain ⟨Fl,fl,Al⟩:=A1.weak hw
  have fr0:Frm H F H1 Fl:=Frm.of s1 fun j a ha=>f1 j a (fl j a ha)
  have fr1:Frm H1 F1 H1 Fl:=Frm.of (Same.refl _) fl
  refine ⟨fun i m σ' H'=>∃ ρ' F',m=xs.length - i∧i≤xs.length∧Frm H1 F1 H' F'∧Ag K B H0 H' σ' Γl ρ' F' []∧DnS K B EX ⟨Γl,Γ2,Γ3,k⟩ H0 H' F' D (forR (fun x ρ=>(h x ρ).thenS g) (xs.drop i) ρ'),
    ⟨xs.length,ρ,Fl,by simp,Nat.zero_le _,fr1,Al,by simpa using DnS.shift fr0 d⟩, ?_⟩
  rintro i m σ' H' ⟨ρ',F',rfl,hi',fr,A',dn⟩
  have itp:=it H' F' fr i
  cases hx:xs[i]? with
  | none =>
    refine .inl ⟨itp.2 hx, ?_⟩
    have hd:xs.drop i=[]:=List.drop_eq_nil_of_le (List.getElem?_eq_none_iff.mp hx)
    rw [hd] at dn
    exact dn σ' H' F' Frm.refl A'
  | some x =>
    have hlt:i < xs.length:=(List.getElem?_eq_some_iff.mp hx).1
    obtain ⟨go,yl⟩:=itp.1 x hx
    have hdx:xs.drop i=x :: xs.drop (i + 1):=by
      rw [List.drop_eq_getElem_cons hlt]
      rw [List.getElem?_eq_getElem hlt] at hx; cases hx; rfl
    rw [hdx] at dn
    simp only [forR] at dn
    refine .inr ⟨go,fun σ2 H2=>∃ ρ2 F2,Frm H1 F1 H2 F2∧Ag K B H0 H2 σ2 Γl ρ2 F2 []∧DnS K B EX ⟨Γl,Γ2,Γ3,k⟩ H0 H2 F2 D (forR (fun x ρ=>(h x ρ).thenS g) (xs.drop (i + 1)) ρ2),
      fun σ2 H2 ⟨ρ2,F2,a1,a2,a3⟩=>⟨xs.length - (i + 1),by omega,ρ2,F2,rfl,hlt,a1,a2,a3⟩,fun v H3 y=>?_⟩
    obtain ⟨s3,rx⟩:=yl v H3 y
    have fr3:Frm H' F' H3 F':=Frm.of s3 fun _ _ h=>h
    refine hg B H0 H3 σ' ρ' F' v x _ (A'.grow s3) (Rep.mono (fun a us s r=>⟨r,s.1⟩) (fun a us r=>r) rx) ?_
    cases e:h x ρ' with
    | ok ρt =>
      rw [e] at dn
      refine fun σt Ft ft At=>hb B H0 H3 σt ρt Ft _ At ?_
      have frt:Frm H' F' H3 Ft:=Frm.of s3 ft
      simp only [Rr.thenS_ok] at dn
      cases e2:g ρt with
      | next ρ2=>rw [e2] at dn; exact fun σ2 H2 F2 fr2 A2=>⟨ρ2,F2,fr.trans (frt.trans fr2),A2,DnS.shift (frt.trans fr2) dn⟩
      | cont ρ2=>rw [e2] at dn; exact fun σ2 H2 F2 fr2 A2=>⟨ρ2,F2,fr.trans (frt.trans fr2),A2,DnS.shift (frt.trans fr2) dn⟩
      | brk ρ2=>rw [e2] at dn; exact fun σ2 H2 F2 fr2 A2=>dn σ2 H2 F2 (frt.trans fr2) A2
      | ret y=>rw [e2] at dn; exact dn
      | exc q=>rw [e2] at dn; exact dn
      | bad=>rw [e2] at dn; exact dn
    | exc q=>rw [e] at dn; exact dn
    | bad=>rw [e] at dn; exact dn
theorem ds_while {c:TT} {fc:List PV→Rr Bool} (hc:DT K EX Γ Γ c fc) (hb:DS K EX Γ ⟨Γ,Γ,Γ,k⟩ t g):DS K EX Γ ⟨Γ,Γ2,Γ3,k⟩ (tWhile c t) (fun ρ=>whileR fc g ρ):=fun B H0 H σ ρ F D A d=>by
  dsimp only at d
  have ex:∃ n,iterW fc g n ρ=some (whileR fc g ρ):=by
    by_cases hx:∃ n r,iterW fc g n ρ=some r
    · obtain ⟨n,r,e⟩:=hx
      exact ⟨n,by rw [whileR_eq e]; exact e⟩
    · unfold whileR at d
      rw [dif_neg hx] at d
      exact d.elim
  obtain ⟨n0,e0⟩:=ex
  generalize hr:whileR fc g ρ=r at e0 d
  refine ⟨fun m σ' H'=>∃ ρ' F',Frm H F H' F'∧Ag K B H0 H' σ' Γ ρ' F' []∧iterW fc g m ρ'=some r,⟨n0,ρ,F,Frm.refl,A,e0⟩, ?_⟩
  rintro m σ' H' ⟨ρ',F',fr,A',e⟩
  cases m with
  | zero=>cases e
  | succ m =>
    unfold iterW at e
    refine hc B H0 H' σ' ρ' F' [] _ A' ?_
    cases e1:fc ρ' with
    | ok b =>
      rw [e1] at e
      refine fun H2 F2 s2 f2 A2=>?_
      have fr2:Frm H' F' H2 F2:=Frm.of s2 f2
      cases b with
      | true =>
        refine ⟨fun σ3 H3=>∃ ρ3 F3,Frm H F H3 F3∧Ag K B H0 H3 σ3 Γ ρ3 F3 []∧iterW fc g m ρ3=some r,fun σ3 H3 h=>⟨m,Nat.lt_succ_self _,h⟩, ?_⟩
        refine hb B H0 H2 σ' ρ' F2 _ A2 ?_
        cases e2:g ρ' with
        | next ρ2=>rw [e2] at e; exact fun σ3 H3 F3 fr3 A3=>⟨ρ2,F3,fr.trans (fr2.trans fr3),A3,e⟩
        | cont ρ2=>rw [e2] at e; exact fun σ3 H3 F3 fr3 A3=>⟨ρ2,F3,fr.trans (fr2.trans fr3),A3,e⟩
        | brk ρ2 =>
          rw [e2] at e
          have e':RS.next ρ2=r:=Option.some.inj e
          rw [← e'] at d
          exact fun σ3 H3 F3 fr3 A3=>d σ3 H3 F3 (fr.trans (fr2.trans fr3)) A3
        | ret y =>
          rw [e2] at e
          have e':RS.ret y=r:=Option.some.inj e
          rw [← e'] at d
          exact d
        | exc q =>
          rw [e2] at e
          have e':RS.exc q=r:=Option.some.inj e
          rw [← e'] at d
          exact d
        | bad =>
          rw [e2] at e
          have e':RS.bad=r:=Option.some.inj e
          rw [← e'] at d
          exact d
      | false =>
        have e':RS.next ρ'=r:=Option.some.inj e
        rw [← e'] at d
        exact d σ' H2 F2 (fr.trans fr2) A2
    | exc q =>
      rw [e1] at e
      have e':RS.exc q=r:=Option.some.inj e
      rw [← e'] at d
      exact d
    | bad =>
      rw [e1] at e
      have e':RS.bad=r:=Option.some.inj e
      rw [← e'] at d
      exact d
end
end L2
namespace L2
open PySem PySem.Spec PyProof.Rows
noncomputable def RS.out:RS→Rr PV
  | .next _=>.ok .non
  | .ret x=>.ok x
  | .exc e=>.exc e
  | .brk _=>.bad
  | .cont _=>.bad
  | .bad=>.bad
@[simp] theorem RS.out_next {ρ:List PV}:(RS.next ρ).out=.ok .non:=rfl
@[simp] theorem RS.out_ret {x:PV}:(RS.ret x).out=.ok x:=rfl
@[simp] theorem RS.out_exc {e:PX}:(RS.exc e).out=.exc e:=rfl
noncomputable def Ref (r r':Rr PV):Prop:=r=.bad ∨ r=r'
structure Pm where
  α:Type
  enc:α→List PV
  pre:α→Prop
  out:α→Rr PV
open Classical in
noncomputable def Pm.fn (m:Pm) (xs:List PV):Rr PV:=if h:∃ a,m.enc a=xs∧m.pre a then m.out h.choose else .bad
theorem Pm.fn_eq (m:Pm) (a:m.α) (h:m.pre a) (inj:∀ b,m.enc b=m.enc a→m.out b=m.out a):m.fn (m.enc a)=m.out a:=by
  unfold Pm.fn
  have hx:∃ b,m.enc b=m.enc a∧m.pre b:=⟨a,rfl,h⟩
  rw [dif_pos hx]
  exact inj _ hx.choose_spec.1
theorem Pm.ref (m:Pm) {g:List PV→Rr PV} (h:∀ a,m.pre a→g (m.enc a)=m.out a) (xs:List PV):Ref (m.fn xs) (g xs):=by
  unfold Pm.fn
  by_cases hx:∃ a,m.enc a=xs∧m.pre a
  · rw [dif_pos hx]
    have h2:=hx.choose_spec
    right
    have:=h _ h2.2
    rw [h2.1] at this
    exact this.symm
  · rw [dif_neg hx]; exact .inl rfl
section
variable {K:PySem.W.Frag} {B:Addr→Prop} {EX:PX→Hp→Prop} {H0 H H':Hp}
theorem Ag.init {xs:List PV} {vs:List V} {n:Nat} (h:Reps K H B xs vs):Ag K (fun a=>B a ∨ H a=none) H H (vs.map some ++ List.replicate n none) (List.replicate xs.length .S ++ List.replicate n .U) (xs ++ List.replicate n .non) (fun _=>[]) []:=by
  refine ⟨Same.refl _,fun a h=>.inr h,by simp,by simp,by simp,by simp,by simp,by simp,by simp [h.length],by simp,fun i=>?_⟩
  by_cases hi:i < xs.length
  · have e1:(List.replicate xs.length Md.S ++ List.replicate n Md.U).getD i .U=.S:=by
      rw [List.getD_eq_getElem?_getD,List.getElem?_append_left (by simpa using hi),List.getElem?_replicate_of_lt hi]; rfl
    have e2:(xs ++ List.replicate n PV.non).getD i .non=xs[i]:=by
      rw [List.getD_eq_getElem?_getD,List.getElem?_append_left hi,List.getElem?_eq_getElem hi]; rfl
    rw [e1,e2]
    obtain ⟨v,h1,h2⟩:=h.get (List.getElem?_eq_getElem hi)
    refine ⟨rfl,v, ?_,Rep.mono (fun a us s r=>⟨r,.inl s,by simp,by simp⟩) (fun a us r=>r) h2⟩
    rw [List.getElem?_append_left (by rw [List.length_map,h.length]; exact hi),List.getElem?_map,h1]; rfl
  · have e1:(List.replicate xs.length Md.S ++ List.replicate n Md.U).getD i .U=.U:=by
      rw [List.getD_eq_getElem?_getD,List.getElem?_append_right (by simpa using hi)]
      by_cases q:i - (List.replicate xs.length Md.S).length < n
      · rw [List.getElem?_replicate_of_lt q]; rfl
      · rw [List.getElem?_eq_none (by simpa using q)]; rfl
    rw [e1]
    exact rfl
end
section
variable {P:Program} {w:World} {K:PySem.W.Frag} {mg:Str→Option Value} {base:Heap}
theorem Fun.okP {x qual:Str} {st:Stmt} {f:Addr} {fd:FuncData} {N ps:List Str} {k n l:Nat} {kd:Kd} {m:List PV→Rr PV} (F:Fun K x qual st f fd) (S:FnScope N ps (defScope st)) (hn:ps.length=n) (hl:N.length - n=l)
    (hbody:∀ (cdv:Value) (A:Around) (outer:List Env) (s:Shared) (H:Hp) (E:XK),Room k (A.deeper (envOfC qual (defScope st) s.heap.objs.size f cdv)) →
      ∃ t g Y,Y.r=kd∧PSs (cxOf CX0 P w K mg base N qual (defScope st) f cdv A outer s H E).nox (defBody st) t∧DS K X0 (List.replicate n .S ++ List.replicate l .U) Y t g∧∀ xs,Ref (m xs) (g (xs ++ List.replicate l .non)).out) (hkN:kd≠.N:=by nofun) :
    FnOk P w K mg base CX0 (k + 1) f fd ps (spF K n kd W0 m):=by
  refine F.ok S (fun vs H Q E h=>?_) (fun cdv A outer s H vs Q E hr h=>?_)
  · obtain ⟨B,xs,h1,h2,_⟩:=h
    rw [h1.length,h2,hn]
  · obtain ⟨B,xs,h1,h2,dn⟩:=h
    obtain ⟨t,g,Y,hY,ht,hd,href⟩:=hbody cdv A outer s H E hr
    refine ⟨t,ht, ?_⟩
    have A0:=Ag.init (n:=l) h1
    have est:start N vs=vs.map some ++ List.replicate l none:=by
      unfold start
      rw [h1.length,h2,hl]
    rw [est]
    rw [h2] at A0
    refine hd _ H H _ _ _ _ A0 ?_
    have hdn:Dn (g (xs ++ List.replicate l .non)).out (fun x=>∀ v H',Same H H'→RetK K B H kd x v H'→Q v H') (fun e=>∀ H',Same H H'→W0 e E H'):=by
      rcases href xs with e | e
      · rw [e] at dn; exact dn.elim
      · rw [← e]; exact dn
    have retK:∀ {x v H'},RetK K (fun a=>B a ∨ H a=none) H kd x v H'→RetK K B H kd x v H':=fun {x v H'} h=>by
      cases kd with
      | P=>exact h
      | F=>exact h
      | T=>exact Rep.mono (fun a us s r=>⟨r,s.elim id .inr⟩) (fun a us r=>r) h
      | Z=>exact Rep.mono (fun a us s r=>⟨r,s.elim id .inr⟩) (fun a us r=>r) h
      | A=>exact Rep.mono (fun a us s r=>⟨r,s.elim id .inr⟩) (fun a us r=>r) h
      | N=>exact h
    cases e:g (xs ++ List.replicate l .non) with
    | next ρ =>
      rw [e] at hdn
      refine fun σ' H' F' fr A'=>hdn .non H' A'.same ?_
      cases kd with
      | P=>exact ⟨rfl,rfl⟩
      | F=>exact ⟨[],⟨rfl,rfl⟩,by simp⟩
      | T=>exact rfl
      | Z=>exact rfl
      | A=>exact rfl
      | N=>exact absurd rfl hkN
    | ret x=>rw [e] at hdn; exact fun v H' s r=>hdn v H' s (retK (hY ▸ r))
    | exc q=>rw [e] at hdn; exact fun H' s=>hdn H' s
    | brk ρ=>rw [e] at hdn; exact hdn.elim
    | cont ρ=>rw [e] at hdn; exact hdn.elim
    | bad=>rw [e] at hdn; exact hdn.elim
end
section
variable {X:Cx} {K:PySem.W.Frag} {k n:Nat} {kd:Kd} {x:Str} {ps:List Str} {m:List PV→Rr PV} {p pos:Pos} {e:Expr} {es:List Expr} {ta:TA} {EX:PX→Hp→Prop} {Γ Γ':List Md} {fa:List PV→Rr (List PV)}
theorem dc_F (hn:Len fa n) (ha:DAA K X0 Γ Γ' ta fa):DE K X0 Γ Γ' .F (tCallO (spF K n .F W0 m) ta) (fun ρ=>(fa ρ).bind m):=de_callF (E:=E0) (W:=W0) (fun σ H Q h=>h) (fun e H' h=>h) hn ha
theorem dc_P (hn:Len fa n) (ha:DAA K X0 Γ Γ' ta fa):DE K X0 Γ Γ' .P (tCallO (spF K n .P W0 m) ta) (fun ρ=>(fa ρ).bind m):=de_callP (E:=E0) (W:=W0) (fun σ H Q h=>h) (fun e H' h=>h) hn ha
end
theorem law_startP {K:PySem.W.Frag} {H:Hp} {a:Addr} {ns:List Int} {m:List PV→Rr PV} (hm:m [.lst (ns.map PV.int)]=.ok (.bl true)) (hS:SqL K H a (ns.map V.int)):spF K 1 .P W0 m [.ref a] H (fun v _=>v=.bl true) fun _ _ _=>False:=by
  refine ⟨fun _=>True,[.lst (ns.map PV.int)],Reps.one ⟨a,_,rfl,hS.elim (fun h=>.inl ⟨h,trivial⟩) .inr,ints_reps ns⟩,rfl, ?_⟩
  rw [hm]
  exact fun v H' _ r=>r.2
end L2
namespace L2
open PySem PySem.Spec PyProof.Rows
section
variable {X:Cx} {K:PySem.W.Frag} {EX:PX→Hp→Prop} {Γ Γ' Γ1 Γ2 Γ3:List Md} {k:Kd} {te tb tc:TE} {ta:TA} {f fb fc:List PV→Rr PV} {fa:List PV→Rr (List PV)}
end
noncomputable def RS.good (r:RS) (I:List PV→Prop):Prop:=match r with
  | .next ρ=>I ρ
  | .cont ρ=>I ρ
  | _=>False
theorem RS.good_ex {r:RS} {I:List PV→Prop} (h:r.good I):∃ ρ',(r=.next ρ' ∨ r=.cont ρ')∧I ρ':=by
  cases r with
  | next ρ=>exact ⟨ρ,.inl rfl,h⟩
  | cont ρ=>exact ⟨ρ,.inr rfl,h⟩
  | ret x=>exact h.elim
  | brk ρ=>exact h.elim
  | exc e=>exact h.elim
  | bad=>exact h.elim
theorem forR_inv {b:PV→List PV→RS} {xs:List PV} {ρ:List PV} (I:Nat→List PV→Prop) (h0:I 0 ρ) (h:∀ i x ρ,xs[i]?=some x→I i ρ→(b x ρ).good (I (i + 1))) :
    ∃ ρ',forR b xs ρ=.next ρ'∧I xs.length ρ':=by
  have key:∀ n i ρ,xs.length=i + n→I i ρ→∃ ρ',forR b (xs.drop i) ρ=.next ρ'∧I xs.length ρ':=by
    intro n
    induction n with
    | zero =>
      intro i ρ hl hI
      rw [List.drop_eq_nil_of_le (by omega)]
      exact ⟨ρ,rfl,by rw [hl]; exact hI⟩
    | succ n ih =>
      intro i ρ hl hI
      have hi:i < xs.length:=by omega
      rw [List.drop_eq_getElem_cons hi]
      obtain ⟨ρ',h1,h2⟩:=RS.good_ex (h i _ ρ (List.getElem?_eq_getElem hi) hI)
      obtain ⟨ρ2,h3,h4⟩:=ih (i + 1) ρ' (by omega) h2
      refine ⟨ρ2, ?_,h4⟩
      simp only [forR]
      rcases h1 with h1 | h1 <;> (rw [h1]; exact h3)
  exact key xs.length 0 ρ (by omega) h0
theorem rngP_get {lo:Int} {n i:Nat} {x:PV} (h:(rngP lo n)[i]?=some x):i < n∧x=.int (lo + i):=by
  unfold rngP at h
  rw [List.getElem?_map] at h
  by_cases hi:i < n
  · rw [List.getElem?_range hi] at h; cases h; exact ⟨hi,rfl⟩
  · rw [List.getElem?_eq_none (by simpa using hi)] at h; cases h
@[simp] theorem rngP_length {lo:Int} {n:Nat}:(rngP lo n).length=n:=by simp [rngP]
theorem mapR_ok {α β:Type} {f:α→Rr β} {g:α→β}:∀ {xs:List α},(∀ x∈xs,f x=.ok (g x))→mapR f xs=.ok (xs.map g)
  | [],_=>rfl
  | x :: xs,h=>by
    simp only [mapR,h x (by simp),Rr.bind_ok,mapR_ok (xs:=xs) fun y hy=>h y (by simp [hy]),List.map_cons]
@[simp] theorem gv_zero {x:PV} {ρ:List PV}:gv 0 (x :: ρ)=x:=rfl
@[simp] theorem gv_succ {x:PV} {ρ:List PV} {i:Nat}:gv (i + 1) (x :: ρ)=gv i ρ:=rfl
theorem newF_ints {ns:List Int} (h:ns.length≤1000000):newF (ns.map PV.int)=.ok (.lst (ns.map PV.int)):=by
  unfold newF
  rw [PV.flats_ints,List.length_map,decide_eq_true h]; rfl
theorem dats_ints (ns:List Int):PV.dats (ns.map PV.int)=ns.map PyData.int:=by
  induction ns with
  | nil=>rfl
  | cons n ns ih=>simp [PV.dats,PV.dat,ih]
theorem canLay_ints (ns:List Int):PyData.canLayAll0 (ns.map PyData.int)=true:=by
  induction ns with
  | nil=>rfl
  | cons n ns ih=>simp [PyData.canLayAll0,PyData.canLay0,ih]
theorem okD_int (i:Int):okD (.int i)=true:=by simp [okD,PV.noX,PV.dat,PyData.canLay0,PyData.depth]
end L2
namespace L2
open PySem PySem.Spec PyProof.Rows
theorem okD_ints (ns:List Int):okD (.lst (ns.map PV.int))=true:=by
  have hd:PyData.depthAll (ns.map PyData.int)=0:=by
    induction ns with
    | nil=>rfl
    | cons n ns ih=>simp [PyData.depthAll,PyData.depth,ih]
  simp [okD,PV.noX,PV.noXs_ints,PV.dat,dats_ints,PyData.canLay0,canLay_ints,PyData.depth,hd]
theorem eqvAll_ints:∀ (ns ms:List Int),PyData.eqvAll (ns.map PyData.int) (ms.map PyData.int)=decide (ns=ms)
  | [],[]=>by simp [PyData.eqvAll]
  | [],m :: ms=>by simp [PyData.eqvAll]
  | n :: ns,[]=>by simp [PyData.eqvAll]
  | n :: ns,m :: ms=>by
    simp only [List.map_cons,PyData.eqvAll,PyData.eqv,eqvAll_ints ns ms,List.cons.injEq,Bool.decide_and]
    rw [Bool.beq_eq_decide_eq]
theorem pEq_ints {g:Bool→Bool} (ns ms:List Int):pEqG g (.lst (ns.map PV.int)) (.lst (ms.map PV.int))=.ok (.bl (g (decide (ns=ms)))):=by
  unfold pEqG
  rw [okD_ints,okD_ints]
  simp only [Bool.and_self,if_true,PV.dat,dats_ints,PyData.eqv,eqvAll_ints]
theorem pEq_int {g:Bool→Bool} (i j:Int):pEqG g (.int i) (.int j)=.ok (.bl (g (decide (i=j)))):=by
  unfold pEqG
  rw [okD_int,okD_int]
  simp only [Bool.and_self,if_true,PV.dat,PyData.eqv]
  rw [Bool.beq_eq_decide_eq]
theorem pSum_ints (ns:List Int):pSum [.lst (ns.map PV.int)]=.ok (.int ns.sum):=by simp [pSum,pInts]
theorem newF_cat {ns ms:List Int} (h:ns.length + ms.length≤1000000):newF (ns.map PV.int ++ ms.map PV.int)=.ok (.lst ((ns ++ ms).map PV.int)):=by
  rw [← List.map_append]; exact newF_ints (by simpa using h)
theorem cmul_of {i j:Int} (a b:Nat) (h1:i.natAbs≤10 ^ a) (h2:j.natAbs≤10 ^ b) (ha:a≤4000:=by decide) (hb:b≤4000:=by decide):CMulB i j:=by
  have t:∀ c:Nat,c≤4000→(10:Nat) ^ c < 2 ^ 60000:=fun c hc=>Nat.lt_of_le_of_lt (Nat.pow_le_pow_right (by decide) hc) (by decide +kernel)
  exact ⟨Nat.lt_of_le_of_lt h1 (t a ha),Nat.lt_of_le_of_lt h2 (t b hb)⟩
theorem cdiv_of {i j:Int} (b:Nat) (h1:0 < j) (h2:j.natAbs≤10 ^ b) (hb:b≤2000:=by decide):CDivB i j:=by
  have t:∀ c:Nat,c≤2000→(10:Nat) ^ c < 2 ^ 9000:=fun c hc=>Nat.lt_of_le_of_lt (Nat.pow_le_pow_right (by decide) hc) (by decide +kernel)
  exact ⟨h1,Nat.lt_of_le_of_lt h2 (t b hb)⟩
theorem pDiv_ok {i j:Int} (h:CDivB i j):pDiv (.int i) (.int j)=.ok (.int (i / j)):=oI_int (decide_eq_true h)
theorem pMul_ok {i j:Int} (h:CMulB i j):pMul (.int i) (.int j)=.ok (.int (i * j)):=oI_int (decide_eq_true h)
theorem pMod_ok {i j:Int} (h:0 < j):pMod (.int i) (.int j)=.ok (.int (i % j)):=oI_int (decide_eq_true h)
theorem pPow_ok {i j:Int} (h:CPow i j):pPow (.int i) (.int j)=.ok (.int (i ^ j.toNat)):=oI_int (decide_eq_true h)
@[simp] theorem pAdd_ok {i j:Int}:pAdd (.int i) (.int j)=.ok (.int (i + j)):=rfl
@[simp] theorem pSub_ok {i j:Int}:pSub (.int i) (.int j)=.ok (.int (i - j)):=rfl
@[simp] theorem pLt_ok {i j:Int}:pLt (.int i) (.int j)=.ok (.bl (decide (i < j))):=rfl
@[simp] theorem pGt_ok {i j:Int}:pGt (.int i) (.int j)=.ok (.bl (decide (j < i))):=rfl
@[simp] theorem pGe_ok {i j:Int}:pGe (.int i) (.int j)=.ok (.bl (decide (j≤i))):=rfl
@[simp] theorem grd_int {i:Int}:grd (.int i)=.ok (.int i):=rfl
@[simp] theorem asB_bl {b:Bool}:asB (.bl b)=.ok b:=rfl
@[simp] theorem asL_lst {xs:List PV}:asL (.lst xs)=.ok xs:=rfl
@[simp] theorem asI_int {i:Int}:asI (.int i)=.ok i:=rfl
@[simp] theorem pIsi_i {n:String} {x:Int}:pIsi n (.int x)=.ok (.bl (isSub (tyName (.int x)) n)):=rfl
theorem pRng1_ok {j:Int} (h:-(2 ^ 62)≤j∧j < 2 ^ 62):pRng1 [.int j]=.ok (rngP 0 j.toNat):=by simp only [pRng1,okR,decide_eq_true h,if_true]
theorem pRng2_ok {i j:Int} (h:-(2 ^ 62)≤i∧i < 2 ^ 62) (h':-(2 ^ 62)≤j∧j < 2 ^ 62):pRng2 [.int i,.int j]=.ok (rngP i (j - i).toNat):=by simp only [pRng2,okR,decide_eq_true h,decide_eq_true h',Bool.and_self,if_true]
theorem lenM_ok {xs:List PV} (h:xs.length≤1000000):lenM xs=.ok ():=by simp only [lenM,if_pos h]
@[simp] theorem isSub_ii:isSub (tyName (.int i)) "int"=true:=rfl
@[simp] theorem isSub_ib:isSub (tyName (.int i)) "bool"=false:=rfl
theorem nextI {I:List PV→Prop} {ρ:List PV} (h:I ρ):(RS.next ρ).good I:=h
theorem ints_inj' {ns ms:List Int} (e:ns.map PV.int=ms.map PV.int):ns=ms:=by
  have:=congrArg intsOf e
  simpa using this
theorem pDiv_small {i j:Int} (h0:0 < j) (h1:j < 1000000000000):pDiv (.int i) (.int j)=.ok (.int (i / j)):=pDiv_ok (cdiv_of 12 h0 (by omega))
theorem p1060:pPow (.int 10) (.int 60)=.ok (.int (10 ^ 60)):=by rw [pPow_ok (by decide)]; rfl
theorem mkL_ok {xs:List PV} (h:xs.length≤1000):mkL xs=.ok (.lst xs):=if_pos h
end L2
namespace L2
noncomputable def heldN (p s:Int):Int:=p * s % (p + 1)
noncomputable def beyN (p s:Int):Int:=p * s / (p + 1)
noncomputable def sowAt (s:Int):Nat→Int
  | 0=>s
  | k + 1=>beyN (k + 1) (sowAt s k)
noncomputable def firsts (s:Int) (n:Nat):List Int:=(List.range n).map fun (k:Nat)=>heldN (k + 1) (sowAt s k)
noncomputable def ylenF (s:Int):Nat→Nat→Nat
  | 0,k=>k
  | n + 1,k=>if 0 < sowAt s k then ylenF s n (k + 1) else k
noncomputable def ylen (s:Int):Nat:=ylenF s s.toNat 0
noncomputable def yardN (s:Int):List Int:=firsts s (ylen s)
noncomputable def YardOk (ns:List Int):Prop:=(∀ x∈ns,0≤x)∧ns.length≤200∧ns.sum≤10000∧(ns=[] ∨ ns.getD (ns.length - 1) 0≠0)
noncomputable instance (ns:List Int):Decidable (YardOk ns):=by unfold YardOk; infer_instance
noncomputable def HomeOk (ns:List Int):Prop:=YardOk ns∧ns=yardN ns.sum
noncomputable instance (ns:List Int):Decidable (HomeOk ns):=by unfold HomeOk; infer_instance
noncomputable def s2 (ns:List Int) (r:Nat):Nat→Int
  | 0=>0
  | i + 1=>s2 ns r i + if i % 2=r then ns.getD i 0 else 0
noncomputable def gcdF (a b:Int):Int:=Nat.gcd a.toNat b.toNat
theorem gcdF_step {a b:Int} (ha:0≤a) (hb:0 < b):gcdF b (a % b)=gcdF a b:=by
  unfold gcdF
  have h1:(a % b).toNat=a.toNat % b.toNat:=by
    have h0:=Int.emod_nonneg a (show b≠0 by omega)
    apply Int.ofNat.inj
    show ((a % b).toNat:Int)=((a.toNat % b.toNat:Nat):Int)
    rw [Int.toNat_of_nonneg h0,Int.natCast_emod,Int.toNat_of_nonneg ha,Int.toNat_of_nonneg (by omega)]
  rw [h1,Nat.gcd_comm a.toNat,Nat.gcd_rec b.toNat a.toNat,Nat.gcd_comm]
theorem gcdF_zero {a:Int} (ha:0≤a):gcdF a 0=a:=by
  unfold gcdF
  simp [Int.toNat_of_nonneg ha]
theorem gcdF_pos {a b:Int} (ha:0 < a):0 < gcdF a b:=by
  unfold gcdF
  have:0 < Nat.gcd a.toNat b.toNat:=Nat.gcd_pos_of_pos_left _ (by omega)
  omega
theorem gcdF_dvd {a b:Int} (ha:0≤a):gcdF a b ∣ a:=by
  unfold gcdF
  have:=Nat.gcd_dvd_left a.toNat b.toNat
  have h:=Int.natCast_dvd_natCast.mpr this
  rwa [Int.toNat_of_nonneg ha] at h
end L2
namespace L2
end L2
namespace L2
noncomputable def hs:Nat→Nat→Int→List Int
  | _,0,_=>[]
  | k,m + 1,l=>heldN (k + 1) l :: hs (k + 1) m (beyN (k + 1) l)
noncomputable def s3 (ns:List Int) (r:Nat):Nat→Int
  | 0=>0
  | i + 1=>s3 ns r i + if i % 3=r then ns.getD i 0 else 0
end L2
namespace L2
noncomputable def LineOk (ns:List Int):Prop:=(∀ x∈ns,0≤x)∧ns.length≤100∧ns.sum≤100∧(ns=[] ∨ (ns.getD 0 0≠0∧ns.getD (ns.length - 1) 0≠0))
noncomputable instance (ns:List Int):Decidable (LineOk ns):=by unfold LineOk; infer_instance
end L2
namespace L2
end L2
namespace L2
noncomputable def cbI (s:Int):Nat→Int
  | 0=>1
  | k + 1=>cbI s k * (s + ((k:Int) + 1)) / ((k:Int) + 1)
theorem cbI_nn {s:Int} (h:0≤s):∀ k,0≤cbI s k
  | 0=>by simp [cbI]
  | k + 1=>by
    rw [cbI]
    exact Int.ediv_nonneg (Int.mul_nonneg (cbI_nn h k) (by omega)) (by omega)
theorem cbI_le {s:Int} (h:0≤s) (h1:s≤10 ^ 60):∀ k:Nat,k≤1000→cbI s k≤(10 ^ 61) ^ k
  | 0,_=>by simp [cbI]
  | k + 1,hk=>by
    have ih:=cbI_le h h1 k (by omega)
    have nn:=cbI_nn h k
    rw [cbI]
    have e1:cbI s k * (s + ((k:Int) + 1))≤(10 ^ 61) ^ k * 10 ^ 61:=Int.mul_le_mul ih (by omega) (by omega) (Int.pow_nonneg (by decide))
    have e2:cbI s k * (s + ((k:Int) + 1)) / ((k:Int) + 1)≤cbI s k * (s + ((k:Int) + 1)):=Int.ediv_le_self _ (Int.mul_nonneg nn (by omega))
    rw [Int.pow_succ]
    omega
noncomputable def cbN (p s:Int):Int:=if s < 0 then 0 else cbI s (p - 1).toNat
theorem cbI_small {s:Int} (h:0≤s) (h1:s≤10 ^ 60) {k:Nat} (hk:k≤24):(cbI s k).natAbs < 2 ^ 60000:=by
  have h2:=cbI_le h h1 k (by omega)
  have h3:=cbI_nn h k
  have h4:((10:Int) ^ 61) ^ k≤(10 ^ 61) ^ 24:=by
    have:((10:Nat) ^ 61) ^ k≤(10 ^ 61) ^ 24:=Nat.pow_le_pow_right (by decide) hk
    exact_mod_cast this
  have h5:((10:Int) ^ 61) ^ 24=10 ^ 1464:=by rw [← Int.pow_mul]
  have h6:(cbI s k).natAbs≤10 ^ 1464:=by
    have:cbI s k≤10 ^ 1464:=by rw [← h5]; exact Int.le_trans h2 h4
    have e:((cbI s k).natAbs:Int)=cbI s k:=Int.natAbs_of_nonneg h3
    have:((cbI s k).natAbs:Int)≤((10 ^ 1464:Nat):Int):=by rw [e]; exact_mod_cast this
    exact_mod_cast this
  have h7:10 ^ 1464 < 2 ^ 60000:=by
    calc (10:Nat) ^ 1464≤(2 ^ 4) ^ 1464:=Nat.pow_le_pow_left (by decide) _
      _=2 ^ 5856:=by rw [← Nat.pow_mul]
      _ < 2 ^ 60000:=Nat.pow_lt_pow_right (by decide) (by decide)
  omega
end L2
namespace L2
noncomputable def bN:Nat→Nat→Nat
  | 0=>fun _=>1
  | s + 1=>fun k=>Nat.rec 1 (fun k ih=>bN s (k + 1) + ih) k
@[simp] theorem bN_k0 (s:Nat):bN s 0=1:=by cases s <;> rfl
@[simp] theorem bN_s0 (k:Nat):bN 0 k=1:=by exact id rfl
theorem bN_step (s k:Nat):bN (s + 1) (k + 1)=bN s (k + 1) + bN (s + 1) k:=rfl
theorem bN_mul:∀ n s k,s + k=n→(k + 1) * bN s (k + 1)=(s + k + 1) * bN s k∧(s + 1) * bN (s + 1) k=(s + k + 1) * bN s k:=by
  intro n
  induction n using Nat.strongRecOn with
  | ind n ih =>
    intro s k h
    constructor
    · cases s with
      | zero=>simp
      | succ s =>
        have h1:=(ih (s + k) (by omega) s k rfl).1
        have h2:=(ih (s + k) (by omega) s k rfl).2
        rw [bN_step,Nat.mul_add,h1,← h2,← Nat.add_mul]
        congr 1
    · cases k with
      | zero=>simp
      | succ k =>
        have h1:=(ih (s + k) (by omega) s k rfl).1
        have h2:=(ih (s + k) (by omega) s k rfl).2
        rw [bN_step,Nat.mul_add,h2,← h1,← Nat.add_mul]
        congr 1
        omega
theorem cbI_bN (s:Nat):∀ k:Nat,cbI s k=(bN s k:Nat)
  | 0=>by simp [cbI]
  | k + 1=>by
    have h:=(bN_mul (s + k) s k rfl).1
    rw [cbI,cbI_bN s k]
    have e:((bN s k:Nat):Int) * ((s:Int) + ((k:Int) + 1))=((k:Int) + 1) * (bN s (k + 1):Nat):=by
      have:(((k + 1) * bN s (k + 1):Nat):Int)=(((s + k + 1) * bN s k:Nat):Int):=by rw [h]
      rw [Int.natCast_mul,Int.natCast_mul] at this
      rw [show ((k:Int) + 1)=((k + 1:Nat):Int) by omega,this,Int.mul_comm]
      congr 1
    rw [e,Int.mul_ediv_cancel_left _ (by omega)]
theorem cbN_bN {p s:Int} (hs:0≤s):cbN p s=(bN s.toNat (p - 1).toNat:Nat):=by
  unfold cbN
  rw [if_neg (by omega)]
  have:=cbI_bN s.toNat (p - 1).toNat
  rwa [Int.toNat_of_nonneg hs] at this
end L2
namespace L2
end L2
namespace L2
theorem big61L:(10:Nat) ^ 61 < 2 ^ 60000:=by
  calc (10:Nat) ^ 61≤(2 ^ 4) ^ 61:=Nat.pow_le_pow_left (by decide) _
    _=2 ^ 244:=by rw [← Nat.pow_mul]
    _ < 2 ^ 60000:=Nat.pow_lt_pow_right (by decide) (by decide)
noncomputable def facN:Nat→Int
  | 0=>1
  | k + 1=>facN k * ((k:Int) + 1)
noncomputable def topN (s:Int):Nat→Int
  | 0=>1
  | k + 1=>topN s k * (s + ((k:Int) + 1))
theorem facN_pos:∀ k,0 < facN k
  | 0=>by simp [facN]
  | k + 1=>Int.mul_pos (facN_pos k) (by omega)
theorem topN_eq {s:Int} (h:0≤s):∀ k,topN s k=facN k * cbI s k
  | 0=>by simp [topN,facN,cbI]
  | k + 1=>by
    obtain ⟨t,rfl⟩:∃ t:Nat,s=t:=⟨s.toNat,by omega⟩
    have h1:=(bN_mul (t + k) t k rfl).1
    have h2:((k:Int) + 1) * (bN t (k + 1):Nat)=((t:Int) + k + 1) * (bN t k:Nat):=by exact_mod_cast h1
    rw [topN,topN_eq h k,cbI_bN,cbI_bN,facN,Int.mul_assoc,Int.mul_assoc,h2]
    congr 1
    rw [Int.mul_comm]
    congr 1
theorem top_div {p s:Int} (hs:0≤s):topN s (p - 1).toNat / facN (p - 1).toNat=cbN p s:=by
  rw [topN_eq hs,Int.mul_ediv_cancel_left _ (by have:=facN_pos (p - 1).toNat; omega)]
  unfold cbN
  rw [if_neg (by omega)]
theorem topN_nn {s:Int} (h:0≤s):∀ k,0≤topN s k
  | 0=>by simp [topN]
  | k + 1=>Int.mul_nonneg (topN_nn h k) (by omega)
theorem topN_le {s:Int} (h:0≤s) (h1:s≤10 ^ 60):∀ k:Nat,k≤1000→topN s k≤(10 ^ 61) ^ k
  | 0,_=>by simp [topN]
  | k + 1,hk=>by
    rw [topN,Int.pow_succ]
    exact Int.mul_le_mul (topN_le h h1 k (by omega)) (by omega) (by omega) (Int.pow_nonneg (by decide))
theorem pow61_small {x:Int} {k:Nat} (h0:0≤x) (h:x≤(10 ^ 61) ^ k) (hk:k≤24):x.natAbs < 2 ^ 60000:=by
  have h4:((10:Int) ^ 61) ^ k≤(10 ^ 61) ^ 24:=by
    have:((10:Nat) ^ 61) ^ k≤(10 ^ 61) ^ 24:=Nat.pow_le_pow_right (by decide) hk
    exact_mod_cast this
  have h5:((10:Int) ^ 61) ^ 24=10 ^ 1464:=by rw [← Int.pow_mul]
  have h6:x.natAbs≤10 ^ 1464:=by
    have:x≤10 ^ 1464:=by rw [← h5]; exact Int.le_trans h h4
    have e:(x.natAbs:Int)=x:=Int.natAbs_of_nonneg h0
    have:(x.natAbs:Int)≤((10 ^ 1464:Nat):Int):=by rw [e]; exact_mod_cast this
    exact_mod_cast this
  have h7:10 ^ 1464 < 2 ^ 60000:=by
    calc (10:Nat) ^ 1464≤(2 ^ 4) ^ 1464:=Nat.pow_le_pow_left (by decide) _
      _=2 ^ 5856:=by rw [← Nat.pow_mul]
      _ < 2 ^ 60000:=Nat.pow_lt_pow_right (by decide) (by decide)
  omega
theorem topN_small {s:Int} (h:0≤s) (h1:s≤10 ^ 60) {k:Nat} (hk:k≤24):(topN s k).natAbs < 2 ^ 60000:=pow61_small (topN_nn h k) (topN_le h h1 k (by omega)) hk
theorem facN_top:∀ k,facN k=topN 0 k
  | 0=>rfl
  | k + 1=>by rw [facN,topN,facN_top k,Int.zero_add]
theorem facN_le {k:Nat} (hk:k≤24):(facN k).natAbs≤10 ^ 1464:=by
  rw [facN_top]
  have h0:=topN_nn (Int.le_refl 0) k
  have h:=topN_le (Int.le_refl 0) (by decide) k (by omega)
  have h4:((10:Int) ^ 61) ^ k≤(10 ^ 61) ^ 24:=by
    have:((10:Nat) ^ 61) ^ k≤(10 ^ 61) ^ 24:=Nat.pow_le_pow_right (by decide) hk
    exact_mod_cast this
  have h5:((10:Int) ^ 61) ^ 24=10 ^ 1464:=by rw [← Int.pow_mul]
  have:topN 0 k≤10 ^ 1464:=by rw [← h5]; exact Int.le_trans h h4
  have e:((topN 0 k).natAbs:Int)=topN 0 k:=Int.natAbs_of_nonneg h0
  have:((topN 0 k).natAbs:Int)≤((10 ^ 1464:Nat):Int):=by rw [e]; exact_mod_cast this
  exact_mod_cast this
theorem facN_small {k:Nat} (hk:k≤24):(facN k).natAbs < 2 ^ 60000:=by rw [facN_top]; exact topN_small (Int.le_refl _) (by decide) hk
end L2
namespace L2
end L2
namespace L2
noncomputable def tri:Nat→Int
  | 0=>0
  | k + 1=>tri k + (k + 1)
noncomputable def adI (l:List Int) (k i:Nat):Int:=l.getD i 0 - ((k:Int) - i)
structure RowK (l:List Int) (k:Nat):Prop where
  lo:tri k≤l.sum
  hi:l.sum < tri (k + 1)
  ad:∀ i,i≤k→0≤adI l k i∧adI l k i≤1
  z:∀ i,k < i→l.getD i 0=0
end L2
namespace L2
noncomputable def chI (n:Int):Nat→Int
  | 0=>1
  | k + 1=>chI n k * (n - k) / ((k:Int) + 1)
noncomputable def keptN (n a m:Nat):Int:=if a % (n / Nat.gcd n m)=0 then chI (Nat.gcd n m:Nat) (a / (n / Nat.gcd n m)) else 0
noncomputable def rotL (m:List Int) (k:Nat):List Int:=m.drop k ++ m.take k
end L2
namespace My
theorem le_len {α:Type} [DecidableEq α]:∀ {l1 l2:List α},l1.Nodup→(∀ x∈l1,x∈l2)→l1.length≤l2.length
  | [],l2,_,_=>Nat.zero_le _
  | x :: l1,l2,hn,hs=>by
    obtain ⟨h1,h2⟩:=List.nodup_cons.mp hn
    have hx:=hs x (by simp)
    have ih:=le_len (l2:=l2.erase x) h2 fun y hy=>(List.mem_erase_of_ne (fun e=>h1 (by rw [← e]; exact hy))).mpr (hs y (by simp [hy]))
    rw [List.length_erase_of_mem hx] at ih
    have:=List.length_pos_of_mem hx
    rw [List.length_cons]; omega
theorem eq_len {α:Type} [DecidableEq α] {l1 l2:List α} (h1:l1.Nodup) (h2:l2.Nodup) (h:∀ x,x∈l1 ↔ x∈l2):l1.length=l2.length :=
  Nat.le_antisymm (le_len h1 fun x hx=>(h x).mp hx) (le_len h2 fun x hx=>(h x).mpr hx)
noncomputable abbrev LN:=List Nat
noncomputable def rot1:LN→LN
  | []=>[]
  | a :: l=>l ++ [a]
noncomputable def rotT (x:LN):Nat→LN
  | 0=>x
  | t + 1=>rot1 (rotT x t)
theorem rot1_length (x:LN):(rot1 x).length=x.length:=by cases x <;> simp [rot1]
theorem rot1_sum (x:LN):(rot1 x).sum=x.sum:=by
  cases x with
  | nil=>rfl
  | cons a l=>simp [rot1]; omega
theorem rot1_inj {x y:LN} (h:rot1 x=rot1 y):x=y:=by
  cases x with
  | nil=>cases y with
    | nil=>rfl
    | cons b m=>simp [rot1] at h
  | cons a l=>cases y with
    | nil=>simp [rot1] at h
    | cons b m =>
      simp only [rot1] at h
      have h1:=List.append_inj' h rfl
      simp at h1
      rw [h1.1,h1.2]
theorem rotT_length (x:LN) (t:Nat):(rotT x t).length=x.length:=by
  induction t with
  | zero=>rfl
  | succ t ih=>simp only [rotT]; rw [rot1_length,ih]
theorem rotT_add (x:LN) (a b:Nat):rotT x (a + b)=rotT (rotT x a) b:=by
  induction b with
  | zero=>rfl
  | succ b ih=>simp only [rotT,Nat.add_eq]; rw [← ih]
theorem rotT_inj {x y:LN} {t:Nat} (h:rotT x t=rotT y t):x=y:=by
  induction t with
  | zero=>exact h
  | succ t ih=>exact ih (rot1_inj h)
theorem rotT_cut (x:LN):∀ t,t≤x.length→rotT x t=x.drop t ++ x.take t
  | 0,_=>by simp [rotT]
  | t + 1,h=>by
    simp only [rotT]
    rw [rotT_cut x t (by omega),List.drop_eq_getElem_cons (by omega:t < x.length)]
    simp only [List.cons_append,rot1,List.append_assoc]
    rw [List.take_succ_eq_append_getElem (by omega:t < x.length)]
theorem rotT_full (x:LN):rotT x x.length=x:=by rw [rotT_cut x _ (Nat.le_refl _)]; simp
noncomputable def ownT (x:LN):Nat:=((List.range x.length).find? fun t=>decide (rotT x (t + 1)=x)).getD 0 + 1
theorem ownT_spec {x:LN} (h:0 < x.length):(1≤ownT x∧ownT x≤x.length)∧rotT x (ownT x)=x∧∀ t,0 < t→t < ownT x→rotT x t≠x:=by
  unfold ownT
  cases e:(List.range x.length).find? fun t=>decide (rotT x (t + 1)=x) with
  | none =>
    have:=List.find?_range_eq_none.mp e (x.length - 1) (by omega)
    rw [show x.length - 1 + 1=x.length by omega,rotT_full] at this
    simp at this
  | some t =>
    obtain ⟨h1,h2,h3⟩:=List.find?_range_eq_some.mp e
    have h2:=List.mem_range.mp h2
    simp only [Option.getD_some]
    refine ⟨by omega,by simpa using h1,fun j j0 j1 hj=>?_⟩
    have:=h3 (j - 1) (by omega)
    rw [show j - 1 + 1=j by omega,hj] at this
    simp at this
theorem rotT_mul {x:LN} {e:Nat} (h:rotT x e=x):∀ k,rotT x (e * k)=x
  | 0=>rfl
  | k + 1=>by rw [Nat.mul_succ,rotT_add,rotT_mul h k,h]
theorem ownT_dvd {x:LN} (hx:0 < x.length) {t:Nat} (h:rotT x t=x):ownT x ∣ t:=by
  obtain ⟨⟨h1,h2⟩,h3,h4⟩:=ownT_spec hx
  have e:=Nat.div_add_mod t (ownT x)
  have m:=Nat.mod_lt t (show 0 < ownT x by omega)
  by_cases hz:t % ownT x=0
  · exact Nat.dvd_of_mod_eq_zero hz
  · have:rotT x (t % ownT x)=x:=by
      rw [← e,rotT_add,rotT_mul h3] at h
      exact h
    exact absurd this (h4 _ (by omega) m)
theorem ownT_eq {x:LN} (hx:0 < x.length) {e:Nat} (h1:0 < e) (h2:rotT x e=x) (h3:∀ t,0 < t→t < e→rotT x t≠x):ownT x=e:=by
  obtain ⟨⟨a1,a2⟩,a3,a4⟩:=ownT_spec hx
  rcases Nat.lt_trichotomy (ownT x) e with z | z | z
  · exact absurd a3 (h3 _ (by omega) z)
  · exact z
  · exact absurd h2 (a4 _ h1 z)
theorem rot1_own {x:LN} (hx:0 < x.length):ownT (rot1 x)=ownT x:=by
  have k:∀ t,rotT (rot1 x) t=rot1 (rotT x t):=fun t=>by
    have:=rotT_add x 1 t
    rw [show (1 + t)=t + 1 by omega] at this
    exact this.symm
  obtain ⟨⟨a1,a2⟩,a3,a4⟩:=ownT_spec hx
  refine ownT_eq (by rw [rot1_length]; exact hx) a1 (by rw [k,a3]) fun t t0 t1 h=>a4 t t0 t1 ?_
  rw [k] at h
  exact rot1_inj h
theorem orbit_dvd (e:Nat) (he:0 < e):∀ (n:Nat) (L:List LN),L.length=n→L.Nodup→(∀ x∈L,0 < x.length∧ownT x=e)→(∀ x∈L,rot1 x∈L)→e ∣ L.length:=by
  intro n
  induction n using Nat.strongRecOn with
  | ind n ih =>
    intro L hL hn ho hc
    cases L with
    | nil=>exact Nat.dvd_zero _
    | cons x L0 =>
      have hx:x∈x :: L0:=by simp
      generalize hLL:x :: L0=L at *
      obtain ⟨x0,xe⟩:=ho x hx
      obtain ⟨⟨a1,a2⟩,a3,a4⟩:=ownT_spec x0
      rw [xe] at a1 a2 a3 a4
      have all:∀ t,rotT x t∈L:=fun t=>by
        induction t with
        | zero=>exact hx
        | succ t it=>exact hc _ it
      have orbN:((List.range e).map (rotT x)).Nodup:=by
        rw [List.Nodup,List.pairwise_map]
        refine List.Pairwise.imp_of_mem ?_ List.pairwise_lt_range
        intro i j hi hj hij h
        have hi:=List.mem_range.mp hi
        have hj:=List.mem_range.mp hj
        have:x=rotT x (j - i):=by
          have e2:=rotT_add x (j - i) i
          rw [show j - i + i=j by omega,← h] at e2
          exact rotT_inj e2
        exact a4 (j - i) (by omega) (by omega) this.symm
      generalize hO:(List.range e).map (rotT x)=O at orbN
      have memO:∀ y,y∈O ↔ ∃ i,i < e∧rotT x i=y:=fun y=>by
        rw [← hO]
        simp [List.mem_map,List.mem_range]
      have hOl:O.length=e:=by rw [← hO]; simp
      have l1:(L.filter fun y=>decide (y∈O)).length=e:=by
        rw [← hOl]
        refine eq_len (hn.sublist List.filter_sublist) orbN fun y=>?_
        rw [List.mem_filter,decide_eq_true_eq]
        refine ⟨fun h=>h.2,fun h=>⟨?_,h⟩⟩
        obtain ⟨i,_,rfl⟩:=(memO y).mp h
        exact all i
      have l2:L.length=(L.filter fun y=>decide (y∈O)).length + (L.filter fun y=>!decide (y∈O)).length:=by
        have:∀ (M:List LN),M.length=(M.filter fun y=>decide (y∈O)).length + (M.filter fun y=>!decide (y∈O)).length:=fun M=>by
          induction M with
          | nil=>rfl
          | cons y M im =>
            rw [List.filter_cons,List.filter_cons,List.length_cons,im]
            by_cases hy:y∈O
            · simp [hy]; omega
            · simp [hy]; omega
        exact this L
      have r:=ih (L.filter fun y=>!decide (y∈O)).length (by omega) (L.filter fun y=>!decide (y∈O)) rfl (hn.sublist List.filter_sublist) (fun y hy=>ho y (List.mem_filter.mp hy).1) fun y hy=>by
        obtain ⟨y1,y2⟩:=List.mem_filter.mp hy
        have y2:y ∉ O:=by simpa using y2
        refine List.mem_filter.mpr ⟨hc y y1, ?_⟩
        simp only [Bool.not_eq_true',decide_eq_false_iff_not]
        intro z
        obtain ⟨i,hi,hz⟩:=(memO _).mp z
        refine y2 ((memO y).mpr ?_)
        cases i with
        | zero =>
          refine ⟨e - 1,by omega,rot1_inj ?_⟩
          have:rotT x (e - 1 + 1)=x:=by rw [show e - 1 + 1=e by omega]; exact a3
          rw [← hz]
          exact this
        | succ i=>exact ⟨i,by omega,rot1_inj hz⟩
      rw [l2,l1]
      exact Nat.dvd_add (Nat.dvd_refl _) r
noncomputable def allB:Nat→Nat→List LN
  | 0,m=>if m=0 then [[]] else []
  | d + 1,m=>(List.range (m + 1)).flatMap fun h=>(allB d (m - h)).map (h :: ·)
theorem mem_allB:∀ (d m:Nat) (x:LN),x∈allB d m ↔ x.length=d∧x.sum=m
  | 0,m,x=>by
    unfold allB
    by_cases h:m=0
    · subst h
      simp only [if_true,List.mem_singleton]
      exact ⟨fun e=>by subst e; exact ⟨rfl,rfl⟩,fun e=>List.length_eq_zero_iff.mp e.1⟩
    · simp only [if_neg h,List.not_mem_nil,false_iff,not_and]
      intro e
      rw [List.length_eq_zero_iff.mp e]
      simp only [List.sum_nil]
      omega
  | d + 1,m,x=>by
    unfold allB
    simp only [List.mem_flatMap,List.mem_range,List.mem_map,mem_allB d]
    constructor
    · rintro ⟨h,hh,y,⟨y1,y2⟩,rfl⟩
      simp only [List.length_cons,List.sum_cons]
      omega
    · rintro ⟨h1,h2⟩
      cases x with
      | nil=>simp at h1
      | cons a l =>
        simp only [List.length_cons,List.sum_cons] at h1 h2
        exact ⟨a,by omega,l,⟨by omega,by omega⟩,rfl⟩
theorem nodup_flat {α β:Type} {f:α→List β}:∀ {l:List α},(∀ a∈l,(f a).Nodup)→l.Nodup→(∀ a∈l,∀ b∈l,a≠b→∀ y∈f a,y ∉ f b)→(l.flatMap f).Nodup
  | [],_,_,_=>by simp
  | a :: l,h1,h2,h3=>by
    obtain ⟨n1,n2⟩:=List.nodup_cons.mp h2
    rw [List.flatMap_cons,List.nodup_append]
    refine ⟨h1 a (by simp),nodup_flat (fun b hb=>h1 b (by simp [hb])) n2 (fun b hb c hc=>h3 b (by simp [hb]) c (by simp [hc])),fun y hy z hz e=>?_⟩
    subst e
    obtain ⟨b,hb,hyb⟩:=List.mem_flatMap.mp hz
    exact h3 a (by simp) b (by simp [hb]) (fun e=>n1 (by rw [e]; exact hb)) y hy hyb
theorem nodup_map' {α β:Type} {f:α→β} (hf:∀ a b,f a=f b→a=b):∀ {l:List α},l.Nodup→(l.map f).Nodup
  | [],_=>by simp
  | a :: l,h=>by
    obtain ⟨n1,n2⟩:=List.nodup_cons.mp h
    rw [List.map_cons,List.nodup_cons]
    refine ⟨fun z=>?_,nodup_map' hf n2⟩
    obtain ⟨b,hb,e⟩:=List.mem_map.mp z
    exact n1 (by rw [← hf _ _ e]; exact hb)
theorem nodup_allB:∀ (d m:Nat),(allB d m).Nodup
  | 0,m=>by
    unfold allB
    split <;> simp
  | d + 1,m=>by
    unfold allB
    refine nodup_flat (fun h _=>nodup_map' (fun a b e=>(List.cons.inj e).2) (nodup_allB d _)) List.nodup_range fun a _ b _ hab y hy hz=>?_
    obtain ⟨u,_,rfl⟩:=List.mem_map.mp hy
    obtain ⟨v,_,e⟩:=List.mem_map.mp hz
    exact hab (List.cons.inj e).1.symm
noncomputable def sumT:Nat→(Nat→Nat)→Nat
  | 0,_=>0
  | n + 1,f=>sumT n f + f n
theorem sumT_list (f:Nat→Nat):∀ n,((List.range n).map f).sum=sumT n f
  | 0=>rfl
  | n + 1=>by rw [List.range_succ,List.map_append,List.sum_append,sumT_list f n]; simp [sumT]
theorem sumT_congr {f g:Nat→Nat}:∀ {n:Nat},(∀ i,i < n→f i=g i)→sumT n f=sumT n g
  | 0,_=>rfl
  | n + 1,h=>by simp only [sumT]; rw [sumT_congr (n:=n) fun i hi=>h i (by omega),h n (by omega)]
theorem sumT_head (f:Nat→Nat):∀ n,sumT (n + 1) f=f 0 + sumT n fun i=>f (i + 1)
  | 0=>by simp [sumT]
  | n + 1=>by
    have ih:=sumT_head f n
    simp only [sumT] at ih ⊢
    omega
theorem sumT_rev (f:Nat→Nat):∀ n,(sumT (n + 1) fun h=>f (n - h))=sumT (n + 1) f
  | 0=>rfl
  | n + 1=>by
    rw [sumT_head]
    have ih:=sumT_rev f n
    rw [show (sumT (n + 1) fun i=>f (n + 1 - (i + 1)))=sumT (n + 1) fun h=>f (n - h) from sumT_congr fun i _=>by congr 1; omega,ih]
    simp only [sumT]
    show f (n + 1) + _=_
    omega
theorem bN_sum (k:Nat):∀ m,sumT (m + 1) (fun j=>L2.bN j k)=L2.bN m (k + 1)
  | 0=>by simp [sumT]
  | m + 1=>by
    have ih:=bN_sum k m
    simp only [sumT] at ih ⊢
    rw [L2.bN_step]
    omega
theorem len_flat {f:Nat→List LN}:∀ n,((List.range n).flatMap f).length=sumT n fun h=>(f h).length
  | 0=>rfl
  | n + 1=>by rw [List.range_succ,List.flatMap_append,List.length_append,len_flat n]; simp [sumT]
theorem len_allB:∀ (d m:Nat),(allB (d + 1) m).length=L2.bN m d
  | 0,m=>by
    unfold allB
    rw [len_flat]
    have h:(sumT (m + 1) fun h=>((allB 0 (m - h)).map (h :: ·)).length)=sumT (m + 1) fun h=>if m - h=0 then 1 else 0:=sumT_congr fun i _=>by
      rw [List.length_map]
      unfold allB
      split <;> rfl
    rw [h,sumT_rev (fun j=>if j=0 then 1 else 0) m]
    have:∀ n,sumT (n + 1) (fun j=>if j=0 then 1 else 0)=1:=fun n=>by
      induction n with
      | zero=>rfl
      | succ n ih=>rw [sumT,ih]; simp
    rw [this]
    simp
  | d + 1,m=>by
    rw [allB,len_flat]
    rw [show (sumT (m + 1) fun h=>((allB (d + 1) (m - h)).map (h :: ·)).length)=sumT (m + 1) fun h=>L2.bN (m - h) d from sumT_congr fun i _=>by rw [List.length_map,len_allB d]]
    rw [sumT_rev (fun j=>L2.bN j d) m,bN_sum]
end My
namespace My
noncomputable def rep (y:LN):Nat→LN
  | 0=>[]
  | k + 1=>y ++ rep y k
theorem rep_back (y:LN):∀ k,rep y k ++ y=y ++ rep y k
  | 0=>by simp [rep]
  | k + 1=>by simp only [rep]; rw [List.append_assoc,rep_back y k]
theorem rep_length (y:LN):∀ k,(rep y k).length=y.length * k
  | 0=>rfl
  | k + 1=>by simp only [rep]; rw [List.length_append,rep_length y k,Nat.mul_succ]; omega
theorem rep_sum (y:LN):∀ k,(rep y k).sum=k * y.sum
  | 0=>by simp [rep]
  | k + 1=>by simp only [rep]; rw [List.sum_append,rep_sum y k,Nat.succ_mul]; omega
theorem rep_shift (a:Nat) (l:LN):∀ k,rep (l ++ [a]) k ++ l=l ++ rep (a :: l) k
  | 0=>by simp [rep]
  | k + 1=>by simp only [rep]; rw [List.append_assoc,rep_shift a l k]; simp
theorem rot1_rep (y:LN):∀ k,rot1 (rep y k)=rep (rot1 y) k
  | 0=>rfl
  | k + 1=>by
    cases y with
    | nil =>
      have:∀ j,rep ([]:LN) j=[]:=fun j=>by induction j with | zero=>rfl | succ j ih=>simp [rep,ih]
      rw [this,rot1,this]
    | cons a l =>
      simp only [rep,List.cons_append,rot1]
      rw [← rep_shift,List.append_assoc,rep_back]
theorem rotT_rep (y:LN) (k:Nat):∀ t,rotT (rep y k) t=rep (rotT y t) k
  | 0=>rfl
  | t + 1=>by simp only [rotT]; rw [rotT_rep y k t,rot1_rep]
theorem rep_inj {y z:LN} {k:Nat} (hk:0 < k) (hl:y.length=z.length) (h:rep y k=rep z k):y=z:=by
  obtain ⟨j,rfl⟩:∃ j,k=j + 1:=⟨k - 1,by omega⟩
  simp only [rep] at h
  exact (List.append_inj h hl).1
theorem own_rep {y:LN} {k:Nat} (hy:0 < y.length) (hk:0 < k):ownT (rep y k)=ownT y:=by
  obtain ⟨⟨a1,a2⟩,a3,a4⟩:=ownT_spec hy
  refine ownT_eq (by rw [rep_length]; exact Nat.mul_pos hy hk) a1 (by rw [rotT_rep,a3]) fun t t0 t1 h=>a4 t t0 t1 ?_
  rw [rotT_rep] at h
  exact rep_inj hk (rotT_length y t) h
theorem comm_rep {y:LN}:∀ (m:Nat) (z:LN),z.length=y.length * m→y ++ z=z ++ y→z=rep y m
  | 0,z,hl,_=>by
    rw [Nat.mul_zero] at hl
    rw [List.length_eq_zero_iff.mp hl]; rfl
  | m + 1,z,hl,h=>by
    rw [Nat.mul_succ] at hl
    have h1:z=y ++ z.drop y.length:=by
      have e:=congrArg (List.take y.length) h
      rw [List.take_left' rfl,List.take_append_of_le_length (by omega)] at e
      conv=>lhs; rw [← List.take_append_drop y.length z]
      rw [← e]
    have h2:y ++ z.drop y.length=z.drop y.length ++ y:=by
      have:y ++ (y ++ z.drop y.length)=y ++ (z.drop y.length ++ y):=by
        rw [← h1,h]
        conv=>lhs; rw [h1]
        rw [List.append_assoc]
      exact List.append_cancel_left this
    rw [rep,← comm_rep m (z.drop y.length) (by rw [List.length_drop]; omega) h2]
    exact h1
theorem per_rep {x:LN} {e k:Nat} (he:0 < e) (hk:0 < k) (hl:x.length=e * k) (h:rotT x e=x):(x.take e).length=e∧x=rep (x.take e) k:=by
  obtain ⟨j,rfl⟩:∃ j,k=j + 1:=⟨k - 1,by omega⟩
  have hle:e≤x.length:=by rw [hl,Nat.mul_succ]; omega
  have lt:(x.take e).length=e:=by rw [List.length_take]; omega
  refine ⟨lt, ?_⟩
  rw [rotT_cut x e hle] at h
  have hc:x.take e ++ x.drop e=x.drop e ++ x.take e:=by rw [List.take_append_drop,h]
  have:=comm_rep j (x.drop e) (by rw [List.length_drop,hl,lt,Nat.mul_succ]; omega) hc
  rw [rep,← this,List.take_append_drop]
theorem sumT_add (f g:Nat→Nat):∀ n,(sumT n fun i=>f i + g i)=sumT n f + sumT n g
  | 0=>rfl
  | n + 1=>by simp only [sumT]; rw [sumT_add f g n]; omega
theorem sumT_zero:∀ n,(sumT n fun _=>0)=0
  | 0=>rfl
  | n + 1=>by simp only [sumT]; rw [sumT_zero n]
theorem sumT_one {a v:Nat}:∀ {n:Nat},a < n→(sumT n fun e=>if a=e then v else 0)=v
  | 0,h=>by omega
  | n + 1,h=>by
    simp only [sumT]
    by_cases ha:a=n
    · subst ha
      rw [if_pos rfl,sumT_congr (g:=fun _=>0) fun i hi=>if_neg (by omega),sumT_zero]; omega
    · rw [if_neg ha,sumT_one (n:=n) (by omega),Nat.add_zero]
theorem sumT_swap (f:Nat→Nat→Nat) (m:Nat):∀ n,(sumT n fun k=>sumT m fun e=>f k e)=sumT m fun e=>sumT n fun k=>f k e
  | 0=>(sumT_zero m).symm
  | n + 1=>by
    simp only [sumT]
    rw [sumT_swap f m n,← sumT_add]
theorem sumT_ext {f:Nat→Nat} {n:Nat}:∀ {m:Nat},n≤m→(∀ i,n≤i→i < m→f i=0)→sumT m f=sumT n f
  | 0,h,_=>by rw [show n=0 by omega]
  | m + 1,h,hz=>by
    by_cases hm:n=m + 1
    · rw [hm]
    · simp only [sumT]
      rw [sumT_ext (m:=m) (by omega) fun i h1 h2=>hz i h1 (by omega),hz m (by omega) (by omega)]; omega
theorem sumT_mul (c:Nat) (f:Nat→Nat):∀ n,(sumT n fun i=>c * f i)=c * sumT n f
  | 0=>rfl
  | n + 1=>by simp only [sumT]; rw [sumT_mul c f n,Nat.mul_add]
theorem sumT_dvd {e v:Nat} (he:0 < e):∀ m,(sumT (e * m) fun k=>if e ∣ k then v else 0)=m * v
  | 0=>by simp [sumT]
  | m + 1=>by
    have blk:∀ j,j < e→(sumT (e * m + (j + 1)) fun k=>if e ∣ k then v else 0)=m * v + v:=fun j=>by
      induction j with
      | zero =>
        intro _
        show sumT (e * m) _ + (if e ∣ e * m then v else 0)=_
        rw [sumT_dvd he m,if_pos (Nat.dvd_mul_right e m)]
      | succ j ih =>
        intro hj
        show sumT (e * m + (j + 1)) _ + (if e ∣ e * m + (j + 1) then v else 0)=_
        rw [ih (by omega),if_neg]
        · rfl
        · intro z
          have:=(Nat.dvd_add_right (Nat.dvd_mul_right e m)).mp z
          have:=Nat.le_of_dvd (by omega) this
          omega
    have:=blk (e - 1) (by omega)
    rw [show e * m + (e - 1 + 1)=e * (m + 1) by rw [Nat.mul_succ]; omega] at this
    rw [this,Nat.succ_mul]
theorem len_by {d:Nat}:∀ {L:List LN},(∀ x∈L,ownT x≤d)→L.length=sumT (d + 1) fun e=>(L.filter fun x=>decide (ownT x=e)).length
  | [],_=>by simp [sumT_zero]
  | x :: L,h=>by
    have hx:=h x (by simp)
    rw [List.length_cons,len_by (L:=L) fun y hy=>h y (by simp [hy])]
    have h1:=sumT_one (a:=ownT x) (v:=1) (n:=d + 1) (by omega)
    have h2:∀ A B C:Nat,B=1→A + B=C→A + 1=C:=fun A B C hb hc=>by rw [hb] at hc; exact hc
    refine h2 _ _ _ h1 ?_
    rw [← sumT_add]
    refine sumT_congr fun e _=>?_
    rw [List.filter_cons]
    by_cases he:ownT x=e
    · simp [he]
    · simp [he]
section
variable (p s:Nat)
noncomputable def admR (d:Nat):Prop:=p ∣ s * d
noncomputable instance (d:Nat):Decidable (admR p s d):=inferInstanceAs (Decidable (p ∣ s * d))
noncomputable def mR (d:Nat):Nat:=s * d / p
noncomputable def primR (e:Nat):Nat:=if admR p s e then ((allB e (mR p s e)).filter fun x=>decide (ownT x=e)).length else 0
noncomputable def fixR (d:Nat):Nat:=if admR p s d then (allB d (mR p s d)).length else 0
variable {p s}
theorem prim_dvd (e:Nat) (he:0 < e):e ∣ primR p s e:=by
  unfold primR
  split
  · refine orbit_dvd e he _ _ rfl ((nodup_allB _ _).sublist List.filter_sublist) (fun x hx=>?_) fun x hx=>?_
    · obtain ⟨h1,h2⟩:=List.mem_filter.mp hx
      rw [mem_allB] at h1
      exact ⟨by omega,by simpa using h2⟩
    · obtain ⟨h1,h2⟩:=List.mem_filter.mp hx
      rw [mem_allB] at h1
      refine List.mem_filter.mpr ⟨(mem_allB _ _ _).mpr ⟨by rw [rot1_length]; exact h1.1,by rw [rot1_sum]; exact h1.2⟩, ?_⟩
      rw [rot1_own (by omega)]; exact h2
  · exact Nat.dvd_zero _
theorem fix_sum (hp:0 < p) {d:Nat} (hd:0 < d):fixR p s d=sumT (d + 1) fun e=>if e ∣ d then primR p s e else 0:=by
  have part:∀ e k,0 < e→d=e * k→admR p s e→admR p s d:=fun e k _ h1 h2=>by
    unfold admR at h2 ⊢
    rw [h1,← Nat.mul_assoc]
    exact Nat.dvd_trans h2 (Nat.dvd_mul_right _ _)
  unfold fixR
  by_cases ha:admR p s d
  · rw [if_pos ha]
    have hm:p * mR p s d=s * d:=Nat.mul_div_cancel' ha
    rw [len_by (d:=d) fun x hx=>by
      rw [mem_allB] at hx
      have:=(ownT_spec (x:=x) (by omega)).1
      omega]
    refine sumT_congr fun e he=>?_
    by_cases h:e ∣ d
    · rw [if_pos h]
      obtain ⟨k,hk⟩:=h
      have he0:0 < e:=by
        rcases Nat.eq_zero_or_pos e with z | z
        · rw [z] at hk; simp at hk; omega
        · exact z
      have hk0:0 < k:=by
        rcases Nat.eq_zero_or_pos k with z | z
        · rw [z] at hk; simp at hk; omega
        · exact z
      have rel:∀ y:LN,p * (k * y.sum)=s * d→p * y.sum=s * e:=fun y h=>by
        rw [hk,← Nat.mul_assoc s e k,← Nat.mul_assoc p k,Nat.mul_comm p k,Nat.mul_assoc,Nat.mul_comm (s * e) k] at h
        exact Nat.eq_of_mul_eq_mul_left hk0 h
      unfold primR
      by_cases hae:admR p s e
      · rw [if_pos hae]
        have hme:p * mR p s e=s * e:=Nat.mul_div_cancel' hae
        have hmk:mR p s d=k * mR p s e:=by
          have:p * mR p s d=p * (k * mR p s e):=by
            rw [hm,hk,← Nat.mul_assoc,← hme,Nat.mul_assoc,Nat.mul_comm (mR p s e) k]
          exact Nat.eq_of_mul_eq_mul_left hp this
        have e1:((allB e (mR p s e)).filter fun x=>decide (ownT x=e)).length=(((allB e (mR p s e)).filter fun x=>decide (ownT x=e)).map fun y=>rep y k).length:=by rw [List.length_map]
        rw [e1]
        refine eq_len ((nodup_allB _ _).sublist List.filter_sublist) ?_ fun x=>?_
        · have inj:∀ (l:List LN),l.Nodup→(∀ y∈l,y.length=e)→(l.map fun y=>rep y k).Nodup:=fun l=>by
            induction l with
            | nil=>intro _ _; simp
            | cons a l ih =>
              intro hn hl
              obtain ⟨n1,n2⟩:=List.nodup_cons.mp hn
              rw [List.map_cons,List.nodup_cons]
              refine ⟨fun z=>?_,ih n2 fun y hy=>hl y (by simp [hy])⟩
              obtain ⟨b,hb,hbe⟩:=List.mem_map.mp z
              have:=rep_inj hk0 (by rw [hl b (by simp [hb]),hl a (by simp)]) hbe
              exact n1 (by rw [← this]; exact hb)
          exact inj _ ((nodup_allB _ _).sublist List.filter_sublist) fun y hy=>((mem_allB _ _ _).mp (List.mem_filter.mp hy).1).1
        · rw [List.mem_filter,List.mem_map,mem_allB,decide_eq_true_eq]
          constructor
          · rintro ⟨⟨h1,h2⟩,h3⟩
            have hx:=ownT_spec (x:=x) (by omega)
            rw [h3] at hx
            obtain ⟨q1,q2⟩:=per_rep he0 hk0 (by rw [h1,hk]) hx.2.1
            refine ⟨x.take e,List.mem_filter.mpr ⟨(mem_allB _ _ _).mpr ⟨q1, ?_⟩, ?_⟩,q2.symm⟩
            · have h4:k * (x.take e).sum=mR p s d:=by rw [← rep_sum,← q2,h2]
              have h5:=rel (x.take e) (by rw [h4,hm])
              rw [← hme] at h5
              exact Nat.eq_of_mul_eq_mul_left hp h5
            · have:=own_rep (y:=x.take e) (k:=k) (by omega) hk0
              rw [← q2,h3] at this
              simp [← this]
          · rintro ⟨y,hy,rfl⟩
            obtain ⟨y1,y2⟩:=List.mem_filter.mp hy
            rw [mem_allB] at y1
            refine ⟨⟨by rw [rep_length,y1.1,hk],by rw [rep_sum,y1.2,hmk]⟩, ?_⟩
            rw [own_rep (by omega) hk0]
            simpa using y2
      · rw [if_neg hae]
        refine List.length_eq_zero_iff.mpr (List.filter_eq_nil_iff.mpr fun x hx h3=>hae ?_)
        have h3:ownT x=e:=by simpa using h3
        rw [mem_allB] at hx
        have hx2:=ownT_spec (x:=x) (by omega)
        rw [h3] at hx2
        obtain ⟨q1,q2⟩:=per_rep he0 hk0 (by rw [hx.1,hk]) hx2.2.1
        have h4:k * (x.take e).sum=mR p s d:=by rw [← rep_sum,← q2,hx.2]
        have h5:=rel (x.take e) (by rw [h4,hm])
        exact ⟨_,h5.symm⟩
    · rw [if_neg h]
      refine List.length_eq_zero_iff.mpr (List.filter_eq_nil_iff.mpr fun x hx h3=>h ?_)
      have h3:ownT x=e:=by simpa using h3
      rw [mem_allB] at hx
      have:=ownT_dvd (x:=x) (by omega) (rotT_full x)
      rw [h3,hx.1] at this
      exact this
  · rw [if_neg ha,sumT_congr (g:=fun _=>0),sumT_zero]
    intro e he
    by_cases h:e ∣ d
    · rw [if_pos h]
      obtain ⟨k,hk⟩:=h
      have he0:0 < e:=by
        rcases Nat.eq_zero_or_pos e with z | z
        · rw [z] at hk; simp at hk; omega
        · exact z
      unfold primR
      exact if_neg fun z=>ha (part e k he0 hk z)
    · exact if_neg h
noncomputable def byT (p s:Nat):Nat:=sumT (p + 1) fun e=>if e ∣ p then primR p s e / e else 0
theorem ring_by (hp:0 < p):(sumT p fun k=>fixR p s (Nat.gcd p k))=p * byT p s:=by
  have e1:(sumT p fun k=>fixR p s (Nat.gcd p k))=sumT p fun k=>sumT (p + 1) fun e=>if e ∣ p∧e ∣ k then primR p s e else 0:=sumT_congr fun k _=>by
    have g0:0 < Nat.gcd p k:=Nat.gcd_pos_of_pos_left _ hp
    have g1:Nat.gcd p k≤p:=Nat.gcd_le_left _ hp
    rw [fix_sum hp g0,← sumT_ext (n:=Nat.gcd p k + 1) (m:=p + 1) (by omega) fun i h1 h2=>if_neg fun z=>by
      have:=Nat.le_of_dvd g0 z; omega]
    refine sumT_congr fun e _=>?_
    by_cases h:e ∣ Nat.gcd p k
    · rw [if_pos h,if_pos ⟨Nat.dvd_trans h (Nat.gcd_dvd_left _ _),Nat.dvd_trans h (Nat.gcd_dvd_right _ _)⟩]
    · rw [if_neg h,if_neg fun z=>h (Nat.dvd_gcd z.1 z.2)]
  rw [e1,sumT_swap]
  unfold byT
  rw [← sumT_mul]
  refine sumT_congr fun e he=>?_
  by_cases h:e ∣ p
  · have he0:0 < e:=Nat.pos_of_dvd_of_pos h hp
    rw [if_pos h]
    obtain ⟨m,hm⟩:=h
    obtain ⟨q,hq⟩:=prim_dvd (p:=p) (s:=s) e he0
    rw [show (sumT p fun k=>if e ∣ p∧e ∣ k then primR p s e else 0)=sumT p fun k=>if e ∣ k then primR p s e else 0 from sumT_congr fun k _=>by
      by_cases h2:e ∣ k
      · rw [if_pos h2,if_pos ⟨⟨m,hm⟩,h2⟩]
      · rw [if_neg h2,if_neg fun z=>h2 z.2]]
    rw [show sumT p (fun k=>if e ∣ k then primR p s e else 0)=sumT (e * m) (fun k=>if e ∣ k then primR p s e else 0) by rw [← hm],sumT_dvd he0,hq,Nat.mul_div_cancel_left _ he0,← Nat.mul_assoc,Nat.mul_comm m e,← hm]
  · rw [if_neg h,sumT_congr (g:=fun _=>0) fun k _=>if_neg fun z=>h z.1,sumT_zero]; simp
end
end My
namespace My
noncomputable def tK (p s i:Nat):List Nat:=((List.range i).map (· + 1)).filter fun t=>decide (t ∣ p∧admR p s t)
section
variable {p s:Nat}
theorem tK_succ (i:Nat):tK p s (i + 1)=tK p s i ++ if i + 1 ∣ p∧admR p s (i + 1) then [i + 1] else []:=by
  unfold tK
  rw [List.range_succ,List.map_append,List.filter_append]
  congr 1
  by_cases h:i + 1 ∣ p∧admR p s (i + 1)
  · simp [h]
  · simp [h]
theorem mem_tK {i t:Nat}:t∈tK p s i ↔ (1≤t∧t≤i)∧t ∣ p∧admR p s t:=by
  unfold tK
  rw [List.mem_filter,List.mem_map,decide_eq_true_eq]
  constructor
  · rintro ⟨⟨a,ha,rfl⟩,h⟩
    have:=List.mem_range.mp ha
    exact ⟨by omega,h⟩
  · rintro ⟨h1,h2⟩
    exact ⟨⟨t - 1,List.mem_range.mpr (by omega),by omega⟩,h2⟩
theorem tK_len (i:Nat):(tK p s i).length≤i:=by
  unfold tK
  have:=List.length_filter_le (fun t=>decide (t ∣ p∧admR p s t)) ((List.range i).map (· + 1))
  simpa using this
theorem sum_tK {t:Nat} (ht:t ∣ p) (h0:0 < t):∀ i,(((tK p s i).filter fun e=>decide (e ∣ t)).map (primR p s)).sum=sumT (i + 1) fun e=>if e ∣ t then primR p s e else 0
  | 0=>by
    have:¬ (0 ∣ t):=fun z=>by have:=Nat.eq_zero_of_zero_dvd z; omega
    simp [tK,sumT,this]
  | i + 1=>by
    rw [tK_succ,List.filter_append,List.map_append,List.sum_append,sum_tK ht h0 i,sumT]
    congr 1
    show _=if i + 1 ∣ t then primR p s (i + 1) else 0
    by_cases h:i + 1 ∣ t
    · rw [if_pos h]
      by_cases ha:admR p s (i + 1)
      · rw [if_pos ⟨Nat.dvd_trans h ht,ha⟩]; simp [h]
      · rw [if_neg fun z=>ha z.2]
        unfold primR
        rw [if_neg ha]; rfl
    · rw [if_neg h]
      split
      · simp [h]
      · rfl
theorem fix_step (hp:0 < p) {i:Nat} (ht:i + 1 ∣ p):fixR p s (i + 1)=(((tK p s i).filter fun e=>decide (e ∣ i + 1)).map (primR p s)).sum + primR p s (i + 1):=by
  rw [fix_sum hp (by omega),sumT,if_pos (Nat.dvd_refl _),sum_tK ht (by omega)]
theorem fix_cb {t:Nat} (h1:1≤t) (ha:admR p s t):L2.cbN (t:Int) ((s * t / p:Nat):Int)=(fixR p s t:Nat):=by
  obtain ⟨d,rfl⟩:∃ d,t=d + 1:=⟨t - 1,by omega⟩
  rw [L2.cbN_bN (Int.natCast_nonneg _),Int.toNat_natCast]
  unfold fixR
  rw [if_pos ha,len_allB]
  congr 2
  omega
end
end My
namespace My
open L2
noncomputable def tab (n:Nat) (f:Nat→Int):List Int:=(List.range n).map f
structure Board (ns:List Int):Prop where
  lo:2≤ns.length
  hi:ns.length≤24
  nn:∀ x∈ns,0≤x
  sm:ns.sum≤10 ^ 60
noncomputable def sowA (ns:List Int) (p:Int) (x:Nat):Int:=(if (x:Int)=p then 0 else ns.getD x 0) + ns.getD p.toNat 0 / ns.length
noncomputable def sowI (n:Int) (p:Int) (i:Int) (x:Nat):Int:=if 1≤((x:Int) - p) % n∧((x:Int) - p) % n≤i then 1 else 0
noncomputable def sowF (ns:List Int) (p:Int) (i:Int) (x:Nat):Int:=sowA ns p x + sowI ns.length p i x
noncomputable def sowB (ns:List Int) (p:Int):List Int:=tab ns.length (sowF ns p (ns.getD p.toNat 0 % ns.length))
noncomputable def sowL (ns:List Int) (p:Int):Int:=(p + ns.getD p.toNat 0 % ns.length) % ns.length
section
variable {ns:List Int} {p:Int}
end
noncomputable def run (f:Nat→Int):Nat→Nat→Nat
  | 0,i=>i
  | k + 1,i=>if 0 < f i then run f k (i + 1) else i
section
variable {ns:List Int} {q:Int}
end
end My
namespace My
open L2
noncomputable def sowS (a:List Int × Int):List Int × Int:=(sowB a.1 a.2,sowL a.1 a.2)
noncomputable def its {α:Type} (f:α→α):Nat→α→α
  | 0,a=>a
  | n + 1,a=>f (its f n a)
end My
namespace My
open L2
section
variable {ns:List Int} {q:Int}
end
end My
namespace L2
open PySem PySem.Spec PyProof.Rows
noncomputable def KD {α:Type}:Sem α→Prop
  | .pure _=>True
  | .raise _=>True
  | .unsupported _=>True
  | .finish _=>True
  | .rule _ k=>KD (k ())
  | .at _ k=>KD (k ())
  | .load _ _ k=>∀ o,KD (k o)
  | .update _ _ f k=>(∀ o:Obj,(f o).dict=o.dict∧(o.isFreed=false→(f o).isFreed=false))∧KD (k ())
  | .alloc _ k=>∀ a,KD (k a)
  | .loadIfAlive _ k=>∀ o,KD (k o)
  | .point _ k=>KD (k ())
  | .register _ _=>True
  | .fresh k=>∀ t,KD (k t)
  | .ask k=>∀ x,KD (k x)
  | .choose _ _ k=>∀ n,KD (k n)
  | .os _ _ k=>∀ r,KD (k r)
  | .call _ _ _ _ _=>False
  | .handled _ k=>∀ x,KD (k x)
  | .newGen _ k=>∀ g,KD (k g)
  | .genState _ k=>∀ x,KD (k x)
  | .resume _ _ _ _=>False
  | .yield _ _ _ _=>True
  | .stack k=>∀ x,KD (k x)
  | .fork _ _=>True
  | .thread k=>∀ x,KD (k x)
  | .await _ _ _ _ _=>True
noncomputable def DK (h h':Heap):Prop:=∀ b o,h.get? b=some o→∃ o',h'.get? b=some o'∧o'.dict=o.dict
theorem DK.refl (h:Heap):DK h h:=fun b o e=>⟨o,e,rfl⟩
theorem DK.trans {h1 h2 h3:Heap} (a:DK h1 h2) (b:DK h2 h3):DK h1 h3:=fun x o e=>by
  obtain ⟨o1,e1,d1⟩:=a x o e
  obtain ⟨o2,e2,d2⟩:=b x o1 e1
  exact ⟨o2,e2,d2.trans d1⟩
theorem kd_wp {M:Model} {Γ:PySem.Ctx} {α:Type} {Q:α→Pos→Shared→Prop} {E:Value→Pos→Shared→Prop} {h0:Heap}:∀ (t:Sem α) (p:Pos) (s:Shared),KD t→DK h0 s.heap→Sem.wp M Γ t Q E p s →
    Sem.wp M Γ t (fun a p' s'=>Q a p' s'∧DK h0 s'.heap) (fun e p' s'=>E e p' s'∧DK h0 s'.heap) p s:=by
  intro t
  induction t with
  | pure a=>intro p s _ d h; exact ⟨h,d⟩
  | raise e=>intro p s _ d h; exact ⟨h,d⟩
  | unsupported w=>intro p s _ _ h; exact h
  | finish e=>intro p s _ _ h; exact h
  | rule t k ih=>intro p s k d h; exact ih () p s k d h
  | «at» q k ih=>intro p s k d h; exact ih () q s k d h
  | load a q k ih=>intro p s k d h; obtain ⟨o,e,h⟩:=h; exact ⟨o,e,ih o p s (k o) d h⟩
  | update a q f k ih =>
    intro p s k d h
    refine ⟨h.1,ih () p _ k.2 (d.trans fun b o e=>?_) h.2⟩
    by_cases hb:a=b
    · subst hb
      exact ⟨_,Heap.get?_update_self f e ((k.1 o).2 (Heap.get?_some_iff.mp e).2),(k.1 o).1⟩
    · exact ⟨o,(Heap.get?_update_other _ f hb).trans e,rfl⟩
  | alloc o k ih=>intro p s k d h; exact ih _ p _ (k _) (d.trans fun b o' e=>⟨o',Heap.get?_push_of_some _ e,rfl⟩) h
  | loadIfAlive a k ih=>intro p s k d h; exact ih _ p s (k _) d h
  | point l k ih=>intro p s k d h; exact ih () p s k d h
  | register a k ih=>intro p s _ _ h; exact h
  | fresh k ih=>intro p s k d h; exact ih _ p _ (k _) d h
  | ask k ih=>intro p s k d h; exact ih _ p _ (k _) d h
  | choose a n k ih=>intro p s k d h; exact ⟨h.1,ih _ p _ (k _) d h.2⟩
  | os q l k ih=>intro p s k d h; exact ih _ p _ (k _) d h
  | call c h g l k ih=>intro p s k d h; exact k.elim
  | handled o k ih=>intro p s k d h; exact ih _ p _ (k _) d h
  | newGen c k ih=>intro p s k d h; exact ih _ p _ (k _) d h
  | genState g k ih=>intro p s k d h; obtain ⟨st,e,h⟩:=h; exact ⟨st,e,ih _ p s (k _) d h⟩
  | resume g r l k ih=>intro p s k d h; exact k.elim
  | yield v g l k ih=>intro p s _ _ h; exact h
  | stack k ih=>intro p s k d h; exact ih _ p _ (k _) d h
  | fork c k ih=>intro p s _ _ h; exact h
  | thread k ih=>intro p s k d h; exact ih _ p _ (k _) d h
  | await a t d l k ih=>intro p s _ _ h; exact h
theorem kd_any {M:Model} {A:Around} {α:Type} {t:Sem α} {Q:α→Shared→Prop} {E:Value→Shared→Prop} {s:Shared} (k:KD t) (h:wpAny M A t Q E s):wpAny M A t (fun a s'=>Q a s'∧DK s.heap s'.heap) (fun e s'=>E e s'∧DK s.heap s'.heap) s :=
  fun Γ p hΓ=>kd_wp t p s k (DK.refl _) (h Γ p hΓ)
theorem kd_bind {α β:Type}:∀ (m:Sem α) {f:α→Sem β},KD m→(∀ a,KD (f a))→KD (m >>= f):=by
  intro m f
  show KD m→_→KD (m.bind f)
  induction m with
  | pure a=>intro _ h; exact h a
  | raise e=>intro _ _; trivial
  | unsupported w=>intro _ _; trivial
  | finish e=>intro _ _; trivial
  | rule t k ih=>intro k h; exact ih () k h
  | «at» q k ih=>intro k h; exact ih () k h
  | load a q k ih=>intro k h o; exact ih o (k o) h
  | update a q g k ih=>intro k h; exact ⟨k.1,ih () k.2 h⟩
  | alloc o k ih=>intro k h a; exact ih a (k a) h
  | loadIfAlive a k ih=>intro k h o; exact ih o (k o) h
  | point l k ih=>intro k h; exact ih () k h
  | register a k ih=>intro _ _; trivial
  | fresh k ih=>intro k h a; exact ih a (k a) h
  | ask k ih=>intro k h a; exact ih a (k a) h
  | choose a n k ih=>intro k h a; exact ih a (k a) h
  | os q l k ih=>intro k h a; exact ih a (k a) h
  | call c h g l k ih=>intro k h; exact k.elim
  | handled o k ih=>intro k h a; exact ih a (k a) h
  | newGen c k ih=>intro k h a; exact ih a (k a) h
  | genState g k ih=>intro k h a; exact ih a (k a) h
  | resume g r l k ih=>intro k h; exact k.elim
  | yield v g l k ih=>intro _ _; trivial
  | stack k ih=>intro k h a; exact ih a (k a) h
  | fork c k ih=>intro _ _; trivial
  | thread k ih=>intro k h a; exact ih a (k a) h
  | await a t d l k ih=>intro _ _; trivial
theorem kd_pure {α:Type} {a:α}:KD (pure a:Sem α):=trivial
theorem kd_un {α:Type} {w:String}:KD (unsupported w:Sem α):=trivial
theorem kd_load {a:Addr}:KD (load a):=fun _=>trivial
theorem kd_map (g:Array Value→Array Value) (o:Obj):(Obj.mapFields g o).dict=o.dict∧(o.isFreed=false→(Obj.mapFields g o).isFreed=false):=by
  obtain ⟨c,d,dt,sl⟩:=o
  cases dt <;> exact ⟨rfl,fun h=>h⟩
theorem kd_fieldsOf (v:Value):KD (fieldsOf v):=by
  unfold fieldsOf
  cases v <;> try exact kd_un
  refine kd_bind _ kd_load fun o=>?_
  cases o.data <;> first | exact kd_pure | exact kd_un
theorem kd_field (v:Value) (i:Nat):KD (field v i):=by
  unfold field
  refine kd_bind _ (kd_fieldsOf v) fun vs=>?_
  cases vs[i]? <;> first | exact kd_pure | exact kd_un
theorem kd_setField (v:Value) (i:Nat) (x:Value):KD (setField v i x):=by
  unfold setField
  cases v <;> try exact kd_un
  unfold updateField
  refine kd_bind _ kd_load fun o=>?_
  cases o.data <;> try exact kd_un
  dsimp only
  split
  · exact ⟨fun o=>kd_map _ o,trivial⟩
  · exact kd_un
theorem kd_setFlight (e:Value) (f:Option Addr):KD (setFlight e f):=by
  unfold setFlight
  refine kd_bind _ (kd_field e 1) fun tb=>?_
  split
  · exact kd_setField _ _ _
  · exact kd_pure
theorem kd_newFields (ty:String) (vs:List Value):KD (newFields ty vs):=by
  unfold newFields newObj newObjAsIs
  dsimp only
  have al:∀ (o:Obj),KD (alloc o):=fun _ _=>trivial
  split
  · exact kd_bind _ kd_un fun _=>kd_bind _ (al _) fun _=>kd_pure
  · exact kd_bind _ (al _) fun _=>kd_pure
theorem kd_behind (env:Env) (outer:List Env):KD (behindIsImport env outer):=by
  unfold behindIsImport
  split
  · exact kd_pure
  · split
    · exact kd_pure
    · exact kd_bind _ (kd_field _ _) fun _=>kd_pure
theorem kd_keptBack (env:Env) (i:Bool) (outer:List Env):KD (keptBack env i outer):=by
  cases outer with
  | nil =>
    have u:KD underTheClaimsCaller:=by
      unfold underTheClaimsCaller
      exact kd_bind _ (show KD stack from fun _=>trivial) fun _=>kd_pure
    rw [keptBack]
    split
    · exact kd_pure
    · exact kd_bind _ u fun _=>kd_pure
  | cons c r=>unfold keptBack; exact kd_pure
theorem kd_slots {o:Obj} {sl:Array (Option Value)}:({ o with slots:=sl }:Obj).dict=o.dict∧(o.isFreed=false→({ o with slots:=sl }:Obj).isFreed=false):=by
  obtain ⟨c,d,dt,s⟩:=o
  cases dt <;> exact ⟨rfl,fun h=>h⟩
theorem kd_ready:∀ (l:List Env),KD (readyFrames l)
  | []=>trivial
  | env :: outer=>by
    unfold readyFrames
    cases env.frame with
    | none=>exact kd_un
    | some f =>
      dsimp only
      refine kd_bind _ kd_load fun o=>?_
      split
      · exact kd_pure
      · refine kd_bind _ (kd_behind _ _) fun _=>kd_bind _ (kd_keptBack _ _ _) fun _=>kd_bind _ ⟨fun o=>kd_slots,trivial⟩ fun _=>kd_ready outer
theorem kd_frameOf (env:Env):KD (PySem.frameOf env):=by
  unfold PySem.frameOf
  refine kd_bind _ ?_ fun l=>kd_bind _ ?_ fun r=>?_
  · unfold frameEnvs
    exact kd_bind _ (fun _=>trivial) fun _=>kd_pure
  · cases (List.dropWhile (fun x=>x.frame != env.frame) l) with
    | nil=>exact kd_pure
    | cons a r=>exact kd_bind _ (kd_ready _) fun _=>kd_pure
  · cases r <;> first | exact kd_pure | exact kd_un
theorem kd_place (f:Addr) (b:Bool):KD (entryPlaceOf f b):=by
  unfold entryPlaceOf
  refine kd_bind _ (show KD stack from fun _=>trivial) fun acts=>?_
  split <;> exact kd_pure
theorem kd_note (e:Value) (env:Env):KD (noteFrame e env):=by
  unfold noteFrame
  cases env.frame with
  | none=>exact kd_un
  | some f =>
    dsimp only
    refine kd_bind _ (kd_field _ _) fun head=>?_
    have tail:∀ (hd:Bool),KD (do setField e 1 (← EntryCells.newEntry head (← PySem.frameOf env) .none (rawInt f) .none (← entryPlaceOf f hd))):=fun hd =>
      kd_bind _ (kd_frameOf env) fun _=>kd_bind _ (kd_place _ _) fun _=>kd_bind _ (kd_newFields _ _) fun _=>kd_setField _ _ _
    split
    · refine kd_bind _ (kd_field _ _) fun x=>?_
      split
      · exact kd_pure
      · exact kd_bind _ (kd_setField _ _ _) fun _=>tail _
    · exact tail _
theorem kd_leaving (env:Env) (e:Value):KD (leaving env e):=kd_bind _ (kd_note e env) fun _=>kd_setFlight e none
end L2
namespace L2
open PySem PySem.Spec PyProof.Rows
theorem ObjOk.there {P:Program} {w:World} {H:Hp} {h:Heap} {a:Addr} {o:HO} (x:ObjOk P w H h a o):∃ u,h.get? a=some u:=by
  cases o with
  | lst xs=>obtain ⟨_,_,_,_,e⟩:=x; exact ⟨_,e⟩
  | tup xs=>obtain ⟨_,_,_,_,e,_⟩:=x; exact ⟨_,e⟩
  | dK kvs=>obtain ⟨_,_,_,_,o,_,_,e,_⟩:=x; exact ⟨_,e⟩
  | dT kvs=>obtain ⟨_,_,_,_,o,_,_,e,_⟩:=x; exact ⟨_,e⟩
  | set S n=>obtain ⟨o,_,_,_,e,_⟩:=x; exact ⟨_,e⟩
  | ins C dx fs=>obtain ⟨_,_,_,e,_⟩:=x; exact ⟨_,e⟩
  | own y=>obtain ⟨_,e⟩:=x; exact ⟨_,e⟩
  | xd fs=>obtain ⟨_,⟨_,_,_,e,_⟩,_⟩:=x; exact ⟨_,e⟩
  | rng lo hi=>obtain ⟨_,_,_,e⟩:=x; exact ⟨_,e⟩
  | frz ob u=>exact ⟨_,x.1⟩
  | tbl ps=>exact ⟨_,x⟩
  | met f y=>exact ⟨_,x⟩
  | ext φ=>exact x.2.1
noncomputable def KeyD (H:Hp) (ea k:Addr) (o:Obj):Prop:=(o.dict=none∧k=ea) ∨ (o.dict=some k∧∃ fs,H k=some (.xd fs))
structure Fly (P:Program) (w:World) (outer:List Env) (H:Hp) (s:Shared) (ea k:Addr) (cls:Value) (H':Hp) (s':Shared):Prop where
  os:s'.os=s.os
  bare:AllBare s'.gens
  un:Un (frs outer) [] H H' s.heap s'.heap
  hok:HOk P w H' s'.heap
  new:H' ea=none
  dict:∃ o,s'.heap.get? ea=some o∧KeyD H' ea k o
  fly:∃ (Bh:Heap) (t:Addr),Heap.FlyingW Bh outer ea cls (.ref t) s'.heap∧(∀ b u,H' b=some u→∀ o,s'.heap.get? b=some o→Bh.get? b=some o)∧∀ b o,s.heap.get? b=some o→b ∉ frs outer→∃ o',Bh.get? b=some o'
noncomputable def CX1 (P:Program) (w:World):CXT:=fun outer H s E e s'=>∃ ea k cls H',e=.ref ea∧Fly P w outer H s ea k cls H' s'∧E cls (some k) H'
section
variable {P:Program} {w:World} {K:PySem.W.Frag} {mg:Str→Option Value} {base:Heap} {N:List Str} {qual:Str} {scope:Scope} {f:Addr} {cd:Value} {A:Around} {outer:List Env} {s:Shared} {H:Hp} {E:XK}
  {pins:List (Addr × Obj)} {σ:St} {H1 H':Hp} {s1 s':Shared} {g h'' Bh:Heap} {ea k t:Addr} {cls:Value}
theorem fly_out (I:Inv (cxOf (CX1 P w) P w K mg base N qual scope f cd A outer s H E) pins σ H1 s1) (os:s'.os=s1.os) (bare:AllBare s'.gens) (un:Un (s.heap.objs.size :: frs outer) [] H1 H' s1.heap g) (hok:HOk P w H' g) (up:g.UpToSlots h'')
    (fl:Heap.FlyingW Bh outer ea cls (.ref t) h'') (st:Bh.StaysIn g) (c1:∀ b u,H' b=some u→∀ o,g.get? b=some o→Bh.get? b=some o) (c2:∀ b o,s.heap.get? b=some o→b ∉ s.heap.objs.size :: frs outer→∃ o',Bh.get? b=some o')
    (new:H' ea=none) (dn:∃ o,g.get? ea=some o∧KeyD H' ea k o) (dk:DK g h''):Fly P w outer H s ea k cls H' { s' with heap:=h'' }:=by
  have neL:∀ b o,s.heap.get? b=some o→b≠s.heap.objs.size:=fun b o e=>Nat.ne_of_lt (Heap.lt_size e)
  have nin:∀ b o,s.heap.get? b=some o→b ∉ frs outer→b ∉ s.heap.objs.size :: frs outer:=fun b o e n z=>(List.mem_cons.mp z).elim (neL b o e) n
  have b0:Un (frs outer) [] H H1 s.heap s1.heap:=I.base
  have fr0:∀ b∈frs outer,H b=none:=I.ok.frf
  have slot:∀ b o,s.heap.get? b=some o→H b=none→b∈frs outer→∃ sl,h''.get? b=some { o with slots:=sl }:=fun b o q n hb=>by
    obtain ⟨s2,e1⟩:=b0.slot b o q n hb (by simp)
    obtain ⟨s3,e2⟩:=un.slot b _ e1 (b0.free b o q n (by simp)) (List.mem_cons_of_mem _ hb) (by simp)
    obtain ⟨_,o',ho',hnf⟩:=Heap.FunFrames.mem (show s.heap.FunFrames base outer from I.ok.funs) hb
    rw [q] at ho'; cases ho'
    obtain ⟨s4,e3⟩:=up b _ e2 hnf
    exact ⟨s4,e3⟩
  have keepB:∀ b o,s.heap.get? b=some o→H b=none→b ∉ frs outer→Bh.get? b=some o:=fun b o q n hb=>by
    have e1:=b0.keep b o q n hb (by simp)
    have e2:=un.keep b o e1 (b0.free b o q n (by simp)) (nin b o q hb) (by simp)
    obtain ⟨o',e3⟩:=c2 b o q (nin b o q hb)
    have e4:=st b o' e3
    rw [e2] at e4; cases e4
    exact e3
  have thereB:∀ b o,s.heap.get? b=some o→b ∉ frs outer→∃ o',Bh.get? b=some o':=fun b o q hb=>by
    exact c2 b o q (nin b o q hb)
  refine ⟨os.trans I.os,bare,⟨fun b o q n hb _=>fl.1 b o (keepB b o q n hb),fun b o q n hb _=>slot b o q n hb,fun b o q n _=>?_,fun b o q _=>?_,fun b xs q=>un.tups b xs (b0.tups b xs q),fun b o xs q=>un.frzs b o xs (b0.frzs b o xs q),fun b ps q=>?_⟩,fun b u e=>?_,new,(let ⟨o,e,d⟩:=dn; let ⟨o',e',d'⟩:=dk ea o e; ⟨o',e',by unfold KeyD at d ⊢; rw [d']; exact d⟩),Bh,t,fl,fun b u e o q=>?_,thereB⟩
  · obtain ⟨o1,e1⟩:=b0.there b o q (by simp)
    exact un.free b o1 e1 (b0.free b o q n (by simp)) (by simp)
  · by_cases hb:b∈frs outer
    · obtain ⟨sl,e⟩:=slot b o q (fr0 b hb) hb
      exact ⟨_,e⟩
    · obtain ⟨o',e⟩:=thereB b o q hb
      exact ⟨o',fl.1 b o' e⟩
  · obtain ⟨m1,e1⟩:=b0.tbls b ps q
    obtain ⟨m2,e2⟩:=un.tbls b _ e1
    exact ⟨m1 ++ m2,by rw [e2,Array.append_assoc]⟩
  · refine (hok b u e).stay (fun c v hc q=>?_) (fun _ q=>q) fun _ _ q=>q
    rcases hc with rfl | hc
    · exact fl.1 c v (c1 c u e v q)
    · exact fl.1 c v (c1 c _ hc v q)
  · obtain ⟨o1,e1⟩:=(hok b u e).there
    have e2:=c1 b u e o1 e1
    have e3:=fl.1 b o1 e2
    rw [e3] at q; cases q
    exact e2
noncomputable def PassS (X:Cx) (E:St→XK):Prop:=∀ (pins:List (Addr × Obj)) (σ:St) (H:Hp) (s:Shared) (e:Value) (s':Shared),Inv X pins σ H s→CX1 X.prog X.w X.stack H s (E σ) e s'→X.xe e s'
noncomputable def MadeS (X:Cx) (E:St→XK):Prop:=∀ (pins:List (Addr × Obj)) (σ:St) (H:Hp) (s:Shared) (h':Heap) (ea:Addr) (cls:Value) (args:List Value),Inv X pins σ H s→Heap.MadeExcOf s.heap h' ea cls args→E σ cls (some ea) H→X.xe (.ref ea) { s with heap:=h' }
theorem pass_cx:PassS (cxOf (CX1 P w) P w K mg base N qual scope f cd A outer s H E) (fun _=>E):=fun pins σ H1 s1 e s' I hq=>by
  obtain ⟨ea,k,cls,H',rfl,F,hE⟩:=hq
  obtain ⟨Bh,t,fl,c1,c2⟩:=F.fly
  refine wpAny_mono (kd_any (kd_leaving _ _) (wpAny_leaves_onW (Q:=fun _ s''=>∃ h'',s''={ s' with heap:=h'' }∧Heap.FlyingW Bh outer ea cls (.ref t) h''∧s'.heap.UpToSlots h'') I.ok.frames rfl fl fun h'' fl'' up=>⟨h'',rfl,fl'',up⟩)) (fun _ s'' q=>?_) fun _ _ q=>q.1
  obtain ⟨⟨h'',rfl,fl'',up⟩,dk⟩:=q
  exact ⟨ea,k,cls,H',rfl,fly_out I F.os F.bare F.un F.hok up fl'' fl.1 c1 (fun b o e n=>let ⟨o1,e1⟩:=(show Un (frs outer) [] H H1 s.heap s1.heap from I.base).there b o e (by simp); c2 b o1 e1 n) F.new F.dict dk,hE⟩
theorem made_cx:MadeS (cxOf (CX1 P w) P w K mg base N qual scope f cd A outer s H E) (fun _=>E):=fun pins σ H1 s1 h' ea cls args I hx hE=>by
  have hin:∀ env∈(cxOf (CX1 P w) P w K mg base N qual scope f cd A outer s H E).stack,∀ b,env.frame=some b→b∈frs (cxOf (CX1 P w) P w K mg base N qual scope f cd A outer s H E).stack:=fun env he b hb=>List.mem_filterMap.mpr ⟨env,he,hb⟩
  have trk:∀ b u,H1 b=some u→b ∉ frs (cxOf (CX1 P w) P w K mg base N qual scope f cd A outer s H E).stack:=fun b u e z=>by rw [I.stkFree b z] at e; cases e
  have new:H1 ea=none:=by
    cases q:H1 ea with
    | none=>rfl
    | some u=>obtain ⟨o,e⟩:=(I.hok ea u q).there; rw [hx.new] at e; cases e
  refine wpAny_mono (kd_any (kd_leaving _ _) (wpAny_leaves_madeW (Q:=fun _ s''=>∃ h'' t,s''={ s1 with heap:=h'' }∧Heap.FlyingW (PySem.W.hideAll s1.heap (frs (cxOf (CX1 P w) P w K mg base N qual scope f cd A outer s H E).stack)) outer ea cls (.ref t) h''∧h'.UpToSlots h'')
    (base:=PySem.W.hideAll s1.heap (frs (cxOf (CX1 P w) P w K mg base N qual scope f cd A outer s H E).stack)) (h:=s1.heap) I.ok.frames rfl (fun b o q=>PySem.W.of_hideAll _ q) (PySem.W.funFrames_hide I.stack hin) hx fun h'' t fl _ _ up=>⟨h'',t,rfl,fl,up⟩)) (fun _ s'' q=>?_) fun _ _ q=>q.1
  obtain ⟨⟨h'',t,rfl,fl,up⟩,dk⟩:=q
  have dn:∃ o,h'.get? ea=some o∧KeyD H1 ea ea o:=by obtain ⟨t,e,_⟩:=hx.there; exact ⟨_,e,.inl ⟨rfl,rfl⟩⟩
  refine ⟨ea,ea,cls,H1,rfl,fly_out (g:=h') (t:=t) (s':={ s1 with heap:=h' }) I rfl I.bare (Un.kept hx.keeps) (I.hok.kept hx.keeps) up fl (fun b o q=>hx.keeps b o (PySem.W.of_hideAll _ q)) (fun b u e o q=>?_) (fun b o q n=>let ⟨o1,e1⟩:=(show Un (frs outer) [] H H1 s.heap s1.heap from I.base).there b o q (by simp); ⟨o1,PySem.W.hideAll_get _ e1 n⟩) new dn dk,hE⟩
  obtain ⟨o1,e1⟩:=(I.hok b u e).there
  have e2:=hx.keeps b o1 e1
  rw [q] at e2; cases e2
  exact PySem.W.hideAll_get _ e1 (trk b u e)
end
noncomputable def bmVE:List Value:=[.type "ValueError",.type "Exception",.type "BaseException",.type "object"]
noncomputable def tRaise (C:Addr) (E:St→XK) (ta:TA):TS:=fun D σ H=>ta σ H fun vs H1=>vs.length≤1000∧∀ ea,H1 ea=none→E σ (.ref C) (some ea) H1
theorem exc_obj {K:PySem.W.Frag} {h₀:Heap} {C:Addr} {bmB:List Value} {newId:String} (X:K.In h₀) (q:PySem.W.excIn K C bmB newId=true) :
    ∃ tl N nm qn bs hdct sn sub ab col dd k0 k1 k2 k3 k5 mN,h₀.get? C=some (excClassObj nm qn C N bs tl hdct sn sub ab col dd k0 k1 k2 k3 k5 newId)∧h₀.Ns N mN∧mN "__init__"=none∧OwnTail h₀ bmB tl:=by
  unfold PySem.W.excIn at q
  split at q
  · rename_i dd cd sl ho
    split at q
    · rename_i C' bm k0 k1 k2 k3 n k5 hm hs
      simp only [Bool.and_eq_true,beq_iff_eq,Bool.not_eq_true'] at q
      obtain ⟨⟨⟨⟨⟨rfl,rfl⟩,hdel⟩,ht⟩,hok⟩,hni⟩:=q
      obtain ⟨nm,bs,mro,ns,qn,hd,sn,sub,ab,col,del⟩:=cd
      dsimp only at hm hdel hok hni
      subst hm hdel
      have hsl:sl=#[k0,k1,k2,k3,some (.builtin n),k5]:=by
        obtain ⟨l⟩:=sl
        simp only at hs
        rw [hs]
      subst hsl
      exact ⟨bm,ns,nm,qn,bs,hd,sn,sub,ab,col,dd,k0,k1,k2,k3,k5,_,X _ _ ho,.of_isNs (PySem.W.isNs_of_in X hok),PySem.W.nsMap_none_of_in X hok hni,PySem.W.tail_of_in X ht⟩
    · cases q
  · cases q
section
variable {X:Cx} {E:St→XK} {x:Str} {C:Addr} {np cpos pos:Pos} {e:Expr} {es:List Expr} {ta:TA}
theorem ps_raise (hM:MadeS X E) (hq:PySem.W.excIn X.K C bmVE "ValueError.__new__"=true) (hg:Gl X x) (hm:X.mg x=some (.ref C)) (hc:X.calm=true) (ha:PA X (e :: es) ta) (hdb:(x == ("__debug__":Str))=false:=by decide)
    (he:starEach (e :: es) X.env=(false,eval e X.env) :: starEach es X.env:=by rfl) (hpl:(backTo cpos (starEach es X.env)).any (·.1)=false:=by rfl) :
    PS X (.Raise (some (.Call (.Name x np) (e :: es) [] cpos)) none pos) (tRaise C E ta):=by
  intro pins s σ H D I h
  obtain ⟨tl,N,nm,q,bs,hdct,sn,sub,ab,col,dd,k0,k1,k2,k3,k5,mN,hC,hN,hni,T⟩:=exc_obj I.ok.mod.kin hq
  refine wpAny_Raise_call_subT (C:=C) (nm:=nm) (q:=q) (N:=N) (bs:=bs) (bm:=tl) (hdct:=hdct) (sn:=sn) (sub:=sub) (ab:=ab) (col:=col) (dd:=dd) (k0:=k0) (k1:=k1) (k2:=k2) (k3:=k3) (k5:=k5)
    PySem.F.excBase_ValueError (mN:=mN) (T.hasType PySem.F.excBase_ValueError.hasBase) (I.ok.hd hc) (by rw [he]; show (false || (backTo cpos (starEach es X.env)).any (·.1))=false; rw [hpl]; rfl) hni (ld_glob I hg hm ⟨rfl, ?_⟩ hdb)
  have h2:=ha cpos pins s σ H _ I h
  rw [he] at h2 ⊢
  refine Calls.evalArgs_plain (wpAny_mono h2 (fun us s₂ z=>?_) fun _ _ y=>y)
  obtain ⟨vs,H1,I1,r,hl,hE⟩:=z
  have hnew:∀ {h':Heap} {ea:Addr} {args:List Value},Heap.MadeExcOf s₂.heap h' ea (.ref C) args→H1 ea=none:=fun {h' ea args} hx=>by
    cases q:H1 ea with
    | none=>rfl
    | some u=>obtain ⟨o,e⟩:=(I1.hok ea u q).there; rw [hx.new] at e; cases e
  exact ⟨rfl,Nat.le_trans (by rw [← r.length]; exact hl) (by decide),I1.bk _ _ hC,hN.keeps I1.bk,T.keeps I1.bk,fun h' ea hx=>hM pins σ H1 s₂ h' ea _ _ I1 hx (hE ea (hnew hx))⟩
end
end L2
namespace L2
open PySem PySem.Spec PyProof.Rows
section
variable {X:Cx} {pins:List (Addr × Obj)} {σ:St} {H:Hp} {s:Shared}
end
section
variable {X:Cx} {pins:List (Addr × Obj)} {σ:St} {H:Hp} {s:Shared}
end
section
variable {X:Cx} {C:Addr} {i:Nat} {tb:(St→XK)→TS} {th:TS} {c n:Str} {np hpos pos:Pos} {body suite:List Stmt} {b₀:Stmt}
end
end L2
namespace PySem.W
open PySem PySem.Spec PySem.Calls PyProof.Rows
section
variable {prog:Program} {w:World} {A:Around} {E:Value→Shared→Prop} {s:Shared} {K:Frag} {x D:Addr} {ox:Obj} {od:Option Obj}
noncomputable def exOk (K:Frag) (D:Addr):Bool:=(findIn K (.ref D) "__getattribute__" == some (some (.builtin "BaseException.__getattribute__"))) && (findIn K (.ref D) "__getattr__" == some none) && (mroIn K D (.type "BaseException") == some true) && (mroIn K D (.type "object") == some true) &&
  (findIn K (.ref D) "__class__" == some (some (.builtin "object.__class__"))) && (specialIn K (.builtin "object.__class__") "__get__" == some (some (.builtin "getset_descriptor.__get__"))) && (takesIn K (.builtin "object.__class__") == some true) && (clsIn K D).isSome
end
end PySem.W
namespace L2
open PySem PySem.Spec PyProof.Rows
noncomputable def OkX (P:Program) (w:World) (K:PySem.W.Frag) (mg:Str→Option Value) (base:Heap) (k:Nat) (x:Str) (ps:List Str) (sp:Sp):Prop :=
  ∃ f fd,FnOk P w K mg base (CX1 P w) k f fd ps sp∧mg x=some (.ref f)∧PySem.W.keepIn K (.ref f)=true∧Binds K fd ps []
theorem okOfX {P:Program} {w:World} {K:PySem.W.Frag} {mg:Str→Option Value} {base:Heap} {k:Nat} {x:Str} {st:Stmt} {ps:List Str} {sp:Sp} (d:Dfn K mg x st) (b:BindFact x st ps)
    (h:∀ {f fd},Fun K x x st f fd→FnOk P w K mg base (CX1 P w) k f fd ps sp):OkX P w K mg base k x ps sp:=by
  obtain ⟨f,fd,F,hm⟩:=d
  exact ⟨f,fd,h F,hm,F.kp,F.binds b⟩
section
variable {X:Cx} {k:Nat} {x:Str} {ps:List Str} {sp:Sp} {p pos:Pos} {e:Expr} {es:List Expr} {t:TA} {E:St→XK}
noncomputable def tCallS (sp:Sp) (E:St→XK) (t:TA):TE:=fun σ H Q=>t σ H fun vs H1=>sp vs H1 Q (E σ)
theorem pe_callX (G:OkX X.prog X.w X.K X.mg X.base k x ps sp) (hr:Room k X.A) (hg:Gl X x) (hx:PassS X E) (ha:PA X (e :: es) t) (hdb:(x == ("__debug__":Str))=false:=by decide)
    (he:starEach (e :: es) X.env=(false,eval e X.env) :: starEach es X.env:=by rfl) (hpl:(backTo pos (starEach es X.env)).any (·.1)=false:=by rfl):PE X (.Call (.Name x p) (e :: es) [] pos) (tCallS sp E t):=by
  obtain ⟨f,fd,F,hm,hk,hb⟩:=G
  intro pins s σ H Q I h
  refine wpAny_Call_Name_kw (ld_glob I hg hm ?_ hdb)
  refine PySem.W.callWith_K (h₀:=X.base) I.ok.mod.kin hk (thn (ha pos pins s σ H _ I h) fun us s1 ⟨vs,H1,I1,r,q⟩=>⟨I1.kIn, ?_⟩) he hpl
  have hl:(us ++ []).length=ps.length:=by rw [List.append_nil,← r.length]; exact F.len _ _ _ _ q
  have hb':=hb s1 us I1.kIn hl
  rw [List.append_nil] at hb'
  refine wpAny_call (codeAny_mono (F.run X.A X.stack s1 H1 ⟨us,[]⟩ us vs Q (E σ) hr I1.env0 hb' r q) fun r s' hq=>?_)
  cases r with
  | error e=>exact hx pins σ H1 s1 e s' I1 hq
  | ok fl =>
    cases fl with
    | ret u=>exact I1.after hq
    | next=>exact False.elim hq
    | brk=>exact False.elim hq
    | cont=>exact False.elim hq
end
noncomputable def KeyP:PV→Hp→Addr→Prop
  | .non,H,k=>H k=none
  | .int i,H,k=>∃ fs,H k=some (.xd fs)∧fs=[(("at":Str),V.int i)]
  | _,_,_=>False
noncomputable def W1 (K:PySem.W.Frag):PX→XK→Hp→Prop:=fun e E H'=>∀ C k,XCls K e.1 C→KeyP e.2 H' k→E (.ref C) (some k) H'
section
variable {P:Program} {w:World} {K:PySem.W.Frag} {mg:Str→Option Value} {base:Heap}
theorem Fun.okX {x qual:Str} {st:Stmt} {f:Addr} {fd:FuncData} {N ps:List Str} {k n l:Nat} {kd:Kd} {m:List PV→Rr PV} (F:Fun K x qual st f fd) (S:FnScope N ps (defScope st)) (hn:ps.length=n) (hl:N.length - n=l)
    (hbody:∀ (cdv:Value) (A:Around) (outer:List Env) (s:Shared) (H:Hp) (E:XK),Room k (A.deeper (envOfC qual (defScope st) s.heap.objs.size f cdv)) →
      ∃ t g Y,Y.r=kd∧PSs (cxOf (CX1 P w) P w K mg base N qual (defScope st) f cdv A outer s H E) (defBody st) t∧DS K (fun e H'=>W1 K e E H') (List.replicate n .S ++ List.replicate l .U) Y t g∧∀ xs,Ref (m xs) (g (xs ++ List.replicate l .non)).out) (hkN:kd≠.N:=by nofun) :
    FnOk P w K mg base (CX1 P w) (k + 1) f fd ps (spF K n kd (W1 K) m):=by
  obtain ⟨oc,od,kV,doc,pm,an,cdv,ct,osl,rfl,lk,hcd⟩:=F.ex
  refine fn_of lk hcd S (fun vs H Q E h=>?_) fun A outer s H vs Q E hr h=>?_
  · obtain ⟨B,xs,h1,h2,_⟩:=h
    rw [h1.length,h2,hn]
  · obtain ⟨B,xs,h1,h2,dn⟩:=h
    obtain ⟨t,g,Y,hY,ht,hd,href⟩:=hbody cdv A outer s H E hr
    refine ⟨t,ht, ?_⟩
    have A0:=Ag.init (n:=l) h1
    have est:start N vs=vs.map some ++ List.replicate l none:=by
      unfold start
      rw [h1.length,h2,hl]
    rw [est]
    rw [h2] at A0
    refine hd _ H H _ _ _ _ A0 ?_
    have hdn:Dn (g (xs ++ List.replicate l .non)).out (fun x=>∀ v H',Same H H'→RetK K B H kd x v H'→Q v H') (fun e=>∀ H',Same H H'→W1 K e E H'):=by
      rcases href xs with e | e
      · rw [e] at dn; exact dn.elim
      · rw [← e]; exact dn
    have retK:∀ {x v H'},RetK K (fun a=>B a ∨ H a=none) H kd x v H'→RetK K B H kd x v H':=fun {x v H'} h=>by
      cases kd with
      | P=>exact h
      | F=>exact h
      | T=>exact Rep.mono (fun a us s r=>⟨r,s.elim id .inr⟩) (fun a us r=>r) h
      | Z=>exact Rep.mono (fun a us s r=>⟨r,s.elim id .inr⟩) (fun a us r=>r) h
      | A=>exact Rep.mono (fun a us s r=>⟨r,s.elim id .inr⟩) (fun a us r=>r) h
      | N=>exact h
    cases e:g (xs ++ List.replicate l .non) with
    | next ρ =>
      rw [e] at hdn
      refine fun σ' H' F' fr A'=>hdn .non H' A'.same ?_
      cases kd with
      | P=>exact ⟨rfl,rfl⟩
      | F=>exact ⟨[],⟨rfl,rfl⟩,by simp⟩
      | T=>exact rfl
      | Z=>exact rfl
      | A=>exact rfl
      | N=>exact absurd rfl hkN
    | ret x=>rw [e] at hdn; exact fun v H' s r=>hdn v H' s (retK (hY ▸ r))
    | exc q=>rw [e] at hdn; exact fun H' s=>hdn H' s
    | brk ρ=>rw [e] at hdn; exact hdn.elim
    | cont ρ=>rw [e] at hdn; exact hdn.elim
    | bad=>rw [e] at hdn; exact hdn.elim
end
section
variable {K:PySem.W.Frag} {n:Nat} {m:List PV→Rr PV} {ta:TA} {Γ Γ':List Md} {fa:List PV→Rr (List PV)} {E:XK}
noncomputable abbrev EX1 (K:PySem.W.Frag) (E:XK):PX→Hp→Prop:=fun e H'=>W1 K e E H'
theorem dx_P (hn:Len fa n) (ha:DAA K (EX1 K E) Γ Γ' ta fa):DE K (EX1 K E) Γ Γ' .P (tCallS (spF K n .P (W1 K) m) (fun _=>E) ta) (fun ρ=>(fa ρ).bind m):=de_callP (E:=E) (W:=W1 K) (fun σ H Q h=>h) (fun e H' h=>h) hn ha
theorem dy_P {EX:PX→Hp→Prop} (hn:Len fa n) (hm:∀ xs q,m xs≠.exc q) (ha:DAA K EX Γ Γ' ta fa):DE K EX Γ Γ' .P (tCallO (spF K n .P W0 m) ta) (fun ρ=>(fa ρ).bind m):=fun B H0 H σ ρ F R Q A d=>by
  refine ha B H0 H σ ρ F R _ A (d.bind.imp (fun xs hx d vs H1 F1 s1 f1 p1 A1=>?_) fun e q=>q)
  refine ⟨fun _=>True,xs,p1,hn ρ xs hx, ?_⟩
  cases e:m xs with
  | ok x=>rw [e] at d; exact fun v H2 s2 r=>d v H2 (s1.trans s2) ⟨F1,f1,r.1,r.2,A1.grow s2⟩
  | exc q=>exact (hm xs q e).elim
  | bad=>rw [e] at d; exact d.elim
noncomputable def Pm.calm (m:Pm):Prop:=∀ a q,m.out a≠.exc q
theorem Pm.calm_fn {m:Pm} (h:m.calm) (xs:List PV) (q:PX):m.fn xs≠.exc q:=by
  unfold Pm.fn
  by_cases hx:∃ a,m.enc a=xs∧m.pre a
  · rw [dif_pos hx]; exact h _ q
  · rw [dif_neg hx]; exact fun z=>by cases z
theorem ds_raise {C:Addr} {x:Str} {Y:Tys} (hC:XCls K x C) (hn:Len fa n) (hl:n≤1000) (ha:DAA K (EX1 K E) Γ Γ' ta fa):DS K (EX1 K E) Γ Y (tRaise C (fun _=>E) ta) (fun ρ=>(fa ρ).thenS fun _=>.exc (x,.non)):=fun B H0 H σ ρ F D A d=>by
  refine ha B H0 H σ ρ F [] _ A (d.thenS.imp (fun xs hx d vs H1 F1 s1 f1 p1 A1=>?_) fun e q=>q)
  exact ⟨by rw [p1.length,hn ρ xs hx]; exact hl,fun ea hea=>d H1 A1.same C ea hC hea⟩
end
end L2
namespace L2
open PySem PySem.Spec PyProof.Rows
section
variable {K:PySem.W.Frag} {EX:PX→Hp→Prop} {Γ Γ':List Md} {te:TE} {f:List PV→Rr PV}
end
section
variable {K:PySem.W.Frag} {EX:PX→Hp→Prop} {Γ Γ':List Md} {te:TE} {f:List PV→Rr PV}
end
noncomputable def noOwn (Γ:List Md):Bool:=Γ.all fun m=>m == .U || m == .P || m == .S
section
variable {K:PySem.W.Frag} {EX:PX→Hp→Prop} {Γ Γs:List Md} {Y Yh:Tys} {tb:(St→XK)→TS} {th:TS} {gb gh:List PV→RS} {C:Addr} {i:Nat} {L:List Str}
end
end L2
namespace L2
open PySem PySem.Spec PyProof.Rows
noncomputable def xOne (K:PySem.W.Frag) (n:Str):Bool:=match PySem.W.nsIn K mainGlobals n with
  | some (some (.ref C))=>PySem.W.exOk K C && (PySem.W.kitOne K (.type "NoneType") (.ref C) == some false) && (PySem.W.kitOne K (.ref C) (.type "ValueError") == some true)
  | _=>false
noncomputable def xTwo (K:PySem.W.Frag) (q:Str × Str × Bool):Bool:=match PySem.W.nsIn K mainGlobals q.1,PySem.W.nsIn K mainGlobals q.2.1 with
  | some (some (.ref D)),some (some (.ref C))=>(PySem.W.kitOne K (.ref D) (.ref C) == some q.2.2) && (PySem.W.exmOne K (.ref D) (.ref C) == some q.2.2)
  | _,_=>false
noncomputable def xTab (K:PySem.W.Frag) (ns:List Str) (ss:List (Str × Str × Bool)):Bool:=(PySem.W.kitOne K (.type "NoneType") (.type "ValueError") == some false) && (ns.all (xOne K) && ss.all (xTwo K))
section
variable {K:PySem.W.Frag} {ns:List Str} {ss:List (Str × Str × Bool)} {n c:Str}
noncomputable def xExcs (K:PySem.W.Frag) (ns:List Str):Bool:=ns.all fun n=>match PySem.W.nsIn K mainGlobals n with
  | some (some (.ref C))=>PySem.W.excIn K C bmVE "ValueError.__new__"
  | _=>false
theorem xTab_exc (h:xExcs K ns=true) (hn:n∈ns):∃ C,XCls K n C∧PySem.W.excIn K C bmVE "ValueError.__new__"=true:=by
  have:=List.all_eq_true.mp h n hn
  split at this
  · rename_i C e
    exact ⟨C,e,this⟩
  · cases this
end
theorem pass_E0 {X:Cx}:PassS X (fun _=>E0):=fun _ _ _ _ _ _ _ h=>by obtain ⟨_,_,_,_,_,_,q⟩:=h; exact q.elim
section
variable {K:PySem.W.Frag} {n:Nat} {m:List PV→Rr PV} {ta:TA} {Γ Γ':List Md} {fa:List PV→Rr (List PV)}
theorem dz_P (hn:Len fa n) (ha:DAA K X0 Γ Γ' ta fa):DE K X0 Γ Γ' .P (tCallS (spF K n .P (W1 K) m) (fun _=>E0) ta) (fun ρ=>(fa ρ).bind m):=de_callP (E:=E0) (W:=W1 K) (fun σ H Q h=>h) (fun e H' h=>h.elim) hn ha
end
end L2
namespace L2
open PySem PySem.Spec PyProof.Rows
section
variable {K:PySem.W.Frag} {H:Hp}
variable {EX:PX→Hp→Prop} {Γ Γ1 Γ2:List Md} {k:Kd}
end
end L2
namespace L2
open PySem PySem.Spec PyProof.Rows
end L2
namespace L2
open PySem PySem.Spec PyProof.Rows
section
variable {X:Cx}
end
section
variable {K:PySem.W.Frag} {EX:PX→Hp→Prop} {Γ Γ1 Γ2:List Md} {ta:TE} {tb:TA} {f:List PV→Rr PV} {fb:List PV→Rr (List PV)}
end
end L2
namespace L2
open PySem PySem.Spec PyProof.Rows
section
variable {K:PySem.W.Frag} {EX:PX→Hp→Prop} {Γ Γ' Γ1 Γ2:List Md} {ta:TA} {fa:List PV→Rr (List PV)} {n:Nat} {W:PX→XK→Hp→Prop} {m:List PV→Rr PV} {E:XK}
end
section
variable {X:Cx} {tg:Expr}
end
end L2
namespace L2
open PySem PySem.Spec PyProof.Rows
theorem ints_iff {ns ms:List Int}:ns.map PV.int=ms.map PV.int ↔ ns=ms:=⟨ints_inj',fun h=>by rw [h]⟩
noncomputable def orX (o:Option Str) (x:PV):Rr PV:=match o with
  | none=>.ok x
  | some n=>.exc (n,.non)
theorem forR_inv' {b:PV→List PV→RS} {xs:List PV} {ρ:List PV} {W:RS} (hw:forR b xs ρ=W) (I:Nat→List PV→Prop) (h0:I 0 ρ) (h:∀ i x ρ,xs[i]?=some x→I i ρ→(b x ρ).good (I (i + 1))) :
    ∃ ρ',W=.next ρ'∧I xs.length ρ':=by
  obtain ⟨ρ',h1,h2⟩:=forR_inv I h0 h
  exact ⟨ρ',hw.symm.trans h1,h2⟩
theorem map_rng {f:PV→Rr PV} {g:Nat→Int} {lo:Int} {n:Nat} (h:∀ i,i < n→f (.int (lo + (i:Nat)))=.ok (.int (g i))):mapR f (rngP lo n)=.ok (((List.range n).map g).map PV.int):=by
  unfold rngP
  have:∀ l:List Nat,(∀ i∈l,i < n)→mapR f (l.map fun (k:Nat)=>PV.int (lo + (k:Int)))=.ok ((l.map g).map PV.int):=by
    intro l
    induction l with
    | nil=>intro _; rfl
    | cons a l ih =>
      intro hl
      simp only [List.map_cons,mapR,h a (hl a (by simp)),Rr.bind_ok,ih fun i hi=>hl i (by simp [hi])]
  exact this _ fun i hi=>List.mem_range.mp hi
theorem cut_to {ns:List Int} {h:Int} (h0:0≤h):cutG (ns.map PV.int) none (some h)=(ns.take h.toNat).map PV.int:=by
  unfold cutG HT.sIx
  simp only [List.length_map,List.drop_zero,Nat.sub_zero]
  rw [if_neg (by omega),← List.map_take]
  congr 1
  rw [List.take_eq_take_iff]; omega
theorem cut_from {ns:List Int} {l:Int} (h0:0≤l):cutG (ns.map PV.int) (some l) none=(ns.drop l.toNat).map PV.int:=by
  unfold cutG HT.sIx
  simp only [List.length_map]
  rw [if_neg (by omega),← List.map_drop,← List.map_take]
  congr 1
  rw [List.take_of_length_le (by simp)]
  by_cases h:l.toNat≤ns.length
  · rw [Nat.min_eq_left h]
  · rw [List.drop_eq_nil_of_le (by omega),List.drop_eq_nil_of_le (by omega)]
theorem pMul_b {i j:Int} (h1:-(10 ^ 80)≤i) (h2:i≤10 ^ 80) (h3:-(10 ^ 80)≤j) (h4:j≤10 ^ 80):pMul (.int i) (.int j)=.ok (.int (i * j)):=pMul_ok (cmul_of 80 80 (by omega) (by omega))
theorem orX_none {x:PV}:orX none x=.ok x:=rfl
theorem orX_some {x:PV} {n:Str}:orX (some n) x=.exc (n,.non):=rfl
theorem newF_snoc {ns:List Int} {z:Int} (h:ns.length < 1000000):newF (ns.map PV.int ++ [.int z])=.ok (.lst ((ns ++ [z]).map PV.int)):=newF_cat (ms:=[z]) (by simp only [List.length_cons,List.length_nil,List.length_append]; omega)
theorem newF_cons {ns:List Int} {z:Int} (h:ns.length < 1000000):newF (.int z :: ns.map PV.int)=.ok (.lst ((z :: ns).map PV.int)):=newF_cat (ns:=[z]) (by simp only [List.length_cons,List.length_nil,List.length_append]; omega)
theorem repN_succ {n:Nat}:List.replicate (n + 1) PV.non=PV.non :: List.replicate n PV.non:=rfl
theorem repN_zero:List.replicate 0 PV.non=[]:=rfl
end L2
namespace L2
open PySem PySem.Spec PyProof.Rows
section
variable {prog:Program} {w:World} {A:Around} {E:Value→Shared→Prop} {s:Shared}
end
section
variable {X:Cx} {pos:Pos}
end
section
variable {K:PySem.W.Frag} {EX:PX→Hp→Prop} {Γ Γ2:List Md}
end
end L2
namespace L2
open PySem PySem.Spec PyProof.Rows
section
variable {X:Cx} {pins:List (Addr × Obj)} {σ:St} {H:Hp} {s:Shared} {h':Heap}
end
section
variable {X:Cx} {elts:List Expr} {x1:Nat} {tpos:Pos}
end
section
variable {K:PySem.W.Frag} {H:Hp} {EX:PX→Hp→Prop} {Γ Γ':List Md} {te:TE} {f:List PV→Rr PV}
end
end L2
namespace L2
open PySem PySem.Spec PyProof.Rows
section
variable {prog:Program} {w:World} {A:Around} {E:Value→Shared→Prop} {R:Result→Shared→Prop} {s:Shared}
theorem codeAny_compLoop_go {elt target iter:Expr} {ifs:List Expr} {scope:Scope} {pos:Pos} {it acc:Value} {env:Env} (I:Nat→Shared→Prop)
    (turn:∀ n s,I n s→wpAny (model prog w) A (pyNext it) (fun r s₁=>match r with
      | none=>R (.ok .next) s₁
      | some v=>wpAny (model prog w) A (letOwnedTupleGo target it v) (fun _ s₁'=>wpAny (model prog w) A (assign target env v) (fun _ s₂ =>
          wpAny (model prog w) A (forIn ifs true fun c r=>if r=true then do let ok ← isTrue c env (eval c env); pure (ForInStep.yield ok) else pure (ForInStep.yield r)) (fun ok s₃ =>
            if ok=true then wpAny (model prog w) A (eval elt env) (fun x s₄ =>
              wpAny (model prog w) A (call (.builtin "list.append") [acc,x]) (fun _ s₅=>∃ m,m < n∧I m s₅) (notedBy (model prog w) A env fun e s'=>R (.error e) s') s₄) (notedBy (model prog w) A env fun e s'=>R (.error e) s') s₃
            else ∃ m,m < n∧I m s₃) (notedBy (model prog w) A env fun e s'=>R (.error e) s') s₂) (notedBy (model prog w) A env fun e s'=>R (.error e) s') s₁') (notedBy (model prog w) A env fun e s'=>R (.error e) s') s₁) (notedBy (model prog w) A env fun e s'=>R (.error e) s') s)
    (n:Nat) (h:I n s) :
    codeAny (model prog w) A (.compLoop (.ListComp elt [⟨target,iter,ifs,0⟩] scope pos) 0 it acc env) R s:=by
  refine codeAny_loop rfl I (fun n s hI=>?_) n h
  show wpAny _ A ((compTurn (.ListComp elt [⟨target,iter,ifs,0⟩] scope pos) 0 it acc env).onRaise (fun x=>do noteFrame x env; theTreesLotGoes x)) _ _ s
  refine wpAny_noted ?_
  rw [compTurn_list]
  refine wpAny_bind (wpAny_standAt (wpAny_bind (wpAny_mono (turn n s hI) (fun r s₁ h₁=>?_) fun _ _ h'=>h')))
  cases r with
  | none=>exact wpAny_pure h₁
  | some v =>
    refine wpAny_bind (wpAny_mono h₁ (fun _ s₁' h₁'=>?_) fun _ _ h'=>h')
    refine wpAny_bind (wpAny_mono h₁' (fun _ s₂ h₂=>wpAny_bind (wpAny_mono h₂ (fun ok s₃ h₃=>?_) fun _ _ h'=>h')) fun _ _ h'=>h')
    cases ok with
    | false=>exact wpAny_pure ⟨rfl,h₃⟩
    | true =>
      exact wpAny_bind (wpAny_bind (wpAny_mono h₃ (fun x s₄ h₄=>wpAny_bind (wpAny_mono h₄ (fun _ s₅ h₅=>wpAny_pure (wpAny_pure ⟨rfl,h₅⟩)) fun _ _ h'=>h')) fun _ _ h'=>h'))
end
noncomputable def hideN (xs:List Str) (y:Str):Str:=if xs.contains y then "" else y
noncomputable def blkN (X:Cx) (scope:Scope) (xs:List Str) (C:Addr) (ex:List Addr) (s₂:Shared) (H₂:Hp):Cx :=
  { X with N:=X.N.map (hideN xs) ++ xs,s₀:=s₂,H₀:=H₂,env:=compEnvC scope (clOf scope X.env) C X.env,outer:=X.stack,ex:=ex,fn:=fun _=>false,pn:=[],xe:=fun _ _=>False }
noncomputable abbrev TB:=V→Hp→List V→Prop
noncomputable def tB1:TB:=fun x _ vs=>vs=[x]
noncomputable def PB (X:Cx) (scope:Scope) (xs:List Str) (tg:Expr) (Bd:TB):Prop:=∀ C s₂ H₂ ex,∀ (pins:List (Addr × Obj)) (s:Shared) (σ σx:St) (H:Hp) (x:V) (u:Value) (vs:List V) (E:Value→Shared→Prop),σ.length=X.N.length→σx.length=xs.length →
  Inv (blkN X scope xs C ex s₂ H₂) pins (σ ++ σx) H s→RelV x u→Bd x H vs→wpAny (model X.prog X.w) X.A (assign tg (blkN X scope xs C ex s₂ H₂).env u) (fun _ s'=>Inv (blkN X scope xs C ex s₂ H₂) pins (σ ++ vs.map some) H s') E s
noncomputable def PCi (X:Cx) (ifs:List Expr) (t:TT):Prop:=∀ (pins:List (Addr × Obj)) (s:Shared) (σ:St) (H:Hp) (Q:Bool→Hp→Prop) (E:Value→Shared→Prop),Inv X pins σ H s→t σ H Q →
  wpAny (model X.prog X.w) X.A (forIn ifs true fun c r=>if r=true then do let ok ← isTrue c X.env (eval c X.env); pure (ForInStep.yield ok) else pure (ForInStep.yield r)) (TP X pins σ Q) E s
noncomputable def tYes:TT:=fun _ H Q=>Q true H
theorem pc_nil {X:Cx}:PCi X [] tYes:=fun pins s σ H Q E I h=>wpAny_tests_nil ⟨_,I,h⟩
noncomputable def tCompJG (σ:St) (Bd:TB) (tt:TT) (te:TE) (J:It) (H1:Hp) (Q:VK):Prop:=∃ W:Nat→Nat→List V→Hp→Prop,(∃ m,W 0 m [] H1)∧∀ i m ys H2,W i m ys H2→ys.length≤sizeLine ∧
  ((J.stop i H2∧∀ p,H2 p=none→Q (.ref p) (upd H2 p (.lst ys))) ∨
   (J.go i H2∧∃ N:List V→Hp→Prop,(∀ ys' H',N ys' H'→∃ m',m' < m∧W (i + 1) m' ys' H')∧∀ x H3,J.yld i H2 x H3→∃ vs,Bd x H3 vs∧tt (σ ++ vs.map some) H3 fun b H4=>if b=true then te (σ ++ vs.map some) H4 fun y H5=>N (ys ++ [y]) H5 else N ys H4))
noncomputable def tCompG (wi:TI) (Bd:TB) (tt:TT) (te:TE):TE:=fun σ H Q=>wi σ H fun J H1=>tCompJG σ Bd tt te J H1 Q
noncomputable def compChkN (N:List Str) (sc scope:Scope) (xs:List Str):Bool:=xs.all (fun x=>compChk [] sc scope x) && decide (N.map (hideN xs) ++ xs).Nodup && !xs.isEmpty && (N.all fun y=>xs.contains y || !(scope.names.lookup y == some .local)) && (scope.names.lookup (Str.ofString "") == none)
structure CkN (N:List Str) (sc scope:Scope) (xs:List Str):Prop where
  scs:∀ x∈xs,CompSc [] sc scope x
  nd:(N.map (hideN xs) ++ xs).Nodup
  ex:∃ x,x∈xs
  noN:∀ y∈N,y ∉ xs→scope.names.lookup y≠some .local
  noE:scope.names.lookup (Str.ofString "")=none
theorem compChkN_of {N:List Str} {sc scope:Scope} {xs:List Str} (h:compChkN N sc scope xs=true):CkN N sc scope xs:=by
  unfold compChkN at h
  simp only [Bool.and_eq_true,List.all_eq_true,decide_eq_true_eq,Bool.not_eq_true',Bool.or_eq_true,beq_iff_eq,beq_eq_false_iff_ne] at h
  obtain ⟨⟨⟨⟨h1,h2⟩,h3⟩,h4⟩,h5⟩:=h
  refine ⟨fun x hx=>CompSc.of (h1 x hx),h2, ?_,fun y hy hn=>?_,h5⟩
  · cases xs with
    | nil=>simp at h3
    | cons a l=>exact ⟨a,by simp⟩
  · rcases h4 y hy with z | z
    · exact absurd (List.contains_iff_mem.mp z) hn
    · exact z
section
variable {X:Cx} {pins:List (Addr × Obj)} {σ:St} {s₂:Shared} {H₂:Hp} {scope:Scope} {x:Str} {xs:List Str} {tg elt iter:Expr} {ifs:List Expr} {pos:Pos} {Bd:TB} {tt:TT} {te:TE} {J:It} {fp:List Addr} {it:Addr} {tn:Nat→Heap→Prop}
theorem clOf_some' {N0:List Str} (sc:CompSc N0 X.env.scope scope x) (ok:X.Ok) {y:Str} {c:Addr} (h:(clOf scope X.env).lookup y=some c):X.env.cells.lookup y=some c:=by
  have hm:=PySem.mem_of_lookup h
  unfold clOf at hm
  obtain ⟨p,hp,e⟩:=List.mem_map.mp hm
  have hp':=List.mem_filter.mp (List.mem_reverse.mp hp)
  obtain ⟨e1,e2⟩:=Prod.mk.inj e
  have hk:=sc.fr p hp'.1 (beq_iff_eq.mp hp'.2)
  obtain ⟨c',hc'⟩:=ok.has p.1 hk
  rw [hc'] at e2
  rw [← e1,hc']
  exact congrArg some e2
theorem blkN_ok {N0:List Str} (I:Inv X pins σ H₂ s₂) (sc:CompSc N0 X.env.scope scope x) {C:Addr} (hC:s₂.heap.objs.size≤C) (ff:∀ b∈fp,FpOk X pins H₂ b) (fo:∀ b∈fp,∃ o,s₂.heap.get? b=some o):(blkN X scope xs C fp s₂ H₂).Ok where
  mod:=I.ok.mod
  kind:=sc.kind
  glob:=I.ok.glob
  blt:=I.ok.blt
  above:=hC
  inj:=fun y z c h1 h2=>I.ok.inj y z c (clOf_some' sc I.ok h1) (clOf_some' sc I.ok h2)
  has:=fun y hy=>by
    have hy':(relabel scope X.env).names.lookup y=some .cell ∨ (relabel scope X.env).names.lookup y=some .free:=hy
    have hf:scope.names.lookup y=some .free:=by
      rcases hy' with z | z
      · exact (relabel_look sc.nc z).2 (.inl rfl)
      · exact (relabel_look sc.nc z).2 (.inr rfl)
    exact clOf_has hf
  cab:=fun y c h=>by cases h
  hd:=I.ok.hd
  frames:=I.ok.frames
  stk:=.inl rfl
  exf:=fun b hb=>by
    obtain ⟨f0,f1,f2,f3,f4,f5⟩:=ff b hb
    obtain ⟨o,ho⟩:=fo b hb
    exact ⟨Nat.ne_of_lt (Nat.lt_of_lt_of_le (Heap.lt_size ho) hC),fun y c h=>f4 y c (clOf_some' sc I.ok h)⟩
  bs:=I.bs
  bsz:=Nat.le_trans I.ok.bsz I.sz
  noex:=fun b o e hb=>by
    obtain ⟨f0,f1,f2,f3,f4,f5⟩:=ff b hb
    rcases f3 with z | z
    · exact I.ok.noex b o e z
    · exact absurd (Nat.lt_of_lt_of_le (Heap.lt_size e) (Nat.le_trans I.ok.bsz z)) (Nat.lt_irrefl _)
  exfs:=fun b hb z=>by
    obtain ⟨f0,f1,f2,f3,f4,f5⟩:=ff b hb
    rcases List.mem_cons.mp (I.stkSub b z) with e | e
    · exact f1 e
    · exact f2 e
  funs:=I.stack
  frf:=I.stkFree
theorem comp_runG {E:Value→Shared→Prop} {Q:VK} {RR:Value→Addr→Result→Shared→Prop} (I:Inv X pins σ H₂ s₂) (ck:CkN X.N X.env.scope scope xs) (hx:x∈xs) (hNd:X.N.Nodup) (hc:X.calm=true)
    (T:Turn X.prog X.w X.K tg J fp it tn) (st:tn 0 s₂.heap) (ff:∀ b∈fp,FpOk X pins H₂ b) (hw:tCompJG σ Bd tt te J H₂ Q)
    (hb:PB X scope xs tg Bd) (ht:∀ C s₂ H₂ ex,PCi (blkN X scope xs C ex s₂ H₂) ifs tt) (he:∀ C s₂ H₂ ex,PE (blkN X scope xs C ex s₂ H₂) elt te)
    (hvs:∀ x H vs,Bd x H vs→vs.length=xs.length)
    (hRR:∀ D C s' H' m',s₂.heap.objs.size≤C→Inv X pins σ H' s'→s'.heap.Ns C m'→H' C=none→Q (.ref D) H'→RR (.ref D) C (.ok .next) s') :
    wpAny (model X.prog X.w) X.A (newList []) (fun acc s₃=>wpAny (model X.prog X.w) X.A (newFunctionEnv scope X.env.globals (clOf scope X.env) [] X.env.qual none .none (some X.env)) (fun cenv s₄ =>
      codeAny (model X.prog X.w) X.A (.compStart (.ListComp elt [⟨tg,iter,ifs,0⟩] scope pos) 0 (.ref it) acc { cenv with scope:=relabel scope X.env }) (RR acc cenv.locals) s₄) E s₃) E s₂:=by
  have sc:=ck.scs x hx
  refine wpAny_newObj_type (wpAny_newFunctionEnv sc.nc (by intro y hy; simp at hy) (fun h₁ hns₁ hsb₁=>?_) sc.kind)
  dsimp only at hns₁ hsb₁ ⊢
  generalize hP2:s₂.heap.push { cls:=.type "list",dict:=none,data:=.seq ([]:List Value).toArray }=P2 at hns₁ hsb₁ ⊢
  have hCs:P2.objs.size=s₂.heap.objs.size + 1:=by rw [← hP2,Heap.size_push]
  have hCle:s₂.heap.objs.size≤P2.objs.size:=by rw [hCs]; exact Nat.le_succ _
  have hDC:s₂.heap.objs.size≠P2.objs.size:=by rw [hCs]; exact Nat.ne_of_lt (Nat.lt_succ_self _)
  generalize hCe:P2.objs.size=C at hns₁ hsb₁ hCs hCle hDC ⊢
  generalize hDe:s₂.heap.objs.size=D at hCs hCle hDC ⊢
  have fo:∀ b∈fp,∃ o,s₂.heap.get? b=some o:=fun b hb=>let ⟨o,e,_⟩:=T.obj _ _ st b hb; ⟨o,e⟩
  have flt:∀ b∈fp,b < D:=fun b hb=>by obtain ⟨o,e⟩:=fo b hb; rw [← hDe]; exact Heap.lt_size e
  have old:∀ b o,s₂.heap.get? b=some o→h₁.get? b=some o:=fun b o e=>by
    have hb:=Heap.lt_size e
    exact hsb₁.extBut b o (Nat.ne_of_lt (by rw [hCs]; exact Nat.lt_succ_of_lt (hDe ▸ hb))) (Heap.get?_push_of_some _ (hP2 ▸ Heap.get?_push_of_some _ e))
  have hacc:h₁.get? D=some { cls:=.type "list",data:=.seq ([]:List Value).toArray 0 }:=hsb₁.extBut _ _ hDC (Heap.get?_push_of_some _ (hP2 ▸ hDe ▸ Heap.get?_push_size _ rfl))
  have okB:=blkN_ok (x:=x) (xs:=xs) (C:=C) I sc (by rw [hDe]; exact hCle) ff fo
  have hfreshD:H₂ D=none:=I.hok.fresh (by rw [hDe]; exact Nat.le_refl _)
  have hfreshC:H₂ C=none:=I.hok.fresh (by rw [hDe]; exact hCle)
  have I0:Inv (blkN X scope xs C fp s₂ H₂) [(D,{ cls:=.type "list",data:=.seq ([]:List Value).toArray 0 })] (σ ++ List.replicate xs.length none) H₂ { s₂ with heap:=h₁,toks:=s₂.toks + ([]:List (Str × Value)).length }:=by
    refine ⟨okB,rfl,I.bare,Un.kept old,⟨_,hns₁,fun i y v e1 e2 e3=>?_⟩,fun y c e=>?_,hfreshC,fun y c e=>I.freeC y c (clOf_some' sc I.ok e),fun p hp=>?_,I.hok.kept old,by simp [blkN,I.len]⟩
    · have hi:i < σ.length:=by
        by_cases hi:i < σ.length
        · exact hi
        · rw [List.getElem?_append_right (by omega)] at e2
          rw [List.getElem?_replicate] at e2
          split at e2 <;> cases e2
      rw [List.getElem?_append_left hi] at e2
      have e1':(X.N.map (hideN xs) ++ xs)[i]?=some y:=e1
      rw [List.getElem?_append_left (by rw [List.length_map,← I.len]; exact hi),List.getElem?_map] at e1'
      have lk:scope.names.lookup y=some .local ∨ scope.names.lookup y=some .free:=by
        have e3':(relabel scope X.env).names.lookup y=some .local ∨ (relabel scope X.env).names.lookup y=some .cell ∨ (relabel scope X.env).names.lookup y=some .free:=e3
        rcases e3' with z | z | z
        · exact .inl ((relabel_look sc.nc z).1 rfl)
        · exact .inr ((relabel_look sc.nc z).2 (.inl rfl))
        · exact .inr ((relabel_look sc.nc z).2 (.inr rfl))
      obtain ⟨y0,ey0,ey⟩:∃ y0,X.N[i]?=some y0∧hideN xs y0=y:=by
        cases q:X.N[i]? with
        | none=>rw [q] at e1'; cases e1'
        | some y0=>rw [q] at e1'; exact ⟨y0,rfl,Option.some.inj e1'⟩
      have hy0:y0 ∉ xs:=fun z=>by
        have:y=Str.ofString "":=by rw [← ey]; unfold hideN; rw [if_pos (List.contains_iff_mem.mpr z)]
        rw [this,ck.noE] at lk
        rcases lk with z | z <;> cases z
      have ey2:y0=y:=by rw [← ey]; unfold hideN; rw [if_neg (fun z=>hy0 (List.contains_iff_mem.mp z))]
      rw [ey2] at ey0 hy0
      have e1':X.N[i]?=some y:=ey0
      have yN:y∈X.N:=List.mem_of_getElem? e1'
      have e3':(relabel scope X.env).names.lookup y=some .local ∨ (relabel scope X.env).names.lookup y=some .cell ∨ (relabel scope X.env).names.lookup y=some .free:=e3
      have hcf:(relabel scope X.env).names.lookup y=some .cell ∨ (relabel scope X.env).names.lookup y=some .free:=by
        rcases e3' with z | z
        · exact absurd ((relabel_look sc.nc z).1 rfl) (ck.noN y yN hy0)
        · exact z
      have hfree:scope.names.lookup y=some .free:=by
        rcases hcf with z | z
        · exact (relabel_look sc.nc z).2 (.inl rfl)
        · exact (relabel_look sc.nc z).2 (.inr rfl)
      obtain ⟨c,hcl⟩:=clOf_has (X:=X) hfree
      have hcx:=clOf_some' sc I.ok hcl
      have hvis:=sc.fr _ (PySem.mem_of_lookup hfree) rfl
      obtain ⟨m,hn,hl⟩:=I.loc
      obtain ⟨u,ru,hlook⟩:=hl i y v e1' e2 (.inr hvis)
      refine ⟨u,ru,.inr ⟨hcf,c,hcl, ?_⟩⟩
      rcases hlook with ⟨k,_⟩ | ⟨k,c',ec,hcell⟩
      · have k':X.env.scope.names.lookup y=some .local:=k
        have hv':X.env.scope.names.lookup y=some .cell ∨ X.env.scope.names.lookup y=some .free:=hvis
        rw [k'] at hv'
        rcases hv' with z | z <;> cases z
      · rw [hcx] at ec; cases ec
        obtain ⟨o,ho,hd⟩:=hcell
        exact ⟨o,old _ _ ho,hd⟩
    · obtain ⟨v,o,ho,hd⟩:=I.cell y c (clOf_some' sc I.ok e)
      exact ⟨v,o,old _ _ ho,hd⟩
    · have e:p=(D,{ cls:=.type "list",data:=.seq ([]:List Value).toArray 0 }):=by simpa [blkN] using hp
      subst e
      exact ⟨hacc,hfreshD,hDC,(fun z=>by
        rcases List.mem_cons.mp (I.stkSub D z) with e | e
        · exact absurd I.lt (by rw [← e,hDe]; exact Nat.lt_irrefl _)
        · exact I.nofs (by rw [hDe]; exact Nat.le_refl _) e),fun v z=>nomatch z⟩
  obtain ⟨W,⟨m0,w0⟩,turn⟩:=hw
  have fpB:∀ {H':Hp} {o:Obj},(∀ b∈fp,H' b=none)→∀ b∈fp,FpOk (blkN X scope xs C fp s₂ H₂) [(D,o)] H' b:=fun {H' o} hn b hb=>by
    obtain ⟨f0,f1,f2,f3,f4,f5⟩:=ff b hb
    obtain ⟨g1,g2⟩:=okB.exf b hb
    exact ⟨hn b hb,g1,okB.exfs b hb,.inl hb,g2,fun p hp=>by
      have e:p=(D,o):=by simpa [blkN] using hp
      subst e
      exact (Nat.ne_of_lt (flt b hb)).symm⟩
  have hσ:σ.length=X.N.length:=I.len
  have loop:∀ s₃:Shared,s₃={ s₂ with heap:=h₁,toks:=s₂.toks + ([]:List (Str × Value)).length } →
      codeAny (model X.prog X.w) X.A (.compLoop (.ListComp elt [⟨tg,iter,ifs,0⟩] scope pos) 0 (.ref it) (.ref D) (compEnvC scope (clOf scope X.env) C X.env)) (RR (.ref D) C) s₃:=by
    rintro s₃ rfl
    refine codeAny_compLoop_go
      (fun n s'=>∃ i ys its k σx H',σx.length=xs.length∧Inv (blkN X scope xs C fp s₂ H₂) [(D,{ cls:=.type "list",data:=.seq (List.toArray its) k })] (σ ++ σx) H' s'∧tn i s'.heap∧(∀ b∈fp,H' b=none)∧Vals ys its∧W i n ys H') ?_ m0
      ⟨0,[],[],0,List.replicate xs.length none,H₂,by simp,I0,T.keep _ _ _ st (fun b hb o e=>old b o e),fun b hb=>(ff b hb).1,.nil,w0⟩
    rintro n s' ⟨i,ys,its,k,σx,H',hσx,I',st',fr',rv,w'⟩
    obtain ⟨hz,hcase⟩:=turn i n ys H' w'
    have hpinD:=I'.pin (D,{ cls:=.type "list",data:=.seq (List.toArray its) k }) (by simp [blkN])
    rcases hcase with ⟨stop,q⟩ | ⟨go,N,hN,step⟩
    · refine thn (T.done (blkN X scope xs C fp s₂ H₂) rfl rfl rfl hc i _ s' _ H' _ I' (fpB fr') st' stop) fun r s4 ⟨hr,I4⟩=>?_
      subst hr
      have pD:=I4.pin (D,{ cls:=.type "list",data:=.seq (List.toArray its) k }) (by simp [blkN])
      obtain ⟨m4,hn4,_⟩:=I4.loc
      have IX:Inv X pins σ H' s4:=I.call' I4.os I4.base I4.hok I4.bare fun b hb=>by
        obtain ⟨f0,f1,f2,f3,f4,f5⟩:=ff b hb
        exact ⟨f3,f1,f4,f5⟩
      have IX2:=IX.adopt (D:=D) (ys:=ys) (its:=its) (n:=k) hpinD.2.1 (by rw [← hDe]; exact I.sz) (by rw [← hDe]; exact Nat.ne_of_gt I.lt)
        (fun y c e z=>by
          obtain ⟨v,o,ho,hd⟩:=I.cell y c e
          have:=Heap.lt_size ho
          rw [hDe,z] at this
          exact Nat.lt_irrefl _ this)
        (fun p hp z=>by
          have:=Heap.lt_size (I.pin p hp).1
          rw [hDe,z] at this
          exact Nat.lt_irrefl _ this) pD.1 rv hz
      refine hRR D C s4 _ m4 (by rw [hDe]; exact hCle) IX2 hn4 ?_ (q D hpinD.2.1)
      rw [upd_ne (Ne.symm hDC)]
      exact I4.free
    · refine thn (T.item (blkN X scope xs C fp s₂ H₂) rfl rfl rfl hc i _ s' _ H' _ I' (fpB fr') st' go) fun r s4 ⟨u,hr,h4⟩=>?_
      subst hr
      refine thn h4 fun _ s5 ⟨y,H5,I5,r5,y5,st5,fr5⟩=>?_
      have I5':=I5.pinned (fpB fr5) (T.obj _ _ st5)
      obtain ⟨vs,bd5,stp⟩:=step y H5 y5
      refine thn (hb C s₂ H₂ fp _ s5 σ σx H5 y u vs _ hσ hσx I5' r5 bd5) fun _ s6 I6=>?_
      refine thn (ht C s₂ H₂ fp _ s6 _ H5 _ _ I6 stp) fun ok s6' hok=>?_
      obtain ⟨H6',I6',q6'⟩:=hok
      have hvl:=hvs _ _ _ bd5
      have stay:∀ {s9:Shared} {H9:Hp} {ys':List V} {its':List Value} {k':Nat},True:=fun {_ _ _ _ _}=>trivial
      cases ok with
      | false =>
        rw [if_neg Bool.false_ne_true] at q6' ⊢
        have pD6:=I6'.pin (D,{ cls:=.type "list",data:=.seq (List.toArray its) k }) (by simp [blkN])
        obtain ⟨m',hm,w8⟩:=hN _ _ q6'
        refine ⟨m',hm,i + 1,ys,its,k,vs.map some,H6',by simp [hvl],I6'.pins_of fun p hp=>?_, ?_,fun b hb'=>?_,rv,w8⟩
        · have e:p=(D,{ cls:=.type "list",data:=.seq (List.toArray its) k }):=by simpa using hp
          subst e
          exact ⟨pD6.1,pD6.2.1,pD6.2.2.1,pD6.2.2.2.1,fun v z=>nomatch z⟩
        · refine T.keep _ _ _ st5 fun b hb' o e=>?_
          exact (I6'.pin (b,o) (List.mem_append_right _ (List.mem_append_right _ (mem_pinsAt hb' e)))).1
        · obtain ⟨o,e,d⟩:=T.obj _ _ st5 b hb'
          exact (I6'.pin (b,o) (List.mem_append_right _ (List.mem_append_right _ (mem_pinsAt hb' e)))).2.1
      | true =>
      rw [if_pos rfl] at q6' ⊢
      refine wpAny_mono (he C s₂ H₂ fp _ s6' _ H6' _ I6' q6') (fun u7 s7 h7=>?_) fun _ _ f=>f.elim
      obtain ⟨v7,H7,I7,r7,n7⟩:=h7
      have pD7:=I7.pin (D,{ cls:=.type "list",data:=.seq (List.toArray its) k }) (by simp [blkN])
      have hlen:=rv.length
      refine append_at (hsz:=by show its.toArray.size≤sizeLine; rw [List.size_toArray,← hlen]; exact hz) pD7.1 fun h8 hs8 hD8=>?_
      obtain ⟨m',hm,w8⟩:=hN _ _ n7
      have hD8':h8.get? D=some { cls:=.type "list",data:=.seq (its ++ [u7]).toArray (k + 1) }:=by rw [hD8,List.push_toArray]
      have I8:Inv (blkN X scope xs C fp s₂ H₂) [] (σ ++ vs.map some) H7 { s7 with heap:=h8 }:=by
        refine (I7.pins_of (pins':=[]) fun p hp=>absurd hp (by simp)).turned (t':=s7.toks) (it:=D) (fun b o hb e=>(hs8.2 b hb).trans e) pD7.2.1 pD7.2.2.1 (.inr (by show s₂.heap.objs.size≤D; rw [hDe]; exact Nat.le_refl _)) (fun y' c' e' z=>?_) fun p hp=>absurd (show p∈([]:List (Addr × Obj)) from by simpa [blkN] using hp) (by simp)
        obtain ⟨v,o,ho,hd⟩:=I.cell y' c' (clOf_some' sc I.ok e')
        have:=Heap.lt_size ho
        rw [hDe,z] at this
        exact Nat.lt_irrefl _ this
      refine ⟨m',hm,i + 1,ys ++ [v7],its ++ [u7],k + 1,vs.map some,H7,by simp [hvl],I8.pins_of fun p hp=>?_, ?_,fun b hb'=>?_,rv.append (.cons r7 .nil),w8⟩
      · have e:p=(D,{ cls:=.type "list",data:=.seq (its ++ [u7]).toArray (k + 1) }):=by simpa using hp
        subst e
        exact ⟨hD8',pD7.2.1,pD7.2.2.1,pD7.2.2.2.1,fun v z=>nomatch z⟩
      · refine T.keep _ _ _ st5 fun b hb' o e=>?_
        have hpb:=I7.pin (b,o) (List.mem_append_right _ (List.mem_append_right _ (mem_pinsAt hb' e)))
        exact (hs8.2 b (Nat.ne_of_lt (flt b hb'))).trans hpb.1
      · obtain ⟨o,e,d⟩:=T.obj _ _ st5 b hb'
        exact (I7.pin (b,o) (List.mem_append_right _ (List.mem_append_right _ (mem_pinsAt hb' e)))).2.1
  exact codeAny_compStart_list (loop _ rfl) (T.self _ 0 _ _ _ (T.keep _ _ _ st fun b hb o e=>old b o e) (loop _ rfl))
theorem pc_one {c:Expr} (hx:∀ e s,X.xe e s→False) (h:PT X c tt):PCi X [c] tt:=fun pins s σ H Q E I q =>
  wpAny_tests_one (wpAny_mono (h pins s σ H Q I q) (fun _ _ z=>z) fun e s z=>(hx e s z).elim)
theorem pb_name {px:Pos} (hNd:X.N.Nodup) (hchk:compChkN X.N X.env.scope scope [x]=true:=by rfl):PB X scope [x] (.Name x px) tB1:=by
  intro C s₂ H₂ ex pins s σ σx H y u vs E hσ hσx I r hb
  have ck:=compChkN_of hchk
  have sc:=ck.scs x (by simp)
  have hb:vs=[y]:=hb
  subst hb
  have ndB:=ck.nd
  refine wpAny_assign_Name ?_
  refine store_ok (X:=blkN X scope [x] C ex s₂ H₂) (i:=X.N.length) (x:=x) (v:=y) I ndB (by simp [blkN]) (.inl (lookup_relabel_local sc.var)) r (fun s6 I6=>?_) (.inr (lookup_relabel_local sc.var))
  obtain ⟨o,rfl⟩:∃ o,σx=[o]:=by
    cases σx with
    | nil=>simp at hσx
    | cons a l =>
      cases l with
      | nil=>exact ⟨a,rfl⟩
      | cons b l=>simp at hσx
  have eσ:(σ ++ [o]).set X.N.length (some y)=σ ++ [some y]:=by
    rw [← hσ]; simp
  rw [eσ] at I6
  exact I6
theorem pe_compG {wi:TI} (hi:PI X tg iter wi) (hb:PB X scope xs tg Bd) (ht:∀ C s₂ H₂ ex,PCi (blkN X scope xs C ex s₂ H₂) ifs tt) (he:∀ C s₂ H₂ ex,PE (blkN X scope xs C ex s₂ H₂) elt te) (hvs:∀ x H vs,Bd x H vs→vs.length=xs.length) (hNd:X.N.Nodup) (hc:X.calm=true)
    (hclos:closureFor scope X.env=pure (clOf scope X.env):=by rfl) (hchk:compChkN X.N X.env.scope scope xs=true:=by rfl) (hs:∀ x,foldedSetIterable iter X.env x=pure x:=by exact fun _=>rfl) :
    PE X (.ListComp elt [⟨tg,iter,ifs,0⟩] scope pos) (tCompG wi Bd tt te):=by
  intro pins s σ H Q I h
  have ck:=compChkN_of hchk
  obtain ⟨x,hx⟩:=ck.ex
  have sc:=ck.scs x hx
  rw [eval_ListComp]
  refine wpAny_comprehension_free (use:=none) rfl hs hclos sc.kind sc.locs (thn (hi pins s σ H _ I h) fun xv s₁ h₁=>thn h₁ fun itv s₂ h₂=>?_)
  obtain ⟨it,fp,tn,J,H2,e,I2,T,st2,f2,q⟩:=h₂
  subst e
  refine comp_runG (RR:=fun acc C=>compPost (model X.prog X.w) X.A X.xe none (EP X pins σ Q) acc C) I2 ck hx hNd hc T st2 f2 q hb ht he hvs ?_
  intro D C s' H' m' hC I' hn hC0 hq
  refine ⟨m',hn,fun h'' hs''=>⟨.ref D,H', ?_,rfl,hq⟩⟩
  refine I'.turned (t':=s'.toks) (it:=C) (fun b o hb e=>(hs''.2 b hb).trans e) hC0 (Nat.ne_of_gt (Nat.lt_of_lt_of_le I2.lt hC)) (.inr (Nat.le_trans I2.sz hC)) (fun y c e z=>?_) fun p hp z=>?_
  · obtain ⟨v,o,ho,hd⟩:=I2.cell y c e
    exact absurd (Heap.lt_size ho) (Nat.not_lt.mpr (by rw [z]; exact hC))
  · exact absurd (Heap.lt_size (I2.pin p hp).1) (Nat.not_lt.mpr (by rw [z]; exact hC))
end
end L2
namespace L2
open PySem PySem.Spec PyProof.Rows
noncomputable def filR {α β:Type} (f:α→Rr (Option β)):List α→Rr (List β)
  | []=>.ok []
  | x :: xs=>(f x).bind fun o=>(filR f xs).bind fun ys=>.ok (o.toList ++ ys)
noncomputable def DB (K:PySem.W.Frag) (Bd:TB) (k:Nat) (hb:PV→Rr (List PV)):Prop:=(∀ x e,hb x≠.exc e)∧∀ (H:Hp) (S:Addr→Prop) (x:PV) (v:V) (xs:List PV),Rep K H S x v→hb x=.ok xs→xs.length=k∧∃ vs,Bd v H vs∧Reps K H S xs vs
theorem db_1 {K:PySem.W.Frag}:DB K tB1 1 (fun x=>.ok [x]):=⟨fun x e h=>(by cases h),fun H S x v xs r h=>by
  cases h
  exact ⟨rfl,[v],rfl,v,[],rfl,r,rfl⟩⟩
section
variable {K:PySem.W.Frag} {B:Addr→Prop} {EX:PX→Hp→Prop} {H0 H H':Hp} {σ:St} {Γ Γ' Γ1 Γ2 Γ3:List Md} {ρ:List PV} {F F':Nat→List Addr} {R:List Addr} {k:Nat} {x:PV} {v:V} {te tb tc:TE} {ta:TA} {tt:TT} {f fb fc fe:List PV→Rr PV} {c:List PV→Rr Bool} {fa:List PV→Rr (List PV)} {Bd:TB} {hb:PV→Rr (List PV)}
theorem dt_yes:DT K EX Γ Γ tYes (fun _=>.ok true):=fun B H0 H σ ρ F R Q A d=>d H F (Same.refl H) (fun _ _ h=>h) A
theorem Ag.pushN:∀ {xs:List PV} {vs:List V} {σ:St} {Γ:List Md} {ρ:List PV},Reps K H (NO B F R) xs vs→Ag K B H0 H σ Γ ρ F R→Ag K B H0 H (σ ++ vs.map some) (Γ ++ List.replicate xs.length .S) (ρ ++ xs) F R
  | [],vs,σ,Γ,ρ,h,A=>by
    have h:vs=[]:=h
    subst h
    simpa using A
  | x :: xs,vs,σ,Γ,ρ,h,A=>by
    obtain ⟨v,r,rfl,h1,h2⟩:=h
    have:=Ag.pushN (xs:=xs) (vs:=r) h2 (A.push h1)
    simpa [List.replicate_succ] using this
theorem Ag.popN {n:Nat} {τ:St} {xs:List PV} (A:Ag K B H0 H (σ ++ τ) (Γ ++ List.replicate n .S) (ρ ++ xs) F R) (l1:σ.length=Γ.length) (l2:ρ.length=Γ.length):Ag K B H0 H σ Γ ρ F R:=by
  refine ⟨A.same,A.own,A.young,A.youngR,A.live,A.liveR,A.disj,A.disjR,l1,l2,fun i=>?_⟩
  have:=A.slot i
  by_cases h1:i < Γ.length
  · rw [List.getD_eq_getElem?_getD,List.getD_eq_getElem?_getD,List.getElem?_append_left h1,List.getElem?_append_left (by rw [l2]; exact h1),List.getElem?_append_left (by rw [l1]; exact h1),← List.getD_eq_getElem?_getD,← List.getD_eq_getElem?_getD] at this
    exact this
  · rw [List.getD_eq_getElem?_getD,List.getElem?_eq_none (by omega)]
    by_cases h2:i < Γ.length + n
    · rw [List.getD_eq_getElem?_getD,List.getElem?_append_right (by omega),List.getElem?_replicate,if_pos (by omega)] at this
      simp only [Option.getD_some] at this
      exact this.1
    · exact A.outF (by simp; omega)
theorem de_compG {wi:TI} {fi:List PV→Rr (List PV)} (hi:DIc K EX Γ Γ1 wi fi) (hB:DB K Bd k hb) (ht:DT K EX (Γ1 ++ List.replicate k .S) (Γ1 ++ List.replicate k .S) tt c) (he:DE K EX (Γ1 ++ List.replicate k .S) (Γ1 ++ List.replicate k .S) .F te fe) :
    DE K EX Γ Γ1 .F (tCompG wi Bd tt te) (fun ρ=>(fi ρ).bind fun xs=>(lenM xs).bind fun _=>(filR (fun x=>(hb x).bind fun as=>(c (ρ ++ as)).bind fun b=>if b=true then (fe (ρ ++ as)).bind fun y=>.ok (some y) else .ok none) xs).bind fun ys=>.ok (.lst ys)):=fun B H0 H σ ρ F R Q A d=>by
  refine hi B H0 H σ ρ F R _ A (d.bind.imp (fun xs _ d J H1 F1 s1 f1 A1 it=>?_) fun e q=>q)
  obtain ⟨hlen,d⟩:=Dn.lenM d.bind
  generalize hgx:(fun x=>(hb x).bind fun as=>(c (ρ ++ as)).bind fun b=>if b=true then (fe (ρ ++ as)).bind fun y=>Rr.ok (some y) else .ok none)=gx at d
  have l1:=A1.lenS
  have l2:=A1.lenR
  refine ⟨fun i m ys H2=>∃ zs G F2,m=xs.length - i∧i≤xs.length∧ys.length≤i∧Same H1 H2∧Trees K H2 zs ys G∧(∀ a∈G,a ∉ R∧(H1 a=none ∨ ∃ j,a∈F1 j))∧(∀ i,∀ a∈F2 i,a∈F1 i)∧Ag K B H0 H2 σ Γ1 ρ F2 (G ++ R) ∧
    Dn ((filR gx (xs.drop i)).bind fun ys'=>.ok (.lst (zs ++ ys'))) (fun x=>∀ v H',Same H H'→Res K B H0 H σ Γ1 ρ F R .F x v H'→Q v H') (fun e=>∀ H',Same H0 H'→EX e H'),
    ⟨xs.length,[],[],F1,by simp,Nat.zero_le _,Nat.le_refl _,Same.refl _,⟨rfl,rfl⟩,by simp,fun _ _ h=>h,A1,by simpa using d⟩, ?_⟩
  rintro i m ys H2 ⟨zs,G,F2,rfl,hi',hl,s2,tr,o2,f2,A2,dn⟩
  refine ⟨line_mil (by omega), ?_⟩
  have itp:=it H2 F2 s2 f2 i
  cases hx:xs[i]? with
  | none =>
    refine .inl ⟨itp.2 hx,fun p hp=>?_⟩
    have hd:xs.drop i=[]:=List.drop_eq_nil_of_le (List.getElem?_eq_none_iff.mp hx)
    rw [hd] at dn
    have dn':∀ v H',Same H H'→Res K B H0 H σ Γ1 ρ F R .F (.lst (zs ++ [])) v H'→Q v H':=dn
    rw [List.append_nil] at dn'
    exact dn' _ _ ((s1.trans s2).trans (Same.new hp)) (Res.newF (s1.trans s2) (fun i a h=>f1 i a (f2 i a h)) tr (fun a ha=>⟨(o2 a ha).1,(o2 a ha).2.elim (fun z=>.inl (s1.free z)) fun ⟨j,z⟩=>.inr ⟨j,f1 j a z⟩⟩) A2 hp)
  | some x =>
    have hlt:i < xs.length:=(List.getElem?_eq_some_iff.mp hx).1
    obtain ⟨go,yl⟩:=itp.1 x hx
    have hdx:xs.drop i=x :: xs.drop (i + 1):=by
      rw [List.drop_eq_getElem_cons hlt]
      rw [List.getElem?_eq_getElem hlt] at hx; cases hx; rfl
    rw [hdx] at dn
    simp only [filR,Rr.assoc] at dn
    rw [← hgx] at dn
    simp only [Rr.assoc] at dn
    rw [hgx] at dn
    refine .inr ⟨go,fun ys' H'=>∃ zs G F2,ys'.length≤i + 1∧Same H1 H'∧Trees K H' zs ys' G∧(∀ a∈G,a ∉ R∧(H1 a=none ∨ ∃ j,a∈F1 j))∧(∀ i,∀ a∈F2 i,a∈F1 i)∧Ag K B H0 H' σ Γ1 ρ F2 (G ++ R) ∧
      Dn ((filR gx (xs.drop (i + 1))).bind fun ys'=>.ok (.lst (zs ++ ys'))) (fun x=>∀ v H',Same H H'→Res K B H0 H σ Γ1 ρ F R .F x v H'→Q v H') (fun e=>∀ H',Same H0 H'→EX e H'),
      fun ys' H' ⟨zs,G,F2,a1,a2,a3,a4,a5,a6,a7⟩=>⟨xs.length - (i + 1),by omega,zs,G,F2,rfl,hlt,a1,a2,a3,a4,a5,a6,a7⟩,fun v H3 y=>?_⟩
    obtain ⟨s3,rx⟩:=yl v H3 y
    have rx':Rep K H3 (NO B F2 (G ++ R)) x v:=Rep.mono (fun a us s r=>⟨r,s.1.1,fun z=>by
      rcases List.mem_append.mp z with z | z
      · rcases (o2 a z).2 with q | ⟨j,q⟩
        · exact s.2.1 q
        · exact s.2.2 j q
      · exact s.1.2.1 z,s.1.2.2⟩) (fun a us r=>r) rx
    cases hbx:hb x with
    | exc e=>exact absurd hbx (hB.1 x e)
    | bad=>rw [hbx] at dn; exact dn.elim
    | ok as =>
      rw [hbx] at dn
      simp only [Rr.bind_ok] at dn
      obtain ⟨hk,vs,bd,ra⟩:=hB.2 H3 _ x v as rx' hbx
      refine ⟨vs,bd, ?_⟩
      have A3:=Ag.pushN ra (A2.grow s3)
      rw [hk] at A3
      refine ht B H0 H3 _ _ F2 (G ++ R) _ A3 (dn.bind.imp (fun b _ dn H4 F4 s4 f4 A4=>?_) fun e q=>q)
      cases b with
      | false =>
        rw [if_neg Bool.false_ne_true] at dn ⊢
        simp only [Rr.bind_ok,Option.toList] at dn
        refine ⟨zs,G,F4,by omega,(s2.trans s3).trans s4,(tr.same s3).same s4,o2,fun i a h=>f2 i a (f4 i a h),A4.popN l1 l2, ?_⟩
        simp only [Rr.assoc,Rr.bind_ok,List.nil_append] at dn
        exact dn
      | true =>
        rw [if_pos rfl] at dn ⊢
        simp only [Rr.assoc] at dn
        refine he B H0 H4 _ _ F4 (G ++ R) _ A4 (dn.bind.imp (fun z _ dn w H5 s5 r5=>?_) fun e q=>q)
        obtain ⟨F5,f5,G5,t5,o5,A5⟩:=r5
        refine ⟨zs ++ [z],G ++ G5,F5,by simp; omega,((s2.trans s3).trans s4).trans s5,Trees.append (((tr.same s3).same s4).same s5) (Trees.one t5) (fun a ha z=>(o5 a z).1 (List.mem_append_left _ ha)),fun a ha=>?_,fun i a h=>f2 i a (f4 i a (f5 i a h)),(A5.popN l1 l2).less fun a ha=>?_, ?_⟩
        · rcases List.mem_append.mp ha with z | z
          · exact o2 a z
          · refine ⟨fun q=>(o5 a z).1 (List.mem_append_right _ q), ?_⟩
            rcases (o5 a z).2 with q | ⟨j,q⟩
            · exact .inl (((s2.trans s3).trans s4).free q)
            · exact .inr ⟨j,f2 j a (f4 j a q)⟩
        · simp only [List.mem_append] at ha ⊢
          rcases ha with (z | z) | z
          · exact .inr (.inl z)
          · exact .inl z
          · exact .inr (.inr z)
        · simp only [Rr.assoc,Rr.bind_ok,Option.toList,List.append_assoc,List.singleton_append] at dn ⊢
          exact dn
end
theorem hv1 {n:Str}:∀ (x:V) (H:Hp) (vs:List V),tB1 x H vs→vs.length=[n].length:=fun _ _ _ h=>congrArg List.length h
end L2
namespace L2
open PySem PySem.Spec PyProof.Rows
section
variable {X:Cx} {K:PySem.W.Frag}
end
section
variable {K:PySem.W.Frag} {EX:PX→Hp→Prop} {Γ Γ1 Γ2:List Md} {te:TE} {ta:TA} {f:List PV→Rr PV} {fa:List PV→Rr (List PV)}
end
end L2
namespace L2
open PySem PySem.Spec PyProof.Rows
noncomputable def BigB:Nat:=4000000
noncomputable def CMulC (i j:Int):Prop:=i.natAbs < 2 ^ BigB∧j.natAbs < 2 ^ BigB
noncomputable instance (i j:Int):Decidable (CMulC i j):=by unfold CMulC; infer_instance
end L2
namespace Att
open PySem PySem.W PySem.Calls PyProof.Rows
end Att
namespace L2
open PySem PySem.Spec PyProof.Rows
end L2
namespace L2
open PySem PySem.Spec PyProof.Rows
section
variable {X:Cx} {K:PySem.W.Frag}
end
section
variable {X:Cx} {K:PySem.W.Frag}
end
section
variable {K:PySem.W.Frag} {EX:PX→Hp→Prop} {Γ Γ' Γ1 Γ2:List Md} {tb tc:TE} {ta:TA} {fb fc:List PV→Rr PV} {fa:List PV→Rr (List PV)}
end
end L2
namespace L2
open PySem PySem.Spec PyProof.Rows
theorem whileR_mu {c:List PV→Rr Bool} {b:List PV→RS} {ρ:List PV} {W:RS} (hw:whileR c b ρ=W) (I:List PV→Prop) (μ:List PV→Nat) (h0:I ρ)
    (hs:∀ ρ,I ρ→c ρ=.ok false ∨ (c ρ=.ok true∧(b ρ).good fun ρ'=>I ρ'∧μ ρ' < μ ρ)):∃ ρ',W=.next ρ'∧I ρ'∧c ρ'=.ok false:=by
  subst hw
  have key:∀ n ρ,I ρ→μ ρ < n→∃ ρ',iterW c b n ρ=some (.next ρ')∧I ρ'∧c ρ'=.ok false:=by
    intro n
    induction n with
    | zero=>intro ρ _ h; omega
    | succ n ih =>
      intro ρ hI hμ
      rcases hs ρ hI with h | ⟨h1,h2⟩
      · refine ⟨ρ, ?_,hI,h⟩
        unfold iterW
        rw [h]
      · obtain ⟨ρ',h3,h4,h5⟩:=RS.good_ex h2
        obtain ⟨ρ2,h6,h7⟩:=ih ρ' h4 (by omega)
        refine ⟨ρ2, ?_,h7⟩
        unfold iterW
        rw [h1]
        rcases h3 with h3 | h3 <;> (rw [h3]; exact h6)
  obtain ⟨ρ',h1,h2⟩:=key (μ ρ + 1) ρ h0 (Nat.lt_succ_self _)
  exact ⟨ρ',whileR_eq h1,h2⟩
section
variable {K:PySem.W.Frag} {EX:PX→Hp→Prop} {Γ Γ1 Γ2 Γ3:List Md} {te:TE} {f:List PV→Rr PV}
end
end L2
namespace L2
open PySem PySem.Spec PyProof.Rows
section
variable {K:PySem.W.Frag} {H:Hp} {EX:PX→Hp→Prop} {Γ Γ':List Md} {te:TE} {f:List PV→Rr PV}
end
end L2
namespace L2
open PySem PySem.Spec PyProof.Rows
section
variable {K:PySem.W.Frag} {EX:PX→Hp→Prop} {Γ Γ1 Γ2 Γ3:List Md} {k:Kd} {H:Hp}
end
end L2
namespace L2
open PySem PySem.Spec PyProof.Rows
section
variable {K:PySem.W.Frag} {B:Addr→Prop} {EX:PX→Hp→Prop} {H0 H H':Hp} {σ:St} {Γ Γ' Γ1 Γ2 Γ3:List Md} {ρ:List PV} {F F':Nat→List Addr} {R:List Addr} {k:Nat} {kd:Kd} {x:PV} {v:V} {te ta tb tc:TE} {tt:TT} {f fa fb fc fe:List PV→Rr PV} {c:List PV→Rr Bool} {Bd:TB} {hb:PV→Rr (List PV)}
end
section
variable {X:Cx}
end
end L2
namespace L2
open PySem PySem.Spec PyProof.Rows
section
variable {K:PySem.W.Frag} {B:Addr→Prop} {EX:PX→Hp→Prop} {H0 H H':Hp} {σ:St} {Γ Γ' Γ1 Γ2 Γ3:List Md} {ρ:List PV} {F F':Nat→List Addr} {R:List Addr} {te:TE} {f:List PV→Rr PV}
theorem trees_ints {ns:List Int}:∀ {vs:List V} {G:List Addr},Trees K H (ns.map PV.int) vs G→vs=ns.map V.int∧G=[]:=by
  induction ns with
  | nil=>intro vs G h; exact h
  | cons n ns ih =>
    intro vs G h
    obtain ⟨v,r,G1,G2,rfl,⟨rfl,rfl⟩,h2,h3,rfl⟩:=h
    obtain ⟨rfl,rfl⟩:=ih h2
    exact ⟨rfl,rfl⟩
end
section
variable {X:Cx} {K:PySem.W.Frag}
end
structure Dat (n:Nat) (x:PV):Prop where
  nx:x.noX=true
  can:x.dat.canLay0=true
  dep:x.dat.depth≤n
section
variable {K:PySem.W.Frag} {EX:PX→Hp→Prop} {Γ Γ':List Md} {ta:TA} {fa:List PV→Rr (List PV)}
end
theorem us1 {α:Type} {us:List α} (h:us.length=1):∃ a,us=[a]:=match us,h with | [a],_=>⟨a,rfl⟩
theorem us2 {α:Type} {us:List α} (h:us.length=2):∃ a b,us=[a,b]:=match us,h with | [a,b],_=>⟨a,b,rfl⟩
theorem us3 {α:Type} {us:List α} (h:us.length=3):∃ a b c,us=[a,b,c]:=match us,h with | [a,b,c],_=>⟨a,b,c,rfl⟩
end L2
namespace L2
open PySem PySem.Spec PyProof.Rows
section
variable {prog:Program} {w:World} {A:Around} {s:Shared} {R:Result→Shared→Prop}
variable {I:Addr} {fp wr:List Addr} {G:Array GenState→Array GenState→Prop} {n:Nat} {P:Nat→Value→Prop} {St:Nat→Shared→Prop}
end
section
variable {prog:Program} {w:World} {A:Around} {E:Value→Shared→Prop} {s:Shared}
variable {I:Addr} {fp wr:List Addr} {G:Array GenState→Array GenState→Prop} {n:Nat} {P:Nat→Value→Prop} {St:Nat→Shared→Prop}
end
section
variable {X:Cx} {K:PySem.W.Frag} {e:Expr} {te:TE} {n1 n2 pos pos':Pos}
end
section
variable {K:PySem.W.Frag} {B:Addr→Prop} {EX:PX→Hp→Prop} {H0 H H':Hp} {σ:St} {Γ Γ':List Md} {ρ:List PV} {F F':Nat→List Addr} {R:List Addr} {te:TE} {f:List PV→Rr PV} {S:Addr→Prop}
end
end L2
namespace L2
open PySem PySem.Spec PyProof.Rows
section
variable {K:PySem.W.Frag} {n:Nat} {m:List PV→Rr PV} {ta:TA} {Γ Γ':List Md} {fa:List PV→Rr (List PV)} {E:XK}
end
end L2
namespace L2
open PySem PySem.Spec PyProof.Rows
end L2
namespace L2
open PySem PySem.Spec PyProof.Rows
noncomputable abbrev PL2:=Addr × List Int
section
variable {X:Cx}
noncomputable def rMinL (K:PySem.W.Frag):List V→Hp→VK→Prop:=fun xs H Q=>∃ p,∃ ts:List PL2,xs=[.ref p]∧SqL K H p (ts.map fun t=>V.ref t.1) ∧
    (∀ t∈ts,SqL K H t.1 (t.2.map V.int))∧0 < ts.length∧∀ t,t∈ts→(∀ u∈ts,HT.lexLt u.2 t.2=false)→Q (.ref t.1) H
theorem call_minL (hu:X.A.units + 1 < cLine) (hc:X.calm=true):CallR X (.builtin "min") (rMinL X.K):=by
  intro pins s σ H xs us Q I r h
  obtain ⟨p,ts,rfl,hq,hall,hne,q⟩:=h
  obtain ⟨u,rfl,rx⟩:=vals1 r
  cases rx
  obtain ⟨its,r',pl,hz⟩:=I.list hq
  have hlen:=r'.length
  rw [List.length_map] at hlen
  have hlt:p < s.heap.objs.size:=by obtain ⟨_,e,_⟩:=pl.isList; exact Heap.lt_size e
  have item:∀ i v,its[i]?=some v→∃ t:PL2,ts[i]?=some t∧v=Value.ref t.1:=fun i v hv=>by
    have hi:i < its.length:=(List.getElem?_eq_some_iff.mp hv).1
    have hx:(ts.map fun t=>V.ref t.1)[i]?=some (V.ref (ts[i]'(by omega)).1):=by simp [List.getElem?_eq_getElem (show i < ts.length by omega)]
    obtain ⟨w,hw,rw'⟩:=r'.get hx
    rw [hv] at hw; cases hw
    exact ⟨ts[i]'(by omega),List.getElem?_eq_getElem (by omega),rw'⟩
  let d0:PL2:=(0,[])
  let key:Nat→List Int:=fun i=>(ts.getD i d0).2
  refine HL.call_minH (wpAny_pyIter_list pl.isList ?_)
  refine ⟨s.heap.objs.size,[s.heap.objs.size,p],[s.heap.objs.size],its.toArray.size,_,_,fun i j=>HT.lexLt (key i) (key j),rfl,Walks.list (A:=X.A.in1) (I.ok.hd hc) _ p (Nat.ne_of_lt hlt) its.toArray,
    ⟨⟨_,Heap.get?_push_size _ rfl,rfl,rfl⟩,pl.isList.push _⟩,fun b hb=>?_,by rw [List.size_toArray]; omega, ?_,fun v h' tk hv hk=>?_⟩
  · show b < (s.heap.push _).objs.size
    rw [Heap.size_push]
    rcases List.mem_cons.mp hb with rfl | hb
    · exact Nat.lt_succ_self _
    · rw [List.mem_singleton.mp hb]; exact Nat.lt_succ_of_lt hlt
  · intro i j vi vj s' Q' E' hi hj hk hQ
    obtain ⟨t,et,rfl⟩:=item i vi (by simpa using hi)
    obtain ⟨t',et',rfl⟩:=item j vj (by simpa using hj)
    have k':∀ b o,s.heap.get? b=some o→s'.heap.get? b=some o:=fun b o e=>by
      have hb:=Heap.lt_size e
      exact hk b o (by simp; exact Nat.ne_of_lt hb) (by show b≠(s.heap.push _).objs.size; rw [Heap.size_push]; exact Nat.ne_of_lt (Nat.lt_succ_of_lt hb)) (Heap.get?_push_of_some _ e)
    have hL:=hall t (List.mem_of_getElem? et)
    have hL':=hall t' (List.mem_of_getElem? et')
    have I':Inv X pins σ H { s with heap:=s'.heap,toks:=s'.toks }:=I.kept k'
    obtain ⟨m,r3,p3,_⟩:=I'.list hL
    obtain ⟨m2,r4,p4,_⟩:=I'.list hL'
    have ek:key i=t.2:=by show (ts.getD i d0).2=_; rw [List.getD_eq_getElem?_getD,et]; rfl
    have ek':key j=t'.2:=by show (ts.getD j d0).2=_; rw [List.getD_eq_getElem?_getD,et']; rfl
    have hQ2:Q' (Value.bool (HT.lexLt t.2 t'.2)) s':=by rw [← ek,← ek']; exact hQ
    exact HL.rcLt_lists p3.isList p4.isList (by simpa using intsAre_of r3) (by simpa using intsAre_of r4) (by show X.A.units + 1 < cLine; omega) hQ2
  · obtain ⟨t,et,rfl⟩:=item _ v (by simpa using hv)
    obtain ⟨b1,b2⟩:=HL.argBest_min (bt:=fun i j=>HT.lexLt (key i) (key j)) (fun i=>HL.lexLt_irrefl _) (fun i j k=>HL.lexLt_trans) (its.toArray.size - 1)
    rw [List.size_toArray] at b1 b2
    refine ⟨.ref t.1,H,I.kept (LSm.kept_iter hk),rfl,q t (List.mem_of_getElem? et) fun u hu=>?_⟩
    obtain ⟨j,hj,rfl⟩:=List.getElem_of_mem hu
    have:=b2 j (by omega)
    have ek:key (argBest (fun i j=>HT.lexLt (key i) (key j)) (its.length - 1))=t.2:=by
      show (ts.getD _ d0).2=_
      rw [List.getD_eq_getElem?_getD,et]; rfl
    rw [ek] at this
    have ej:key j=ts[j].2:=by
      show (ts.getD j d0).2=_
      rw [List.getD_eq_getElem?_getD,List.getElem?_eq_getElem hj]; rfl
    rw [ej] at this
    exact this
theorem call_minLK {K:PySem.W.Frag} (hu:X.A.units + 64 < cLine) (hc:X.calm=true) (e:X.K=K:=by rfl):CallR X (.builtin "min") (rMinL K):=by subst e; exact call_minL (by omega) hc
end
noncomputable def IsMinL (ts:List (List Int)) (t:List Int):Prop:=t∈ts∧∀ u∈ts,HT.lexLt u t=false
theorem IsMinL.uniq {ts:List (List Int)} {t u:List Int} (h:IsMinL ts t) (h':IsMinL ts u):t=u:=HL.lexLt_total (h'.2 t h.1) (h.2 u h'.1)
noncomputable def lstQ (t:List Int):PV:=.lst (t.map PV.int)
theorem lstsQ_inj {a b:List (List Int)} (h:a.map lstQ=b.map lstQ):a=b:=by
  induction a generalizing b with
  | nil=>cases b with
    | nil=>rfl
    | cons x b=>simp at h
  | cons x a ih=>cases b with
    | nil=>simp at h
    | cons y b =>
      simp only [List.map_cons,List.cons.injEq,lstQ,PV.lst.injEq] at h
      rw [ints_inj' h.1,ih h.2]
open Classical in
noncomputable def pMinL (x:PV):Rr PV:=if h:∃ a:List (List Int) × List Int,x=.lst (a.1.map lstQ)∧IsMinL a.1 a.2 then .ok (lstQ h.choose.2) else .bad
theorem pMinL_ok {ts:List (List Int)} {t:List Int} (h:IsMinL ts t):pMinL (.lst (ts.map lstQ))=.ok (lstQ t):=by
  have hex:∃ a:List (List Int) × List Int,PV.lst (ts.map lstQ)=.lst (a.1.map lstQ)∧IsMinL a.1 a.2:=⟨(ts,t),rfl,h⟩
  unfold pMinL
  rw [dif_pos hex]
  have hs:=hex.choose_spec
  have e:=lstsQ_inj (PV.lst.inj hs.1)
  have h2:=hs.2
  rw [← e] at h2
  rw [h2.uniq h]
section
variable {K:PySem.W.Frag} {B:Addr→Prop} {EX:PX→Hp→Prop} {H0 H H':Hp} {σ:St} {Γ Γ' Γ1 Γ2 Γ3:List Md} {ρ:List PV} {F F':Nat→List Addr} {R:List Addr} {te:TE} {f:List PV→Rr PV}
theorem trees_lists:∀ {ts:List (List Int)} {vs:List V} {G:List Addr},Trees K H (ts.map lstQ) vs G→∃ qs:List PL2,vs=(qs.map fun t=>V.ref t.1)∧(qs.map fun t=>t.2)=ts ∧
    ∀ t∈qs,SqL K H t.1 (t.2.map V.int)∧∃ G',Tree K H (lstQ t.2) (.ref t.1) G'∧∀ a∈G',a∈G
  | [],vs,G,h=>⟨[],h.1,rfl,by simp⟩
  | ns :: ts,vs,G,h=>by
    obtain ⟨v,r,G1,G2,rfl,h1,h2,h3,rfl⟩:=h
    obtain ⟨qs,rfl,e2,e3⟩:=trees_lists h2
    have h1':=h1
    obtain ⟨l,ws,G5,rfl,hl,hw,hn,rfl⟩:=h1
    obtain ⟨rfl,rfl⟩:=trees_ints hw
    refine ⟨(l,ns) :: qs,rfl,by rw [List.map_cons,e2],fun t ht=>?_⟩
    rcases List.mem_cons.mp ht with rfl | ht
    · exact ⟨SqL.of hl,_,h1',fun b hb=>List.mem_append_left _ hb⟩
    · obtain ⟨e4,G',e5,e6⟩:=e3 t ht
      exact ⟨e4,G',e5,fun b hb=>List.mem_append_right _ (e6 b hb)⟩
theorem de_minL (he:DE K EX Γ Γ' .F te f):DE K EX Γ Γ' .F (tCB (rMinL K) (tCons te tNil)) (fun ρ=>(f ρ).bind pMinL):=fun B H0 H σ ρ F R Q A d=>by
  refine he B H0 H σ ρ F R _ A (d.bind.imp (fun x _ d v H1 s1 r1=>?_) fun e q=>q)
  obtain ⟨F1,f1,G,t1,o1,A1⟩:=r1
  unfold pMinL at d
  split at d
  · rename_i hex
    have hs:=hex.choose_spec
    generalize hex.choose=c at d hs
    obtain ⟨ts,t⟩:=c
    obtain ⟨rfl,hm⟩:=hs
    have hm:IsMinL ts t:=hm
    obtain ⟨a,vs,G',rfl,ha,ht,hn,rfl⟩:=t1
    obtain ⟨qs,rfl,e2,e3⟩:=trees_lists ht
    have e2:(qs.map fun t=>t.2)=ts:=e2
    have hne:0 < qs.length:=by
      have:=hm.1
      rw [← e2] at this
      obtain ⟨q,hq,_⟩:=List.mem_map.mp this
      exact List.length_pos_of_mem hq
    refine ⟨a,qs,rfl,SqL.of ha,fun t ht=>(e3 t ht).1,hne,fun q hq hq2=>?_⟩
    have hmq:IsMinL ts q.2:=⟨by rw [← e2]; exact List.mem_map.mpr ⟨q,hq,rfl⟩,fun u hu=>by
      rw [← e2] at hu
      obtain ⟨u',hu',rfl⟩:=List.mem_map.mp hu
      exact hq2 u' hu'⟩
    have:t=q.2:=hm.uniq hmq
    subst this
    obtain ⟨_,G2,t2,o2⟩:=e3 q hq
    refine d _ H1 s1 ⟨F1,f1,G2,t2,fun b hb=>o1 b (List.mem_cons_of_mem _ (o2 b hb)),A1.less fun b hb=>?_⟩
    rcases List.mem_append.mp hb with z | z
    · exact List.mem_append_left _ (List.mem_cons_of_mem _ (o2 b z))
    · exact List.mem_append_right _ z
  · exact d.elim
end
end L2
namespace L2
open PySem PySem.Spec PyProof.Rows
section
variable {K:PySem.W.Frag} {B:Addr→Prop} {EX:PX→Hp→Prop} {H0 H H':Hp} {σ:St} {Γ Γ' Γ1 Γ2 Γ3:List Md} {ρ:List PV} {F F':Nat→List Addr} {R:List Addr} {te tb:TE} {f fb:List PV→Rr PV}
end
end L2
namespace L2
open PySem PySem.Spec PyProof.Rows
section
variable {X:Cx} {K:PySem.W.Frag} {e tg:Expr} {te:TE} {n2 pos':Pos}
end
section
variable {K:PySem.W.Frag} {B:Addr→Prop} {EX:PX→Hp→Prop} {H0 H H':Hp} {σ:St} {Γ Γ':List Md} {ρ:List PV} {F F':Nat→List Addr} {R:List Addr} {te:TE} {f:List PV→Rr PV}
end
end L2
namespace L2
open PySem PySem.Spec PyProof.Rows
section
variable {X:Cx} {K:PySem.W.Frag}
end
section
variable {K:PySem.W.Frag} {EX:PX→Hp→Prop} {Γ Γ1 Γ2:List Md} {te:TE} {ta:TA} {f:List PV→Rr PV} {fa:List PV→Rr (List PV)}
end
theorem filR_q {α:Type} {f:PV→Rr (Option PV)} {q:α→PV} {p:α→Bool} {g:α→PV} {L:List α} (h:∀ x∈L,f (q x)=.ok (if p x=true then some (g x) else none)):filR f (L.map q)=.ok ((L.filter p).map g):=by
  induction L with
  | nil=>rfl
  | cons a l ih =>
    simp only [List.map_cons,filR,h a (by simp),Rr.bind_ok,ih fun z hz=>h z (by simp [hz])]
    cases hp:p a <;> simp [hp,List.filter_cons]
end L2
namespace L2
open PySem PySem.Spec PyProof.Rows
section
variable {K:PySem.W.Frag} {B:Addr→Prop} {EX:PX→Hp→Prop} {H0 H H':Hp} {σ:St} {Γ Γ' Γ1 Γ2:List Md} {ρ:List PV} {F F':Nat→List Addr} {R:List Addr}
end
section
variable {P:Program} {w:World} {K:PySem.W.Frag} {mg:Str→Option Value} {base:Heap}
end
section
variable {K:PySem.W.Frag} {EX:PX→Hp→Prop} {Γ Γ' Γ1 Γ2:List Md} {c d:TT} {fc fd:List PV→Rr Bool} {ta:TA} {fa:List PV→Rr (List PV)} {Y:Tys} {t u:TS} {g g':List PV→RS} {n:Nat} {m:List PV→Rr PV}
end
section
variable {K:PySem.W.Frag} {H:Hp}
variable {Γ Γ1 Γ2:List Md} {i:Nat} {tp:TE} {ix:List PV→Rr (List Int)} {EX:PX→Hp→Prop} {k:Kd}
end
section
variable {X:Cx}
end
section
variable {K:PySem.W.Frag} {EX:PX→Hp→Prop} {Γ Γ':List Md} {ta:TA} {fa:List PV→Rr (List PV)}
end
section
variable {K:PySem.W.Frag} {EX:PX→Hp→Prop} {Γ:List Md} {tt:TT} {c:List PV→Rr Bool}
end
noncomputable def frz (m:Md):Md:=if m=.O ∨ m=.T then .S else m
section
variable {K:PySem.W.Frag} {B:Addr→Prop} {EX:PX→Hp→Prop} {H0 H H':Hp} {σ:St} {Γ:List Md} {ρ:List PV} {F:Nat→List Addr} {R:List Addr} {tt:TT} {c:List PV→Rr Bool} {te:TE} {fe:List PV→Rr PV}
end
section
variable {K:PySem.W.Frag} {B:Addr→Prop} {EX:PX→Hp→Prop} {H0 H H':Hp} {σ:St} {Γ Γ' Γ1 Γ2:List Md} {ρ:List PV} {F F':Nat→List Addr} {R:List Addr} {te tb:TE} {f fb:List PV→Rr PV} {S:Addr→Prop}
end
end L2
namespace HL
open PySem PyProof.Rows
section
open PySem.SeqAt
open PySem.AutoSeq1 (wpAny_loadPart')
open PySem.MeetsSeq PySem.MeetsSeq2 PySem.MeetsSeq3 SeqRoads2
end
section
variable {prog:Program} {w:World} {A:Around} {E:Value→Shared→Prop} {s:Shared}
end
end HL
namespace L2
open PySem PySem.Spec PyProof.Rows
section
variable {X:Cx} {K:PySem.W.Frag}
end
section
variable {X:Cx} {C:Addr} {tb:(St→XK)→TS} {th:TS} {c:Str} {np hpos pos:Pos} {body suite:List Stmt} {b₀:Stmt}
end
section
variable {K:PySem.W.Frag} {EX:PX→Hp→Prop} {Γ Γs:List Md} {Y:Tys} {tb:(St→XK)→TS} {th:TS} {gb gh:List PV→RS} {C:Addr} {L:List Str}
end
section
variable {K:PySem.W.Frag} {EX:PX→Hp→Prop} {Γ Γ1 Γ2:List Md} {tb tc:TE} {fb fc:List PV→Rr PV}
end
end L2
namespace L2
open PySem PySem.Spec PyProof.Rows
section
variable {K:PySem.W.Frag} {B:Addr→Prop} {EX:PX→Hp→Prop} {H0 H H':Hp} {σ:St} {Γ Γ' Γ1 Γ2:List Md} {ρ:List PV} {F F':Nat→List Addr} {R:List Addr}
end
section
variable {K:PySem.W.Frag} {B:Addr→Prop} {EX:PX→Hp→Prop} {H0 H H':Hp} {σ:St} {Γ Γb Γ0 Γf Γn Γ1 Γ2:List Md} {ρ:List PV} {F:Nat→List Addr} {L v x:Nat} {a:Addr} {vs:List V} {xs:List PV} {G Gx:List Addr}
end
end L2
namespace L2
open PySem PySem.Spec PyProof.Rows
section
variable {M:Model} {A:Around} {E:Value→Shared→Prop} {s:Shared}
end
section
variable {X:Cx} {pins:List (Addr × Obj)} {σ:St} {s₂:Shared} {H₂:Hp} {scope:Scope} {x:Str} {tg elt iter:Expr} {ifs:List Expr} {pos:Pos} {Bd:TB} {tt:TT} {te:TE} {J:It} {fp:List Addr} {it:Addr} {tn:Nat→Heap→Prop}
end
end L2
namespace L2
open PySem PySem.Spec PyProof.Rows
noncomputable def pExt (xs:List PV) (y:PV):Rr PV:=match y with
  | .lst ys=>if xs.length + ys.length≤1000000 then .ok (.lst (xs ++ ys)) else .bad
  | _=>.bad
theorem pExt_ok {xs ys:List PV} (h:xs.length + ys.length≤1000000):pExt xs (.lst ys)=.ok (.lst (xs ++ ys)):=if_pos h
theorem Dn.pExt {xs:List PV} {y:PV} {ok:PV→Prop} {ex:PX→Prop} (d:Dn (pExt xs y) ok ex):∃ ys,y=.lst ys∧xs.length + ys.length≤1000000∧ok (.lst (xs ++ ys)):=by
  unfold L2.pExt at d
  cases y with
  | lst ys =>
    dsimp only at d
    by_cases h:xs.length + ys.length≤1000000
    · rw [if_pos h] at d; exact ⟨ys,rfl,h,d⟩
    · rw [if_neg h] at d; exact d.elim
  | _=>exact d.elim
section
variable {K:PySem.W.Frag} {EX:PX→Hp→Prop} {Γ Γ1 Γ2 Γ3:List Md} {k:Kd} {te:TE} {f:List PV→Rr PV}
theorem ds_extO {i:Nat} (hm:Γ[i]?=some .O) (hm2:Γ2[i]?=some .O) (he:DE K EX Γ Γ2 .F te f) :
    DS K EX Γ ⟨Γ2,Γ1,Γ3,k⟩ (tDrop (tBM K "list" rExtend (tVar i) (tCons te tNil))) (fun ρ=>(asL (gv i ρ)).thenS fun xs=>(f ρ).thenS fun y=>(pExt xs y).thenS fun z=>.next (ρ.set i z)):=fun B H0 H σ ρ F D A d=>by
  obtain ⟨v,h1,h2⟩:=A.getO hm
  refine ⟨v,h1, ?_⟩
  obtain ⟨xs,e1,d⟩:=Dn.asL d.thenS
  rw [show ρ.getD i .non=.lst xs from e1] at h2
  obtain ⟨a,vs,G,rfl,hH,ht,hn,hF⟩:=h2
  refine ⟨.inl ⟨rfl,_,SqL.of hH⟩,he B H0 H σ ρ F [] _ A (d.thenS.imp (fun y _ d w H2 s2 r2=>?_) fun e q=>q)⟩
  obtain ⟨F2,f2,G2,y1,y2,A2⟩:=r2
  obtain ⟨ys,rfl,hlen,d⟩:=Dn.pExt d.thenS
  obtain ⟨b,zs,G3,rfl,hb,hz,hnb,rfl⟩:=y1
  obtain ⟨v',h1',h2'⟩:=A2.getO hm2
  rw [h1] at h1'; cases h1'
  rw [show ρ.getD i .non=.lst xs from e1] at h2'
  obtain ⟨a',vs',G',e,hH',ht',hn',hF'⟩:=h2'
  cases e
  have hd:∀ c∈F2 i,c ∉ b :: G3:=fun c hc z=>A2.disjR i c hc (by simpa using z)
  have haF:a∈F2 i:=by rw [hF']; simp
  refine ⟨a,b,vs',zs,rfl,rfl,hH',hb,by rw [ht'.length,hz.length]; exact line_mil hlen, ?_⟩
  have na3:a ∉ G3:=fun z=>hd a haF (by simp [z])
  have tr:Trees K (upd H2 a (.lst (vs' ++ zs))) (xs ++ ys) (vs' ++ zs) (G' ++ G3):=Trees.append (ht'.put hH' hn') (hz.put hH' na3) (fun c hc z=>hd c (by rw [hF']; simp [hc]) (by simp [z]))
  refine d σ _ (own1 F2 i (a :: (G' ++ G3))) (frm_chg s2 f2 haF fun c hc=>?_) (Ag.chg (G:=b :: G3) A2 hm2 haF (fun c hc=>?_) (by simp) ⟨_,h1,a,_,G' ++ G3,rfl,upd_same,tr,fun z=>(List.mem_append.mp z).elim hn' na3,rfl⟩)
  · rcases List.mem_cons.mp hc with z | z
    · exact .inr ⟨i,f2 i c (by rw [z]; exact haF)⟩
    · rcases List.mem_append.mp z with z | z
      · exact .inr ⟨i,f2 i c (by rw [hF']; simp [z])⟩
      · exact (y2 c (by simp [z])).2
  · rcases List.mem_cons.mp hc with z | z
    · exact .inl (by rw [z]; exact haF)
    · rcases List.mem_append.mp z with z | z
      · exact .inl (by rw [hF']; simp [z])
      · exact .inr (by simp [z])
end
end L2
namespace L2
open PySem PySem.Spec PyProof.Rows
section
variable {X:Cx} {x:Str} {pos:Pos}
end
section
variable {K:PySem.W.Frag} {B:Addr→Prop} {EX:PX→Hp→Prop} {H0 H H':Hp} {σ:St} {Γ Γ' Γ1 Γ2 Γ3:List Md} {ρ:List PV} {F F':Nat→List Addr} {R:List Addr} {te tb ta':TE} {ta:TA} {f fb fa':List PV→Rr PV} {fa:List PV→Rr (List PV)}
end
section
variable {K:PySem.W.Frag} {H:Hp} {EX:PX→Hp→Prop} {Γ Γ':List Md} {te:TE} {f:List PV→Rr PV}
end
section
variable {prog:Program} {w:World} {A:Around} {E:Value→Shared→Prop} {s:Shared} {x y:Str} {t u:Tok} {Q:Value→Shared→Prop}
open Builtin Builtin.Str
end
section
variable {X:Cx} {K:PySem.W.Frag}
end
section
variable {K:PySem.W.Frag} {H:Hp} {EX:PX→Hp→Prop} {Γ Γ1 Γ2:List Md} {te tb:TE} {ta:TA} {f fb:List PV→Rr PV} {fa:List PV→Rr (List PV)}
end
section
variable {K:PySem.W.Frag} {EX:PX→Hp→Prop} {Γ Γ1 Γ2:List Md} {te tb:TE} {f fb:List PV→Rr PV}
end
end L2
namespace L2
open PySem PySem.Spec PyProof.Rows
section
variable {K:PySem.W.Frag} {B:Addr→Prop} {EX:PX→Hp→Prop} {H0 H H':Hp} {σ:St} {Γ Γ' Γ1 Γ2 Γ3:List Md} {ρ:List PV} {F F':Nat→List Addr} {R:List Addr} {te tb:TE} {f fb:List PV→Rr PV}
end
end L2
namespace L2
open PySem PySem.Spec PyProof.Rows
section
variable {X:Cx}
end
section
variable {K:PySem.W.Frag} {B:Addr→Prop} {EX:PX→Hp→Prop} {H0 H H':Hp} {σ:St} {Γ Γ' Γ1 Γ2 Γ3:List Md} {ρ:List PV} {F F':Nat→List Addr} {R:List Addr} {ta:TA} {fa:List PV→Rr (List PV)}
end
end L2
namespace L2
open PySem PySem.Spec PyProof.Rows
section
variable {κ:Type} [DecidableEq κ]
noncomputable def valV (kvs:List (κ × V)) (k:κ):Option V:=(kvs.find? fun kv=>decide (kv.1=k)).map (·.2)
noncomputable def putK (kvs:List (κ × V)) (k:κ) (v:V):List (κ × V) :=
  if (kvs.any fun kv=>decide (kv.1=k))=true then kvs.map (fun kv=>if kv.1=k then (kv.1,v) else kv) else kvs ++ [(k,v)]
theorem valV_pos {p:κ × V} {r:List (κ × V)} {k:κ} (e:p.1=k):valV (p :: r) k=some p.2:=by simp [valV,List.find?_cons,e]
theorem valV_neg {p:κ × V} {r:List (κ × V)} {k:κ} (e:¬ p.1=k):valV (p :: r) k=valV r k:=by simp [valV,List.find?_cons,e]
theorem valV_any (k:κ):∀ kvs:List (κ × V),(kvs.any fun kv=>decide (kv.1=k))=(valV kvs k).isSome
  | []=>rfl
  | p :: r=>by
    rw [List.any_cons]
    by_cases e:p.1=k
    · simp only [valV_pos e,decide_eq_true e,Bool.true_or,Option.isSome_some]
    · rw [valV_neg e,decide_eq_false e,Bool.false_or]; exact valV_any k r
theorem length_putK (kvs:List (κ × V)) (k:κ) (v:V):(putK kvs k v).length≤kvs.length + 1:=by
  unfold putK
  split
  · rw [List.length_map]; omega
  · rw [List.length_append,List.length_cons,List.length_nil]; omega
theorem RelO.isSome_eq {o:Option V} {u:Option Value} (r:RelO o u):o.isSome=u.isSome:=by
  cases o with
  | none=>cases u with
    | none=>rfl
    | some _=>exact (show False from r).elim
  | some _=>cases u with
    | none=>exact (show False from r).elim
    | some _=>rfl
theorem KV.val {kvs:List (κ × V)} {vs:List (κ × Value)} (r:KV kvs vs) (k:κ):RelO (valV kvs k) (valueAt vs k):=by
  unfold KV at r
  induction r with
  | nil=>exact True.intro
  | @cons p q ps qs h t ih =>
    obtain ⟨h1,h2⟩:=h
    by_cases e:p.1=k
    · have e':q.1=k:=h1.symm.trans e
      have b:valueAt (q :: qs) k=some q.2:=by simp [valueAt,List.find?_cons,e']
      rw [valV_pos e,b]; exact h2
    · have e':¬ q.1=k:=fun z=>e (h1.trans z)
      have b:valueAt (q :: qs) k=valueAt qs k:=by simp [valueAt,List.find?_cons,e']
      rw [valV_neg e,b]; exact ih
theorem KV.any {kvs:List (κ × V)} {vs:List (κ × Value)} (r:KV kvs vs) (k:κ):(kvs.any fun kv=>decide (kv.1=k))=vs.any fun kv=>decide (kv.1=k):=by
  unfold KV at r
  induction r with
  | nil=>rfl
  | cons h t ih=>rw [List.any_cons,List.any_cons,ih,h.1]
theorem KV.repl {kvs:List (κ × V)} {vs:List (κ × Value)} (r:KV kvs vs) (k:κ) {y:V} {u:Value} (ry:RelV y u) :
    KV (kvs.map fun kv=>if kv.1=k then (kv.1,y) else kv) (vs.map fun kv=>if kv.1=k then (kv.1,u) else kv):=by
  unfold KV at r ⊢
  induction r with
  | nil=>exact .nil
  | @cons p q ps qs h t ih =>
    rw [List.map_cons,List.map_cons]
    refine .cons ?_ ih
    obtain ⟨h1,h2⟩:=h
    by_cases e:p.1=k
    · rw [if_pos e,if_pos (h1.symm.trans e)]; exact ⟨h1,ry⟩
    · rw [if_neg e,if_neg (fun z=>e (h1.trans z))]; exact ⟨h1,h2⟩
theorem KV.put {kvs:List (κ × V)} {vs:List (κ × Value)} (r:KV kvs vs) (k:κ) {y:V} {u:Value} (ry:RelV y u):KV (putK kvs k y) (stored vs k u):=by
  unfold putK stored
  rw [r.any k]
  by_cases e:(vs.any fun kv=>decide (kv.1=k))=true
  · rw [if_pos e,if_pos e]; exact r.repl k ry
  · rw [if_neg e,if_neg e]; exact Paired.snoc r ⟨rfl,ry⟩
theorem KV.length {kvs:List (κ × V)} {vs:List (κ × Value)} (r:KV kvs vs):kvs.length=vs.length:=Paired.length r
end
theorem kV_is {P:Program} {w:World} {k:Key} {u:Value} (r:RelV (kV k) u):(mixKind P w).is k u=true:=by
  cases k with
  | inl i=>obtain ⟨t,e⟩:=(show ∃ t,u=Value.int i t from r); subst e; exact mixKind_int P w i t
  | inr x=>obtain ⟨t,e⟩:=(show ∃ t,u=Value.str x t from r); subst e; exact mixKind_str P w x t
theorem items_are {P:Program} {w:World}:∀ {ks:List Key} {us:List Value},Vals (ks.map kV) us→ItemsAre (mixKind P w) ks us
  | [],_,r=>by rw [List.map_nil] at r; cases r; exact .nil
  | k :: ks,_,r=>by
    rw [List.map_cons] at r
    cases r with
    | cons h t=>exact .cons (kV_is h) (items_are t)
noncomputable abbrev KT (H:Hp):List (List Key × V)→List (List Key × Addr × Value)→Prop:=Paired fun p q=>p.1=q.1∧H q.2.1=some (.tup (p.1.map kV))∧RelV p.2 q.2.2
theorem KT.val {H:Hp} {kvs:List (List Key × V)} {xs:List (List Key × Addr × Value)} (r:KT H kvs xs) (k:List Key):RelO (valV kvs k) ((atKey xs k).map (·.2)):=by
  induction r with
  | nil=>exact True.intro
  | @cons p q ps qs h t ih =>
    obtain ⟨h1,_,h2⟩:=h
    by_cases e:p.1=k
    · have e':q.1=k:=h1.symm.trans e
      have b:atKey (q :: qs) k=some q.2:=by simp [atKey,List.find?_cons,e']
      rw [valV_pos e,b]; exact h2
    · have e':¬ q.1=k:=fun z=>e (h1.trans z)
      have b:atKey (q :: qs) k=atKey qs k:=by simp [atKey,List.find?_cons,e']
      rw [valV_neg e,b]; exact ih
theorem KT.repl {H:Hp} {kvs:List (List Key × V)} {xs:List (List Key × Addr × Value)} (r:KT H kvs xs) (k:List Key) {y:V} {u:Value} (ry:RelV y u) :
    KT H (kvs.map fun kv=>if kv.1=k then (kv.1,y) else kv) (xs.map (putAt k u)):=by
  induction r with
  | nil=>exact .nil
  | @cons p q ps qs h t ih =>
    rw [List.map_cons,List.map_cons]
    refine .cons ?_ ih
    obtain ⟨h1,h2,h3⟩:=h
    unfold putAt
    by_cases e:p.1=k
    · rw [if_pos e,if_pos (h1.symm.trans e)]; exact ⟨h1,h2,ry⟩
    · rw [if_neg e,if_neg (fun z=>e (h1.trans z))]; exact ⟨h1,h2,h3⟩
theorem KT.put {H:Hp} {kvs:List (List Key × V)} {xs:List (List Key × Addr × Value)} (r:KT H kvs xs) (k:List Key) {b:Addr} {y:V} {u:Value} (hb:H b=some (.tup (k.map kV))) (ry:RelV y u) :
    KT H (putK kvs k y) (storedH xs k b u):=by
  have e:(kvs.any fun kv=>decide (kv.1=k))=(atKey xs k).isSome:=by
    rw [valV_any,(r.val k).isSome_eq,Option.isSome_map]
  unfold putK storedH
  rw [e]
  by_cases q:(atKey xs k).isSome=true
  · rw [if_pos q,if_pos q]; exact r.repl k ry
  · rw [if_neg q,if_neg q]; exact Paired.snoc r ⟨rfl,hb,ry⟩
theorem KT.keeps {H H':Hp} {kvs:List (List Key × V)} {xs:List (List Key × Addr × Value)} (r:KT H kvs xs) (ht:∀ b ys,H b=some (.tup ys)→H' b=some (.tup ys)):KT H' kvs xs :=
  Paired.mapP r fun _ _ z=>⟨z.1,ht _ _ z.2.1,z.2.2⟩
section
variable {P:Program} {w:World} {H:Hp} {h:Heap} {a:Addr}
theorem rd_of {u:HO} (ok:HOk P w H h) (e:Rd H a u):ObjOk P w H h a u:=e.ok ok
theorem dk_rd {kvs:List (Key × V)} (ok:HOk P w H h) (e:Rd H a (.dK kvs)):kvs.length≤sizeLine∧(a == sysModules)=false∧∃ vs,KV kvs vs∧h.DictOf (mixKind P w) a vs :=
  show ObjOk P w H h a (.dK kvs) from rd_of ok e
theorem dk_of {kvs:List (Key × V)} (ok:HOk P w H h) (e:H a=some (.dK kvs)):kvs.length≤sizeLine∧(a == sysModules)=false∧∃ vs,KV kvs vs∧h.DictOf (mixKind P w) a vs:=dk_rd ok (.inl e)
theorem key_of {ks:List Key} (ok:HOk P w H h) (e:H a=some (.tup (ks.map kV))):(tupleKind (mixKind P w)).is h ks a:=by
  obtain ⟨_,its,r,o,h1,h2,n,h3⟩:=(show ObjOk P w H h a (.tup (ks.map kV)) from ok a _ e)
  exact ⟨o,its.toArray,n,h1,h2,h3,by simpa using items_are r⟩
theorem dt_rd {kvs:List (List Key × V)} (ok:HOk P w H h) (e:Rd H a (.dT kvs)):kvs.length≤sizeLine∧(a == sysModules)=false ∧
    ∃ xs,KT H kvs xs∧h.DictOfH (tupleKind (mixKind P w)) a xs:=by
  obtain ⟨z,y,xs,r,o,es,ep,h1,h2,h3,h4,h5⟩:=(show ObjOk P w H h a (.dT kvs) from rd_of ok e)
  refine ⟨z,y,xs,r,o,es,ep,h1,h2,h3,h4,fun x hx=>?_,h5⟩
  have all:∀ {l:List (List Key × V)} {m:List (List Key × Addr × Value)},KT H l m→∀ x∈m,(tupleKind (mixKind P w)).is h x.1 x.2.1:=by
    intro l m q
    induction q with
    | nil=>intro x hx; exact nomatch hx
    | @cons p q ps qs hq t ih =>
      intro x hx
      rcases List.mem_cons.mp hx with e | hx
      · subst e
        exact key_of ok (by rw [← hq.1]; exact hq.2.1)
      · exact ih x hx
  exact all r x hx
theorem dt_of {kvs:List (List Key × V)} (ok:HOk P w H h) (e:H a=some (.dT kvs)):kvs.length≤sizeLine∧(a == sysModules)=false ∧
    ∃ xs,KT H kvs xs∧h.DictOfH (tupleKind (mixKind P w)) a xs:=dt_rd ok (.inl e)
end
noncomputable def DGet (H:Hp) (a:Addr) (y:V) (r:Option V):Prop :=
  (∃ kvs k,Rd H a (.dK kvs)∧y=kV k∧r=valV kvs k) ∨ ∃ kvs k b,Rd H a (.dT kvs)∧y=.ref b∧H b=some (.tup (k.map kV))∧r=valV kvs k
noncomputable def DPut (H:Hp) (a:Addr) (y v:V) (H':Hp):Prop :=
  (∃ kvs k,H a=some (.dK kvs)∧y=kV k∧kvs.length < sizeLine∧H'=upd H a (.dK (putK kvs k v))) ∨
  ∃ kvs k b,H a=some (.dT kvs)∧y=.ref b∧H b=some (.tup (k.map kV))∧kvs.length < sizeLine∧H'=upd H a (.dT (putK kvs k v))
section
variable {X:Cx} {pins:List (Addr × Obj)} {σ:St} {H:Hp} {s:Shared} {a:Addr} {y v:V} {u r:Value} {o:Option V} {A:Around} {E:Value→Shared→Prop}
theorem Inv.big (I:Inv X pins σ H s):sysModules < s.heap.objs.size:=by
  have h:mainGlobals < s.heap.objs.size:=(I.mod.glob.keeps I.bk).lt
  exact Nat.lt_trans (by decide) h
theorem d_getItem {Q:Value→Shared→Prop} (hu:A.units + 1 < cLine) (I:Inv X pins σ H s) (g:DGet H a y (some v)) (ry:RelV y u) (h:∀ w' s',Inv X pins σ H s'→RelV v w'→Q w' s') :
    wpAny (model X.prog X.w) A (getItem (.ref a) u) Q E s:=by
  rcases g with ⟨kvs,k,e,ey,l⟩ | ⟨kvs,k,b,e,ey,eb,l⟩
  · subst ey
    obtain ⟨z,hd,vs,rel,dd⟩:=dk_rd I.hok e
    obtain ⟨w',hw,rw'⟩:=RelO.some_of (v:=v) (o:=valueAt vs k) (by rw [l]; exact rel.val k)
    exact wpAny_getItem_of (kV_is ry) dd.mapOf hw (h w' _ (I.tok _) rw')
  · subst ey
    cases (show u=Value.ref b from ry)
    obtain ⟨z,hd,xs,rel,dd⟩:=dt_rd I.hok e
    obtain ⟨w',hw,rw'⟩:=RelO.some_of (v:=v) (o:=(atKey xs k).map (·.2)) (by rw [l]; exact rel.val k)
    obtain ⟨p,hp,hp2⟩:=Option.map_eq_some_iff.mp hw
    refine wpAny_getItem_heap (tupleKind_room_in1 hu) (key_of I.hok eb) dd hp ?_
    rw [hp2]
    exact h w' _ (I.tok _) rw'
theorem d_write {h':Heap} {t':Nat} {ob:HO} (I:Inv X pins σ H s) (mu:Mut (H a)) (hs:Heap.SameBut a s.heap h') (he:∃ q,h'.get? a=some q) (new:ObjOk X.prog X.w (upd H a ob) h' a ob) :
    Inv X pins σ (upd H a ob) { s with heap:=h',toks:=t' } :=
  I.write (x:=a) (e:=a) mu (.inl rfl) (fun b q hb z=>(hs.2 b hb).trans z) he new
theorem dk_new {P:Program} {w:World} {H':Hp} {h':Heap} {kvs:List (Key × V)} {vs:List (Key × Value)} (z:kvs.length≤sizeLine) (hd:(a == sysModules)=false) (rel:KV kvs vs) (dd:h'.DictOf (mixKind P w) a vs) :
    ObjOk P w H' h' a (.dK kvs):=⟨z,hd,vs,rel,dd⟩
theorem d_setItem {H':Hp} {Q:Unit→Shared→Prop} (hu:A.units + 1 < cLine) (I:Inv X pins σ H s) (g:DPut H a y v H') (ry:RelV y u) (rv:RelV v r) (h:∀ s',Inv X pins σ H' s'→Q () s') :
    wpAny (model X.prog X.w) A (setItem (.ref a) u r) Q E s:=by
  rcases g with ⟨kvs,k,e,ey,l,eH⟩ | ⟨kvs,k,b,e,ey,eb,l,eH⟩
  · subst ey eH
    obtain ⟨z,hd,vs,rel,dd⟩:=dk_of I.hok e
    have hz:vs.length≤sizeLine:=by rw [← rel.length]; exact z
    have hl:(putK kvs k v).length≤sizeLine:=by have:=length_putK kvs k v; omega
    refine wpAny_setItem_pairs (hsz:=hz) (kV_is ry) dd fun h' dd' hs=>h _ ?_
    have he:∃ q,h'.get? a=some q:=let ⟨q,_,_,hq,_⟩:=dd'; ⟨q,hq⟩
    exact d_write I (by rw [e]; exact True.intro) hs he (dk_new hl hd (rel.put k rv) dd')
  · subst ey eH
    cases (show u=Value.ref b from ry)
    obtain ⟨z,hd,xs,rel,dd⟩:=dt_of I.hok e
    have hz:xs.length≤sizeLine:=by rw [← Paired.length rel]; exact z
    have hl:(putK kvs k v).length≤sizeLine:=by have:=length_putK kvs k v; omega
    refine wpAny_setItem_heap (hsz:=hz) (tupleKind_room_in1 hu) (key_of I.hok eb) dd fun h' dd' hs=>h _ ?_
    obtain ⟨q,es,ep,hq,h2,h3,h4,_,h5⟩:=dd'
    refine d_write I (by rw [e]; exact True.intro) hs ⟨q,hq⟩ ⟨hl,hd,_,(rel.put k eb rv).keeps fun c ys ec=>?_,q,es,ep,hq,h2,h3,h4,h5⟩
    rw [upd_ne (ne_of ec e (fun z=>nomatch z))]
    exact ec
end
section
variable {X:Cx} {pins:List (Addr × Obj)} {σ:St} {H:Hp} {s:Shared} {a:Addr} {kvs:List (Key × V)} {k:Key} {u:Value} {A:Around} {E:Value→Shared→Prop}
end
noncomputable def NoSl (i:Expr):Prop:=∀ ov iv,subscripted i false ov iv=operate [ov,iv] (getItem ov iv)
theorem subD_of {prog:Program} {w:World} {A:Around} {E:Value→Shared→Prop} {s:Shared} {env:Env} {value slice:Expr} {pos:Pos} {T id:String} {Q:Value→Shared→Prop}
    (hl:typeLookup (.type T) "__getitem__"=pure (some (.builtin id))) (hs:NoSl slice)
    (h:wpAny (model prog w) A (eval value env) (fun o s₁=>wpAny (model prog w) A (eval slice env) (fun i s₂=>s₂.TypeIs o T∧wpAny (model prog w) A (getItem o i) Q E s₂) E s₁) E s) :
    wpAny (model prog w) A (eval (.Subscript value slice pos) env) Q E s:=by
  refine Subscript_ (wpAny_mono h (fun o s₁ h₁=>wpAny_mono h₁ (fun i s₂ h₂=>?_) fun _ _ x=>x) fun _ _ x=>x)
  obtain ⟨hT,h₂⟩:=h₂
  unfold subscriptTail
  refine wpAny_bind ?_
  rw [getitemInPython_of_ne hT.not_modules]
  refine wpAny_bind (wpAny_specialOf hT hl ?_)
  have fin:wpAny (model prog w) A (subscripted slice false o i) (fun r s₃=>wpAny (model prog w) A (letTemporaryGo value o r >>= fun _=>pure r) Q E s₃) E s₂:=by
    rw [hs o i]
    exact wpAny_operating (wpAny_mono h₂ (fun r s₃ h₃=>wpAny_bind (wpAny_letTemporaryGo (wpAny_pure h₃))) fun _ _ x=>x)
  first
    | exact wpAny_pure (wpAny_bind fin)
    | exact wpAny_bind (wpAny_pure (wpAny_bind fin))
    | exact wpAny_bind fin
theorem dict_typeIs {X:Cx} {pins:List (Addr × Obj)} {σ:St} {H:Hp} {s:Shared} {a:Addr} {y:V} {o:Option V} (I:Inv X pins σ H s) (g:DGet H a y o):s.TypeIs (.ref a) "dict":=by
  rcases g with ⟨kvs,k,e,_,_⟩ | ⟨kvs,k,b,e,_,_,_⟩
  · obtain ⟨_,_,vs,_,dd⟩:=dk_rd I.hok e
    exact dd.typeIs
  · obtain ⟨_,_,xs,_,dd⟩:=dt_rd I.hok e
    exact dd.typeIs
noncomputable def tDGet (td ty:TE):TE:=fun σ H Q=>td σ H fun x H1=>ty σ H1 fun y H2=>∃ a v,x=.ref a∧DGet H2 a y (some v)∧Q v H2
noncomputable def sDPut (td ty tv:TE):TS:=fun D σ H=>tv σ H fun v H1=>td σ H1 fun x H2=>ty σ H2 fun y H3=>∃ a H4,x=.ref a∧DPut H3 a y v H4∧D.nx σ H4
section
variable {X:Cx} {o i e value:Expr} {pos pos' tpos:Pos} {td ty tv:TE}
theorem pe_dget (hu:X.A.units + 1 < cLine) (ho:PE X o td) (hi:PE X i ty) (hs:NoSl i):PE X (.Subscript o i pos) (tDGet td ty):=by
  intro pins s σ H Q I h
  refine subD_of PySem.F.slot_dict_getitem.lookup hs (thn (ho pins s σ H _ I h) fun u s1 ⟨x,H1,I1,rx,q1⟩=>thn (hi pins s1 σ H1 _ I1 q1) fun iv s2 ⟨y,H2,I2,ry,a,v,ex,g,q2⟩=>?_)
  subst ex
  obtain rfl:u=Value.ref a:=rx
  exact ⟨dict_typeIs I2 g,d_getItem hu I2 g ry fun w' s3 I3 rw'=>⟨v,H2,I3,rw',q2⟩⟩
theorem ps_dput (hu:X.A.units + 1 < cLine) (ho:PE X o td) (hi:PE X i ty) (hv:PE X value tv) (hs:swapsWith value (some (.Subscript o i pos')) pos.line X.env=pure false) :
    PS X (.Assign [.Subscript o i pos'] value pos) (sDPut td ty tv):=by
  intro pins s σ H D I h
  refine wpAny_Assign_Subscript (thn (hv pins s σ H _ I h) fun r s1 ⟨v,H1,I1,rv,q1⟩=>thn (ho pins s1 σ H1 _ I1 q1) fun u s2 ⟨x,H2,I2,rx,q2⟩=>thn (hi pins s2 σ H2 _ I2 q2) fun iv s3 ⟨y,H3,I3,ry,a,H4,ex,g,q3⟩=>?_) hs
  subst ex
  obtain rfl:u=Value.ref a:=rx
  exact d_setItem hu I3 g ry rv fun s4 I4=>⟨σ,H4,I4,q3⟩
end
theorem dk_empty {P:Program} {w:World} {H:Hp} (h:Heap) (hb:sysModules < h.objs.size):ObjOk P w H (h.push { cls:=.type "dict",data:=.dict #[] }) h.objs.size (.dK []) :=
  ⟨Nat.zero_le _,beq_eq_false_iff_ne.mpr (Ne.symm (Nat.ne_of_lt hb)),[],.nil,Heap.DictOf.new h⟩
noncomputable def tDNewK:TE:=fun _ H Q=>∀ p,H p=none→Q (.ref p) (upd H p (.dK []))
section
variable {X:Cx} {pos:Pos}
theorem pe_dnewK:PE X (.Dict [] [] pos) tDNewK:=fun pins s σ H Q I h =>
  wpAny_Dict_empty ⟨.ref s.heap.objs.size,_,I.laid (a:=s.heap.objs.size) (o:=.dK []) (t':=s.toks) (fun _ _ q=>Heap.get?_push_of_some _ q) (Nat.le_refl _) (dk_empty s.heap I.big),rfl,h _ (I.hok.fresh (Nat.le_refl _))⟩
end
section
variable {X:Cx} {pins:List (Addr × Obj)} {σ:St} {H:Hp} {s:Shared} {a:Addr} {y d:V} {u r:Value} {o:Option V} {A:Around} {E:Value→Shared→Prop}
end
section
variable {X:Cx} {o e f:Expr} {apos cpos:Pos} {td ty tx:TE}
end
section
variable {X:Cx} {pins:List (Addr × Obj)} {σ:St} {H:Hp} {s:Shared} {a:Addr} {kvs:List (Key × V)} {A:Around} {E:Value→Shared→Prop}
end
section
variable {X:Cx} {pins:List (Addr × Obj)} {σ:St} {H:Hp} {s:Shared} {a:Addr} {y:V} {u:Value} {A:Around} {E:Value→Shared→Prop}
end
end L2
namespace L2
open PySem PySem.Spec PyProof.Rows
noncomputable def keyP:Key→PV
  | .inl i=>.int i
  | .inr x=>.str x
noncomputable def keyOf:PV→Option Key
  | .int i=>some (.inl i)
  | .str x=>some (.inr x)
  | _=>none
noncomputable def keysOf:List PV→Option (List Key)
  | []=>some []
  | x :: xs=>match keyOf x,keysOf xs with
    | some k,some ks=>some (k :: ks)
    | _,_=>none
theorem keyOf_eq {x:PV} {k:Key} (h:keyOf x=some k):x=keyP k:=by
  cases x <;> first | (cases h; rfl) | cases h
theorem keysOf_eq:∀ {xs:List PV} {ks:List Key},keysOf xs=some ks→xs=ks.map keyP
  | [],ks,h=>by cases h; rfl
  | x :: xs,ks,h=>by
    unfold keysOf at h
    split at h
    · rename_i k ks' h1 h2
      cases h
      rw [keyOf_eq h1,keysOf_eq h2]; rfl
    · cases h
section
variable {K:PySem.W.Frag} {H:Hp} {S:Addr→Prop}
theorem rep_key {k:Key} {v:V} (h:Rep K H S (keyP k) v):v=kV k:=by cases k <;> exact h
theorem reps_keys:∀ {ks:List Key} {vs:List V},Reps K H S (ks.map keyP) vs→vs=ks.map kV
  | [],_,h=>h
  | k :: ks,_,h=>by
    obtain ⟨v,r,rfl,h1,h2⟩:=h
    rw [rep_key h1,reps_keys h2]; rfl
theorem rep_keyP (k:Key):Rep K H S (keyP k) (kV k):=by cases k <;> rfl
end
section
variable {κ:Type} [DecidableEq κ] {α β:Type}
noncomputable def atK:List κ→List α→κ→Option α
  | k' :: ks,x :: xs,k=>if k'=k then some x else atK ks xs k
  | _,_,_=>none
noncomputable def setK:List κ→List α→κ→α→List α
  | k' :: ks,x :: xs,k,y=>(if k'=k then y else x) :: setK ks xs k y
  | _,_,_,_=>[]
noncomputable def memB (k:κ) (ks:List κ):Bool:=decide (k∈ks)
theorem memB_no {k:κ} {ks:List κ} (h:memB k ks=false):k ∉ ks:=of_decide_eq_false h
noncomputable def putKs (ks:List κ) (k:κ):List κ:=if k∈ks then ks else ks ++ [k]
noncomputable def putXs (ks:List κ) (xs:List α) (k:κ) (y:α):List α:=if k∈ks then setK ks xs k y else xs ++ [y]
theorem setK_len:∀ {ks:List κ} {xs:List α} {k:κ} {y:α},ks.length=xs.length→(setK ks xs k y).length=ks.length
  | [],[],_,_,_=>rfl
  | k' :: ks,x :: xs,k,y,h=>by simp [setK,setK_len (ks:=ks) (xs:=xs) (k:=k) (y:=y) (by simpa using h)]
  | [],_ :: _,_,_,h=>by simp at h
  | _ :: _,[],_,_,h=>by simp at h
theorem put_len {ks:List κ} {xs:List α} {k:κ} {y:α} (h:ks.length=xs.length):(putKs ks k).length=(putXs ks xs k y).length:=by
  unfold putKs putXs
  split
  · rw [setK_len h]
  · simp [h]
theorem valV_zip:∀ {ks:List κ} {vs:List V} {k:κ},ks.length=vs.length→valV (ks.zip vs) k=atK ks vs k
  | [],[],_,_=>rfl
  | k' :: ks,v :: vs,k,h=>by
    rw [List.zip_cons_cons]
    unfold atK
    by_cases e:k'=k
    · rw [valV_pos e,if_pos e]
    · rw [valV_neg e,if_neg e,valV_zip (by simpa using h)]
  | [],_ :: _,_,h=>by simp at h
  | _ :: _,[],_,h=>by simp at h
theorem any_zip:∀ {ks:List κ} {vs:List V} {k:κ},ks.length=vs.length→(((ks.zip vs).any fun kv=>decide (kv.1=k))=true ↔ k∈ks)
  | [],[],_,_=>by simp
  | k' :: ks,v :: vs,k,h=>by
    rw [List.zip_cons_cons,List.any_cons,Bool.or_eq_true,any_zip (by simpa using h),List.mem_cons,decide_eq_true_eq]
    exact ⟨fun z=>z.imp Eq.symm id,fun z=>z.imp Eq.symm id⟩
  | [],_ :: _,_,h=>by simp at h
  | _ :: _,[],_,h=>by simp at h
theorem set_zip:∀ {ks:List κ} {vs:List V} {k:κ} {y:V},ks.length=vs.length→((ks.zip vs).map fun kv=>if kv.1=k then (kv.1,y) else kv)=ks.zip (setK ks vs k y)
  | [],[],_,_,_=>rfl
  | k' :: ks,v :: vs,k,y,h=>by
    rw [List.zip_cons_cons,List.map_cons,set_zip (by simpa using h)]
    show _=(k' :: ks).zip ((if k'=k then y else v) :: setK ks vs k y)
    by_cases e:k'=k
    · rw [if_pos e,if_pos e]; rfl
    · rw [if_neg e,if_neg e]; rfl
  | [],_ :: _,_,_,h=>by simp at h
  | _ :: _,[],_,_,h=>by simp at h
theorem putK_zip {ks:List κ} {vs:List V} {k:κ} {y:V} (h:ks.length=vs.length):putK (ks.zip vs) k y=(putKs ks k).zip (putXs ks vs k y):=by
  unfold putK putKs putXs
  by_cases c:k∈ks
  · rw [if_pos ((any_zip h).mpr c),if_pos c,if_pos c,set_zip h]
  · rw [if_neg (fun z=>c ((any_zip h).mp z)),if_neg c,if_neg c,List.zip_append h]; rfl
end
section
variable {κ:Type} [DecidableEq κ] {K:PySem.W.Frag} {H:Hp} {S:Addr→Prop}
theorem reps_atK:∀ {ks:List κ} {xs:List PV} {vs:List V} {k:κ},Reps K H S xs vs→match atK ks xs k with
    | some y=>∃ v,atK ks vs k=some v∧Rep K H S y v
    | none=>atK ks vs k=none
  | [],xs,vs,k,h=>by simp [atK]
  | k' :: ks,[],vs,k,h=>by rw [h]; simp [atK]
  | k' :: ks,x :: xs,vs,k,h=>by
    obtain ⟨v,r,rfl,h1,h2⟩:=h
    unfold atK
    by_cases e:k'=k
    · rw [if_pos e,if_pos e]; exact ⟨v,rfl,h1⟩
    · rw [if_neg e,if_neg e]; exact reps_atK h2
theorem trees_setK:∀ {ks:List κ} {xs:List PV} {vs:List V} {G:List Addr} {k:κ} {y:PV} {w:V},ks.length=xs.length→Trees K H xs vs G→Tree K H y w []→∃ G',(∀ a∈G',a∈G)∧Trees K H (setK ks xs k y) (setK ks vs k w) G'
  | [],[],vs,G,k,y,w,_,h,_=>⟨[],by simp,by rw [h.1]; exact ⟨rfl,rfl⟩⟩
  | k' :: ks,x :: xs,vs,G,k,y,w,hl,h,hy=>by
    obtain ⟨v,r,G1,G2,rfl,h1,h2,h3,rfl⟩:=h
    obtain ⟨G',g1,g2⟩:=trees_setK (ks:=ks) (k:=k) (y:=y) (w:=w) (by simpa using hl) h2 hy
    unfold setK
    by_cases e:k'=k
    · rw [if_pos e,if_pos e]
      exact ⟨G',fun a ha=>List.mem_append_right _ (g1 a ha),w,_,[],G',rfl,hy,g2,by simp,rfl⟩
    · rw [if_neg e,if_neg e]
      refine ⟨G1 ++ G',fun a ha=>?_,v,_,G1,G',rfl,h1,g2,fun a ha z=>h3 a ha (g1 a z),rfl⟩
      rcases List.mem_append.mp ha with z | z
      · exact List.mem_append_left _ z
      · exact List.mem_append_right _ (g1 a z)
  | [],_ :: _,_,_,_,_,_,hl,_,_=>by simp at hl
  | _ :: _,[],_,_,_,_,_,hl,_,_=>by simp at hl
theorem Tree.flatG {x:PV} {v:V} {G:List Addr} (f:x.flat=true) (h:Tree K H x v G):Tree K H x v []:=Rep.tree f (h.rep (S:=fun _=>True) fun _ _=>trivial)
end
section
variable {K:PySem.W.Frag} {B:Addr→Prop} {EX:PX→Hp→Prop} {H0 H H':Hp} {σ:St} {Γ Γ' Γ1 Γ2 Γ3:List Md} {ρ:List PV} {F F':Nat→List Addr} {R:List Addr} {te ta tb tc:TE} {f fa fb fc:List PV→Rr PV} {k:Kd}
theorem Res.newBox {H1:Hp} {F1:Nat→List Addr} {s:Sh} {xs:List PV} {vs:List V} {u:HO} {p:Addr} {S:Addr→Prop} (s1:Same H H1) (f1:∀ i,∀ a∈F1 i,a∈F i) (hb:BoxO K s vs u) (p1:Reps K H1 S xs vs) (hx:PV.flats xs=true) (A1:Ag K B H0 H1 σ Γ' ρ F1 R) (hp:H1 p=none) :
    Res K B H0 H σ Γ' ρ F R .F (.box none s xs) (.ref p) (upd H1 p u):=by
  have e:Same H1 (upd H1 p u):=Same.new hp
  refine ⟨F1,f1,[p],⟨p,vs,u,[],rfl,upd_same,⟨trivial,hb⟩,(Reps.trees hx p1).same e,by simp,rfl⟩,fun a ha=>?_,A1.newB hb.lv hp⟩
  rw [List.mem_singleton.mp ha]
  exact ⟨(A1.fresh hp).1,.inl (s1.free hp)⟩
theorem de_dnewK:DE K EX Γ Γ .F tDNewK (fun _=>.ok (.box none (.dk []) [])):=fun B H0 H σ ρ F R Q A d p hp =>
  d _ _ (Same.new hp) (Res.newBox (S:=fun _=>True) (vs:=[]) (Same.refl _) (fun _ _ h=>h) ⟨rfl,rfl⟩ rfl rfl A hp)
noncomputable def dAt (x y:PV):Option (Option PV):=match x,y with
  | .box _ (.dk ks) xs,y=>(keyOf y).map fun k=>atK ks xs k
  | .box _ (.dt ks) xs,.tup ys=>(keysOf ys).map fun k=>atK ks xs k
  | _,_=>none
noncomputable def pDGet (x y:PV):Rr PV:=match dAt x y with
  | some (some z)=>.ok z
  | _=>.bad
theorem dAt_get {x y:PV} {v w:V} {o:Option PV} {S:Addr→Prop} (hx:Rep K H S x v) (hy:Rep K H (fun _=>True) y w) (e:dAt x y=some o) :
    ∃ a r,v=.ref a∧DGet H a w r∧r.isSome=o.isSome∧∀ z,o=some z→∃ u,r=some u∧Rep K H S z u:=by
  have fin:∀ {κ:Type} [DecidableEq κ] {ks:List κ} {xs:List PV} {vs:List V} {k:κ},Reps K H S xs vs→o=atK ks xs k→(atK ks vs k).isSome=o.isSome∧∀ z,o=some z→∃ u,atK ks vs k=some u∧Rep K H S z u:=fun {κ} _ {ks xs vs k} h e=>by
    have:=reps_atK (ks:=ks) (k:=k) h
    rw [← e] at this
    cases o with
    | none=>exact ⟨by rw [this]; rfl,fun z q=>by cases q⟩
    | some z =>
      obtain ⟨u,e1,e2⟩:=this
      exact ⟨by rw [e1]; rfl,fun z' q=>by cases q; exact ⟨u,e1,e2⟩⟩
  unfold dAt at e
  split at e
  · rename_i p ks xs
    obtain ⟨a,vs,u,rfl,hr,⟨_,hl,rfl⟩,hxs⟩:=hx
    cases ek:keyOf y with
    | none=>rw [ek] at e; cases e
    | some k =>
      rw [ek] at e
      cases e
      rw [keyOf_eq ek] at hy
      obtain ⟨g1,g2⟩:=fin (ks:=ks) (k:=k) hxs rfl
      exact ⟨a,atK ks vs k,rfl,.inl ⟨_,k,hr.1,rep_key hy,(valV_zip hl).symm⟩,g1,g2⟩
  · rename_i p ks xs ys
    obtain ⟨a,vs,u,rfl,hr,⟨_,hl,rfl⟩,hxs⟩:=hx
    cases ek:keysOf ys with
    | none=>rw [ek] at e; cases e
    | some k =>
      rw [ek] at e
      cases e
      rw [keysOf_eq ek] at hy
      obtain ⟨b,ws,rfl,hb,hws⟩:=hy
      rw [reps_keys hws] at hb
      obtain ⟨g1,g2⟩:=fin (ks:=ks) (k:=k) hxs rfl
      exact ⟨a,atK ks vs k,rfl,.inr ⟨_,k,b,hr.1,rfl,hb.1,(valV_zip hl).symm⟩,g1,g2⟩
  · cases e
theorem de_dget (ha:DE K EX Γ Γ1 .A ta fa) (hb:DE K EX Γ1 Γ2 .A tb fb):DE K EX Γ Γ2 .A (tDGet ta tb) (fun ρ=>(fa ρ).bind fun x=>(fb ρ).bind fun y=>pDGet x y):=fun B H0 H σ ρ F R Q A d=>by
  refine two ha hb A d.bind2 fun x y v w H' F' d s f px py A'=>?_
  unfold pDGet at d
  cases e:dAt x y with
  | none=>rw [e] at d; exact d.elim
  | some o =>
    rw [e] at d
    cases o with
    | none=>exact d.elim
    | some z =>
      obtain ⟨a,r,rfl,g1,_,g3⟩:=dAt_get px py e
      obtain ⟨u,rfl,hu⟩:=g3 z rfl
      exact ⟨a,u,rfl,g1,d _ _ s ⟨F',f,hu,A'⟩⟩
noncomputable def pDPut (x y z:PV):Rr PV:=match x,y with
  | .box p (.dk ks) xs,y=>match keyOf y with
    | some k=>if xs.length < 1000000∧(memB k ks=false ∨ z.flat=true) then .ok (.box p (.dk (putKs ks k)) (putXs ks xs k z)) else .bad
    | none=>.bad
  | .box p (.dt ks) xs,.tup ys=>match keysOf ys with
    | some k=>if xs.length < 1000000∧(memB k ks=false ∨ z.flat=true) then .ok (.box p (.dt (putKs ks k)) (putXs ks xs k z)) else .bad
    | none=>.bad
  | _,_=>.bad
theorem trees_put {κ:Type} [DecidableEq κ] {ks:List κ} {xs:List PV} {vs:List V} {k:κ} {y:PV} {w:V} {G G2:List Addr} (hl:ks.length=xs.length) (h:Trees K H xs vs G) (hy:Tree K H y w G2) (hd:∀ a∈G,a ∉ G2) (hk:k∈ks→y.flat=true) :
    ∃ G',(∀ a∈G',a∈G ∨ a∈G2)∧Trees K H (putXs ks xs k y) (putXs ks vs k w) G':=by
  unfold putXs
  by_cases c:k∈ks
  · rw [if_pos c,if_pos c]
    obtain ⟨G',g1,g2⟩:=trees_setK (k:=k) hl h (hy.flatG (hk c))
    exact ⟨G',fun a ha=>.inl (g1 a ha),g2⟩
  · rw [if_neg c,if_neg c]
    exact ⟨G ++ G2,fun a ha=>List.mem_append.mp ha,Trees.append h (Trees.one hy) hd⟩
theorem ds_dputO {i:Nat} {tv:TE} {fv:List PV→Rr PV} (hm:Γ1[i]?=some .O) (hv:DE K EX Γ Γ1 .F tv fv) (hk:DE K EX Γ1 Γ1 .A tb fb) :
    DS K EX Γ ⟨Γ1,Γ2,Γ3,k⟩ (sDPut (tVar i) tb tv) (fun ρ=>(fv ρ).thenS fun z=>(fb ρ).thenS fun y=>(pDPut (gv i ρ) y z).thenS fun x=>.next (ρ.set i x)):=fun B H0 H σ ρ F D A d=>by
  refine hv B H0 H σ ρ F [] _ A (d.thenS.imp (fun z _ d w H1 s1 r1=>?_) fun e q=>q)
  obtain ⟨F1,f1,G2,t1,o1,A1⟩:=r1
  obtain ⟨v,h1,h2⟩:=A1.getO hm
  refine ⟨v,h1,hk B H0 H1 σ ρ F1 (G2 ++ []) _ A1 (d.thenS.imp (fun y _ d yv H2 s2 r2=>?_) fun e q=>q)⟩
  obtain ⟨F2,f2,p2,A2⟩:=r2
  obtain ⟨v',h1',h2'⟩:=A2.getO hm
  rw [h1] at h1'; cases h1'
  have d:=d.thenS
  have t2:=t1.same s2
  have core:∀ {p:Option Addr} {s s':Sh} {xs xs':List PV} {a:Addr} {vs vs':List V} {u u':HO} {G G':List Addr},ρ.getD i .non=.box p s xs→H2 a=some u→PinO p a→Trees K H2 xs vs G→a ∉ G→F2 i=a :: G→BoxO K s' vs' u'→Trees K H2 xs' vs' G'→(∀ b∈G',b∈G ∨ b∈G2) →
      σ[i]?=some (some (.ref a))→DnS K B EX ⟨Γ1,Γ2,Γ3,k⟩ H0 H F D (.next (ρ.set i (.box p s' xs')))→D.nx σ (upd H2 a u'):=fun {p s s' xs xs' a vs vs' u u' G G'} er hH hpn ht hn hF hb ht' hsub hσ d=>by
    have haF:a∈F2 i:=by rw [hF]; simp
    have na2:a ∉ G2:=fun z=>A2.disjR i a haF (List.mem_append_left _ z)
    have hna:a ∉ G':=fun z=>(hsub a z).elim hn na2
    have hsub2:∀ b∈a :: G',b∈F2 i ∨ b∈G2:=fun b hb=>by
      rcases List.mem_cons.mp hb with rfl | hb
      · exact .inl haF
      · rcases hsub b hb with z | z
        · exact .inl (by rw [hF]; simp [z])
        · exact .inr z
    obtain ⟨lv,hlv⟩:=A2.live i a haF
    refine d σ _ (own1 F2 i (a :: G')) (frm_chg (s1.trans s2) (fun j b hb=>f1 j b (f2 j b hb)) haF fun b hb=>?_) (Ag.chgB hb.lv (G:=G2) (R:=[]) A2 hm haF hsub2 (by simp) ?_)
    · rcases hsub2 b hb with z | z
      · exact .inr ⟨i,f1 i b (f2 i b z)⟩
      · exact (o1 b z).2
    · exact ⟨_,hσ,a,vs',u',G',rfl,upd_same,⟨hpn,hb⟩,Trees.putL hlv hna ht',hna,rfl⟩
  unfold pDPut at d
  split at d
  · rename_i p ks xs er _ _
    rw [show ρ.getD i .non=.box p (.dk ks) xs from er] at h2'
    obtain ⟨a,vs,u,G,rfl,hH,⟨hpn,hl,rfl⟩,ht,hn,hF⟩:=h2'
    split at d
    · rename_i kk ek
      split at d
      · rename_i hc
        rw [keyOf_eq ek] at p2
        have hl':ks.length=xs.length:=by rw [hl,ht.length]
        have dj:∀ b∈G,b ∉ G2:=fun b hb z=>A2.disjR i b (by rw [hF]; simp [hb]) (List.mem_append_left _ z)
        obtain ⟨G',g1,g2⟩:=trees_put (k:=kk) hl' ht t2 dj (fun c=>hc.2.resolve_left (fun z=>memB_no z c))
        refine ⟨a,_,rfl,.inl ⟨_,kk,hH,rep_key p2, ?_,rfl⟩,core er hH hpn ht hn hF (s':=.dk (putKs ks kk)) (vs':=putXs ks vs kk w) ⟨put_len hl, ?_⟩ g2 g1 h1 d⟩
        · rw [List.length_zip,hl,Nat.min_self,ht.length]; exact Nat.lt_of_lt_of_le hc.1 (by decide)
        · rw [putK_zip hl]
      · exact d.elim
    · exact d.elim
  · rename_i p ks xs ys er _ _
    rw [show ρ.getD i .non=.box p (.dt ks) xs from er] at h2'
    obtain ⟨a,vs,u,G,rfl,hH,⟨hpn,hl,rfl⟩,ht,hn,hF⟩:=h2'
    split at d
    · rename_i kk ek
      split at d
      · rename_i hc
        rw [keysOf_eq ek] at p2
        obtain ⟨b,ws,rfl,hb,hws⟩:=p2
        rw [reps_keys hws] at hb
        have hl':ks.length=xs.length:=by rw [hl,ht.length]
        have dj:∀ b∈G,b ∉ G2:=fun b hb z=>A2.disjR i b (by rw [hF]; simp [hb]) (List.mem_append_left _ z)
        obtain ⟨G',g1,g2⟩:=trees_put (k:=kk) hl' ht t2 dj (fun c=>hc.2.resolve_left (fun z=>memB_no z c))
        refine ⟨a,_,rfl,.inr ⟨_,kk,b,hH,rfl,hb.1, ?_,rfl⟩,core er hH hpn ht hn hF (s':=.dt (putKs ks kk)) (vs':=putXs ks vs kk w) ⟨put_len hl, ?_⟩ g2 g1 h1 d⟩
        · rw [List.length_zip,hl,Nat.min_self,ht.length]; exact Nat.lt_of_lt_of_le hc.1 (by decide)
        · rw [putK_zip hl]
      · exact d.elim
    · exact d.elim
  · exact d.elim
end
end L2
namespace L2
open PySem PySem.Spec PyProof.Rows
section
variable {K:PySem.W.Frag} {B:Addr→Prop} {EX:PX→Hp→Prop} {H0 H H':Hp} {σ:St} {Γ Γ' Γ1 Γ2 Γ3:List Md} {ρ:List PV} {F F':Nat→List Addr} {R:List Addr} {te ta tb tc:TE} {f fa fb fc:List PV→Rr PV} {k:Kd}
end
end L2
namespace L2
open PySem PySem.Spec PyProof.Rows
section
variable {X:Cx} {K:PySem.W.Frag}
end
section
variable {K:PySem.W.Frag} {B:Addr→Prop} {EX:PX→Hp→Prop} {H0 H H':Hp} {σ:St} {Γ Γ' Γ1 Γ2 Γ3:List Md} {ρ:List PV} {F F':Nat→List Addr} {R:List Addr} {te tb tc:TE} {ta:TA} {f fb fc:List PV→Rr PV} {fa:List PV→Rr (List PV)} {k:Kd}
end
end L2
namespace L2
open PySem PySem.Spec PyProof.Rows
noncomputable def ins {α:Type}:Nat→α→List α→List α
  | 0,v,us=>v :: us
  | _ + 1,v,[]=>[v]
  | j + 1,v,u :: us=>u :: ins j v us
section
variable {K:PySem.W.Frag} {H H':Hp} {B:Addr→Prop}
end
section
variable {K:PySem.W.Frag} {B:Addr→Prop} {EX:PX→Hp→Prop} {H0 H H':Hp} {σ:St} {Γ Γ' Γ1 Γ2 Γ3:List Md} {ρ:List PV} {F F':Nat→List Addr} {R:List Addr}
end
section
variable {P:Program} {w:World} {K:PySem.W.Frag} {mg:Str→Option Value} {base:Heap}
end
end L2
namespace L2
open PySem PySem.Spec PyProof.Rows
theorem bind_ok {α β:Type} {r:Rr α} {g:α→Rr β} {y:β} (h:r.bind g=.ok y):∃ x,r=.ok x∧g x=.ok y:=by
  cases r with
  | ok x=>exact ⟨x,rfl,h⟩
  | exc e=>cases h
  | bad=>cases h
section
variable {K:PySem.W.Frag} {B:Addr→Prop} {EX:PX→Hp→Prop} {H0 H H':Hp} {σ:St} {Γ Γ' Γ1 Γ2 Γ3:List Md} {ρ:List PV} {F F':Nat→List Addr} {R:List Addr} {te tb:TE} {ta:TA} {f fb:List PV→Rr PV} {fa:List PV→Rr (List PV)} {i j n:Nat} {m:PV→List PV→Rr PV}
variable {fm:List PV→Rr (PV × PV)} {k:Kd} {l:Nat}
end
theorem hu1 {n c:Nat} (h:n + 64 < c):n + 1 < c:=by omega
end L2
namespace L2
open PySem PySem.Spec PyProof.Rows
section
variable {X:Cx} {pins:List (Addr × Obj)} {σ:St} {H:Hp} {s:Shared}
theorem Inv.swapO {a:Addr} {u u':HO} (I:Inv X pins σ H s) (ha:H a=some u) (n1:∀ b,u≠.own b) (n2:∀ xs,u≠.tup xs) (m1:∀ xs,X.H₀ a≠some (.tup xs)) (m2:∀ o v,X.H₀ a≠some (.frz o v)) (m3:∀ ps,X.H₀ a≠some (.tbl ps))
    (h0:∀ o,X.s₀.heap.get? a=some o→X.H₀ a=none→a∈X.ex) (ok:ObjOk X.prog X.w (upd H a u') s.heap a u'):Inv X pins σ (upd H a u') s:=by
  have nn:∀ {b},H b=none→b≠a:=fun {b} e z=>by rw [z,ha] at e; cases e
  refine ⟨I.ok,I.os,I.bare,⟨I.base.keep,I.base.slot,fun b o q n hx=>?_,I.base.there,fun b xs q=>?_,fun b o v q=>?_,fun b ps q=>?_⟩,I.loc,I.cell, ?_,fun x c q=>?_,fun p hq=>?_,fun b v q=>?_,I.len⟩
  · have e:=I.base.free b o q n hx
    rw [upd_ne (nn e)]; exact e
  · rw [upd_ne (fun z=>m1 xs (by rw [← z]; exact q))]; exact I.base.tups b xs q
  · rw [upd_ne (fun z=>m2 o v (by rw [← z]; exact q))]; exact I.base.frzs b o v q
  · obtain ⟨m,e⟩:=I.base.tbls b ps q
    exact ⟨m,by rw [upd_ne (fun z=>m3 ps (by rw [← z]; exact q))]; exact e⟩
  · rw [upd_ne (nn I.free)]; exact I.free
  · rw [upd_ne (nn (I.freeC x c q))]; exact I.freeC x c q
  · obtain ⟨a1,b1,c1⟩:=I.pin p hq
    exact ⟨a1,by rw [upd_ne (nn b1)]; exact b1,c1⟩
  · by_cases hb:b=a
    · subst hb
      rw [upd_same] at q; cases q
      exact ok
    · rw [upd_ne hb] at q
      refine (I.hok b v q).stay (fun c w' _ z=>z) (fun c z=>?_) fun c xs z=>?_
      · rw [upd_ne (fun y=>by rw [y,ha] at z; cases z; exact n1 _ rfl)]; exact z
      · rw [upd_ne (fun y=>by rw [y,ha] at z; cases z; exact n2 _ rfl)]; exact z
end
noncomputable def ItDk (a:Addr) (o:Obj) (kvs:List (Key × V)):It :=
  ⟨fun i H=>H a=some (.frz o (.dK kvs))∧i < kvs.length,fun i H x H'=>H'=H∧∃ k v,kvs[i]?=some (k,v)∧x=kV k,fun i H=>H a=some (.frz o (.dK kvs))∧kvs.length≤i⟩
theorem kv_get:∀ {kvs:List (Key × V)} {vs:List (Key × Value)},KV kvs vs→∀ {i:Nat} {k:Key} {v:V},kvs[i]?=some (k,v)→∃ u,vs[i]?=some (k,u)
  | _,_,.nil,i,k,v,h=>by simp at h
  | _,_,.cons (a:=p) (b:=q) r rr,i,k,v,h=>by
    cases i with
    | zero =>
      simp only [List.getElem?_cons_zero,Option.some.injEq] at h
      subst h
      obtain ⟨e,_⟩:=r
      exact ⟨q.2,by simp only [List.getElem?_cons_zero]; rw [show k=q.1 from e]⟩
    | succ i =>
      simp only [List.getElem?_cons_succ] at h ⊢
      exact kv_get rr h
theorem kv_len:∀ {kvs:List (Key × V)} {vs:List (Key × Value)},KV kvs vs→kvs.length=vs.length
  | _,_,.nil=>rfl
  | _,_,.cons r rr=>by simp [kv_len rr]
theorem rel_key {k:Key} {v:Value} (h:keyIs k v=true):RelV (kV k) v:=by
  rcases keyIs_shape h with ⟨i,t,rfl,rfl⟩ | ⟨x,t,rfl,rfl⟩
  · exact ⟨t,rfl⟩
  · exact ⟨t,rfl⟩
theorem dictAt_of {P:Program} {w:World} {h:Heap} {a:Addr} {vs:List (Key × Value)} {o:Obj} {es:Array DictEntry} {ep:Nat} (m:h.DictOf (mixKind P w) a vs) (ho:h.get? a=some o) (hd:o.data=.dict es ep):h.DictAt (mixKind P w) a vs ep:=by
  obtain ⟨o',es',ep',e1,e2,e3,r⟩:=m
  rw [ho] at e1; cases e1
  rw [hd] at e3; cases e3
  exact ⟨o,es,ho,e2,hd,r⟩
theorem turn_dict {P:Program} {w:World} {K:PySem.W.Frag} {tg:Expr} (a it:Addr) (o:Obj) (kvs:List (Key × V)) {es:Array DictEntry} {ep:Nat} (hd:o.data=.dict es ep):Turn P w K tg (ItDk a o kvs) [it] it (fun i h=>h.IsKeyIter it a i kvs.length ep) where
  mem:=by simp
  obj:=fun i h st b hb=>by
    have e:b=it:=by simpa using hb
    subst e
    obtain ⟨o,e,c,d⟩:=st
    exact ⟨o,e,fun v z=>by rw [d] at z; cases z⟩
  keep:=fun i h h' st k=>st.at fun o e=>k it (by simp) o e
  item:=by
    intro X hP hw hK hc i pins s σ H E I hf st hg
    subst hP hw hK
    obtain ⟨hH,hi⟩:=hg
    obtain ⟨ho,hz,hs,vs,rv,m⟩:=I.hok a _ hH
    obtain ⟨f0,f1,f2,f3,f4,f5⟩:=hf it (by simp)
    obtain ⟨u,hu⟩:=kv_get rv (i:=i) (k:=kvs[i].1) (v:=kvs[i].2) (List.getElem?_eq_getElem hi)
    rw [kv_len rv] at st
    refine wpAny_pyNext_dict_item st (dictAt_of m ho hd) hu fun key h' hk st' sb=>?_
    have I1:Inv X pins σ H { s with heap:=h' }:=I.turned (t':=s.toks) (fun b o hb e=>(sb.2 b hb).trans e) f0 f1 f3 f4 f5
    obtain ⟨o2,e2,c2,d2⟩:=id st'
    rw [← kv_len rv] at st'
    exact ⟨key,rfl,go_of (s:={ s with heap:=h' }) e2 c2 d2 (by decide) ⟨kV kvs[i].1,H,I1,rel_key hk,⟨rfl,_,_,List.getElem?_eq_getElem hi,rfl⟩,st',fun b hb=>(hf b hb).1⟩⟩
  done:=by
    intro X hP hw hK hc i pins s σ H E I hf st hg
    subst hP hw hK
    obtain ⟨hH,hi⟩:=hg
    obtain ⟨ho,hz,hs,vs,rv,m⟩:=I.hok a _ hH
    obtain ⟨f0,f1,f2,f3,f4,f5⟩:=hf it (by simp)
    rw [kv_len rv] at st
    exact wpAny_pyNext_dict_end (I.ok.hd hc) st (dictAt_of m ho hd) (List.getElem?_eq_none (by rw [← kv_len rv]; exact hi)) fun h' eb=>⟨rfl,I.turned (t':=s.toks) (fun b o hb e=>eb b o hb e) f0 f1 f3 f4 f5⟩
  self:=fun _ _ _ _ _ st h=>wpAny_pyIter_keyiter st h
noncomputable def iDict (tl:TE):TI:=fun σ H R=>tl σ H fun x H1=>∃ a o kvs,x=.ref a∧H1 a=some (.frz o (.dK kvs))∧R (ItDk a o kvs) H1
section
variable {X:Cx} {tg:Expr}
theorem pi_dict {l:Expr} {tl:TE} (hl:PE X l tl):PI X tg l (iDict tl):=by
  intro pins s σ H R I h
  refine thn (hl pins s σ H _ I h) fun v s1 ⟨x,H1,I1,r1,a,o,kvs,e,hH,q⟩=>?_
  subst e
  cases r1
  obtain ⟨ho,hz,hs,vs,rv,m⟩:=I1.hok a _ hH
  obtain ⟨o',es,ep,e1,e2,e3,_⟩:=id m
  rw [ho] at e1; cases e1
  refine wpAny_pyIter_dict hs (dictAt_of m ho e3) ?_
  refine ⟨s1.heap.objs.size,[s1.heap.objs.size],_,_,H1,rfl,I1.kept (t':=s1.toks) fun b o e=>Heap.get?_push_of_some _ e,turn_dict a _ o kvs e3,⟨_,Heap.get?_push_size _ rfl,rfl,by rw [kv_len rv]; rfl⟩,fun b hb=>?_,q⟩
  have e:b=s1.heap.objs.size:=by simpa using hb
  subst e
  exact I1.fpOk (Nat.le_refl _) (I1.hok.fresh (Nat.le_refl _))
noncomputable def tFrz (i:Nat) (te:TE):TE:=fun σ H Q=>∃ a kvs,σ[i]?=some (some (.ref a))∧H a=some (.dK kvs)∧∀ o,te σ (upd H a (.frz o (.dK kvs))) fun v H2=>H2 a=some (.frz o (.dK kvs))∧Q v (upd H2 a (.dK kvs))
theorem pe_frz {i:Nat} {e:Expr} {te:TE} (he:PE X e te):PE X e (tFrz i te):=by
  intro pins s σ H Q I ⟨a,kvs,hσ,ha,h⟩
  have ok0:ObjOk X.prog X.w H s.heap a (.dK kvs):=I.hok a _ ha
  obtain ⟨o,ho⟩:=ok0.there
  have m1:∀ xs,X.H₀ a≠some (.tup xs):=fun xs z=>by have:=I.base.tups a xs z; rw [ha] at this; cases this
  have m2:∀ o v,X.H₀ a≠some (.frz o v):=fun o v z=>by have:=I.base.frzs a o v z; rw [ha] at this; cases this
  have m3:∀ ps,X.H₀ a≠some (.tbl ps):=fun ps z=>by obtain ⟨m,this⟩:=I.base.tbls a ps z; rw [ha] at this; cases this
  have h0:∀ o,X.s₀.heap.get? a=some o→X.H₀ a=none→a∈X.ex:=fun o q n=>by
    by_cases hx:a∈X.ex
    · exact hx
    · have:=I.base.free a o q n hx; rw [ha] at this; cases this
  have I1:=I.swapO (u':=.frz o (.dK kvs)) ha (fun _ z=>by cases z) (fun _ z=>by cases z) m1 m2 m3 h0 ⟨ho,ok0⟩
  refine thn (he pins s σ _ _ I1 (h o)) fun v s1 ⟨x,H2,I2,r,hH,q⟩=>⟨x,_, ?_,r,q⟩
  have ok2:=(I2.hok a _ hH).2
  exact I2.swapO hH (fun _ z=>by cases z) (fun _ z=>by cases z) m1 m2 m3 h0 ok2
end
noncomputable def asDk (x:PV):Rr (List PV):=match x with
  | .box _ (.dk ks) xs=>if ks.length=xs.length then .ok (ks.map keyP) else .bad
  | _=>.bad
noncomputable def intOnly (x:PV):Rr PV:=match x with
  | .int j=>.ok (.int j)
  | _=>.bad
noncomputable def wiF (i:Nat) (a:Addr) (o:Obj) (kvs:List (Key × V)):TI:=fun σ H R=>σ[i]?=some (some (.ref a))→H a=some (.frz o (.dK kvs))→R (ItDk a o kvs) H
section
variable {K:PySem.W.Frag} {EX:PX→Hp→Prop} {Γ:List Md}
theorem di_wiF {i:Nat} {a:Addr} {o:Obj} {kvs:List (Key × V)} (hm:Γ[i]?=some .S):DIc K EX Γ Γ (wiF i a o kvs) (fun ρ=>asDk (gv i ρ)):=fun B H0 H σ ρ F R Q A d hσ hH=>by
  have sl:=A.slot i
  rw [List.getD_eq_getElem?_getD,hm] at sl
  obtain ⟨_,v,hv,rp⟩:=(show F i=[]∧∃ v,σ[i]?=some (some v)∧Rep K H (NO B F R) (ρ.getD i .non) v from sl)
  rw [hσ] at hv; cases hv
  have d:Dn (asDk (ρ.getD i .non)) _ _:=d
  unfold asDk at d
  split at d
  · rename_i p ks xs hx
    rw [hx] at rp
    split at d
    · rename_i hl
      obtain ⟨a',vs,u,ea,⟨rd,_⟩,⟨_,hz,hu⟩,rr⟩:=rp
      cases ea
      subst hu
      have ek:kvs=ks.zip vs:=by
        rcases rd with z | ⟨o',z⟩
        · rw [hH] at z; cases z
        · rw [hH] at z; cases z; rfl
      subst ek
      refine d _ H F (Same.refl _) (fun _ _ h=>h) A fun H2 F2 s2 f2=>?_
      have hH2:=s2 _ _ hH
      have hln:(ks.zip vs).length=ks.length:=by rw [List.length_zip,hz,Nat.min_self]
      intro j
      refine ⟨fun x hx=>?_,fun hx=>⟨hH2, ?_⟩⟩
      · rw [List.getElem?_map] at hx
        obtain ⟨k,hk,rfl⟩:=Option.map_eq_some_iff.mp hx
        have hj:=(List.getElem?_eq_some_iff.mp hk).1
        refine ⟨⟨hH2,by omega⟩,fun v H' ⟨e1,k',v',e2,e3⟩=>?_⟩
        subst e1 e3
        refine ⟨Same.refl _, ?_⟩
        have e4:k'=k:=by
          rw [List.getElem?_zip_eq_some] at e2
          rw [hk] at e2
          exact (Option.some.inj e2.1).symm
        subst e4
        exact rep_keyP k'
      · rw [List.getElem?_map,Option.map_eq_none_iff,List.getElem?_eq_none_iff] at hx
        omega
    · exact d.elim
  · exact d.elim
theorem de_frz {i:Nat} {te:TE} {te':Addr→Obj→List (Key × V)→TE} {f:List PV→Rr PV} (hm:Γ[i]?=some .O) (hno:noOwn (Γ.set i .S)=true) (he:∀ a o kvs,DE K EX (Γ.set i .S) (Γ.set i .S) .P (te' a o kvs) f)
    (hmono:∀ a o kvs (σ:St) (H:Hp) (Q:VK),σ[i]?=some (some (.ref a))→H a=some (.frz o (.dK kvs))→te' a o kvs σ H Q→te σ H Q) :
    DE K EX Γ Γ .P (tFrz i te) (fun ρ=>(asDk (gv i ρ)).bind fun _=>(f ρ).bind intOnly):=fun B H0 H σ ρ F R Q A d=>by
  obtain ⟨v,hσ,tr⟩:=A.getO hm
  have d1:=d.bind
  have d1:Dn (asDk (ρ.getD i .non)) _ _:=d1
  unfold asDk at d1
  split at d1
  · rename_i p ks xs hx
    split at d1
    · rename_i hl
      have tr0:=tr
      rw [hx] at tr
      obtain ⟨a,vs,u,G,rfl,hH,⟨hp,hz,rfl⟩,ht,hn,hF⟩:=tr
      refine ⟨a,_,hσ,hH,fun o=>hmono a o _ σ _ _ hσ upd_same ?_⟩
      have haF:a∈F i:=by rw [hF]; simp
      have hi:i < Γ.length:=(List.getElem?_eq_some_iff.mp hm).1
      have gen:∀ j,(Γ.set i .S).getD j .U=if j=i then .S else Γ.getD j .U:=fun j=>by
        by_cases hj:j=i
        · subst hj; rw [if_pos rfl,List.getD_eq_getElem?_getD,List.getElem?_set_self hi]; rfl
        · rw [if_neg hj,List.getD_eq_getElem?_getD,List.getElem?_set_ne (Ne.symm hj),← List.getD_eq_getElem?_getD]
      have hFj:∀ j,j≠i→F j=[]:=fun j hj=>by
        have sl:=A.slot j
        by_cases hjl:j < Γ.length
        · have hmm:=List.all_eq_true.mp hno ((Γ.set i .S)[j]'(by simpa using hjl)) (List.getElem_mem _)
          rw [List.getElem_set_ne (Ne.symm hj)] at hmm
          have e2:Γ.getD j .U=Γ[j]:=by rw [List.getD_eq_getElem?_getD,List.getElem?_eq_getElem hjl]; rfl
          rw [e2] at sl
          simp only [Bool.or_eq_true,beq_iff_eq] at hmm
          rcases hmm with (z | z) | z
          · rw [z] at sl; exact sl
          · rw [z] at sl; exact sl.1
          · rw [z] at sl; exact sl.1
        · have e2:Γ.getD j .U=.U:=by rw [List.getD_eq_getElem?_getD,List.getElem?_eq_none (by omega)]; rfl
          rw [e2] at sl; exact sl
      have ha0:H0 a=none:=A.young i a haF
      have hRa:a ∉ R:=A.disjR i a haF
      have s0:Same H0 (upd H a (.frz o (.dK (ks.zip vs)))):=fun b w' hb=>by
        rw [upd_ne (fun z=>by rw [z,ha0] at hb; cases hb)]; exact A.same b w' hb
      have imne:∀ b u,Im K H b u→Im K (upd H a (.frz o (.dK (ks.zip vs)))) b u:=fun b u ⟨h1,h2⟩=>by
        have nb:b≠a:=fun z=>by rw [z,hH] at h1; cases h1; exact h2
        exact ⟨by rw [upd_ne nb]; exact h1,h2⟩
      have gne:∀ b∈G,b∈F i:=fun b hb=>by rw [hF]; simp [hb]
      have rp0:Rep K H (fun b=>b∈F i) (ρ.getD i .non) (.ref a):=tr0.rep fun b hb=>hb
      have A2:Ag K B H0 (upd H a (.frz o (.dK (ks.zip vs)))) σ (Γ.set i .S) ρ (fun _=>[]) R:=by
        refine ⟨s0,A.own,fun j b hb=>by simp at hb,A.youngR,fun j b hb=>by simp at hb,fun b hb=>?_,fun j k _ b hb=>by simp at hb,fun j b hb=>by simp at hb,by simpa using A.lenS,by simpa using A.lenR,fun j=>?_⟩
        · obtain ⟨w',z⟩:=A.liveR b hb
          exact ⟨w',by rw [upd_ne (fun y=>hRa (by rw [← y]; exact hb))]; exact z⟩
        · rw [gen j]
          by_cases hj:j=i
          · subst hj
            rw [if_pos rfl]
            refine ⟨rfl,_,hσ,Rep.mono (fun b w' hb r=>?_) imne rp0⟩
            have bR:b ∉ R:=A.disjR j b hb
            refine ⟨?_,A.own b (A.young j b hb),bR,fun k z=>by simp at z⟩
            by_cases hb2:b=a
            · subst hb2
              rcases r with z | ⟨o',z⟩
              · rw [hH] at z; cases z
                exact .inr ⟨o,upd_same⟩
              · rw [hH] at z; cases z
            · rcases r with z | ⟨o',z⟩
              · exact .inl (by rw [upd_ne hb2]; exact z)
              · exact .inr ⟨o',by rw [upd_ne hb2]; exact z⟩
          · rw [if_neg hj]
            have sl:=A.slot j
            rw [hFj j hj] at sl
            refine sl.mono (fun b w' hb r=>?_) imne (fun b hb=>by simp at hb)
            have nb:b≠a:=fun z=>hb.2.2 i (by rw [z]; exact haF)
            refine ⟨?_,hb.1,hb.2.1,fun k z=>by simp at z⟩
            rcases r with z | ⟨o',z⟩
            · exact .inl (by rw [upd_ne nb]; exact z)
            · exact .inr ⟨o',by rw [upd_ne nb]; exact z⟩
      refine he a o _ B H0 _ σ ρ _ R _ A2 (d1.bind.imp (fun x _ dx y H2 s2 r2=>?_) fun e q=>q)
      have hH2:=s2 _ _ (upd_same (H:=H) (a:=a))
      refine ⟨hH2, ?_⟩
      obtain ⟨F1,f1,p1,p2,A1⟩:=r2
      have s3:Same H (upd H2 a (.dK (ks.zip vs))):=fun b w' hb=>by
        by_cases hb2:b=a
        · subst hb2; rw [hH] at hb; cases hb; exact upd_same
        · rw [upd_ne hb2]; exact s2 b w' (by rw [upd_ne hb2]; exact hb)
      unfold intOnly at dx
      split at dx
      · rename_i j
        exact dx _ _ s3 ⟨F,fun _ _ h=>h,rfl,p2,A.grow s3⟩
      · exact dx.elim
    · exact d1.elim
  · exact d1.elim
end
end L2
namespace My
open PySem L2
end My
namespace My
open PySem L2
end My
namespace My
open L2
noncomputable def turnB (ns:List Int) (k:Int):List Int:=tab ns.length fun x=>ns.getD (((x:Int) - k) % ns.length).toNat 0
noncomputable def turnK (a:List Int × Int) (s:Nat):Int:=((its sowS s a).2 - a.2) % a.1.length
noncomputable def isT (a:List Int × Int) (s:Nat):Prop:=(its sowS s a).1=turnB a.1 (turnK a s)
noncomputable instance (a:List Int × Int) (s:Nat):Decidable (isT a s):=by unfold isT; infer_instance
end My
namespace My
open L2
end My
namespace My
open PySem L2
noncomputable def Wide (ns:List Int):Prop:=∀ x∈ns,0≤x∧x≤10 ^ 60
end My
namespace L2
end L2
namespace My
open L2
end My
namespace My
open L2
end My
namespace L2
open PySem
theorem min_ex:∀ (ts:List (List Int)),ts≠[]→∃ t,IsMinL ts t
  | [],h=>absurd rfl h
  | [t],_=>⟨t,by simp,fun u hu=>by rw [List.mem_singleton.mp hu]; exact HL.lexLt_irrefl t⟩
  | t :: u :: ts,_=>by
    obtain ⟨m,h1,h2⟩:=min_ex (u :: ts) (by simp)
    cases e:HT.lexLt t m with
    | true =>
      refine ⟨t,by simp,fun v hv=>?_⟩
      rcases List.mem_cons.mp hv with rfl | hv
      · exact HL.lexLt_irrefl _
      · cases e2:HT.lexLt v t with
        | false=>rfl
        | true =>
          have:=HL.lexLt_trans e2 e
          rw [h2 v hv] at this; cases this
    | false =>
      refine ⟨m,List.mem_cons_of_mem _ h1,fun v hv=>?_⟩
      rcases List.mem_cons.mp hv with rfl | hv
      · exact e
      · exact h2 v hv
noncomputable def leastB (m:List Int) (n:Nat):Bool:=(List.range n).all fun k=>!(HT.lexLt (rotL m k) m)
noncomputable def rotsL (m:List Int) (n:Nat):List (List Int):=(List.range n).map fun k=>rotL m k
theorem least_min {m:List Int} {n:Nat} (hn:0 < n):∃ t,IsMinL (rotsL m n) t∧decide (t=m)=leastB m n:=by
  obtain ⟨t,ht⟩:=min_ex (rotsL m n) (by unfold rotsL; intro z; have:=congrArg List.length z; simp at this; omega)
  refine ⟨t,ht, ?_⟩
  have hm:m∈rotsL m n:=List.mem_map.mpr ⟨0,List.mem_range.mpr hn,by simp [rotL]⟩
  cases e:leastB m n with
  | true =>
    refine decide_eq_true (ht.uniq ⟨hm,fun u hu=>?_⟩)
    obtain ⟨k,hk,rfl⟩:=List.mem_map.mp hu
    have:=List.all_eq_true.mp e k hk
    simpa using this
  | false =>
    refine decide_eq_false fun z=>?_
    rw [z] at ht
    have:leastB m n=true:=List.all_eq_true.mpr fun k hk=>by
      rw [ht.2 _ (List.mem_map.mpr ⟨k,hk,rfl⟩)]; rfl
    rw [e] at this; cases this
end L2
namespace My
open PySem L2
seal PE PT PA PS PSs DE DT DAA DAF DS
noncomputable def top (i:Nat):Stmt:=PySem.Challenge.pw_sowring_k10_rings_counted.main.body.getD i (.Pass ⟨0,0,0,0⟩)
noncomputable abbrev s_is_whole:Stmt:=top 8
theorem sc_is_whole:FnScope ["value"] ["value"] (defScope s_is_whole):=⟨rfl,rfl,rfl,by decide +kernel,rfl,by decide +kernel,by decide +kernel⟩
theorem bd_is_whole:BindFact "is_whole" s_is_whole ["value"]:=fun _ _ _ _ _ _ us hl=>by obtain ⟨_,rfl⟩:=us1 hl; rfl
noncomputable abbrev s_is_whole_from:Stmt:=top 9
theorem sc_is_whole_from:FnScope ["value", "least"] ["value", "least"] (defScope s_is_whole_from):=⟨rfl,rfl,rfl,by decide +kernel,rfl,by decide +kernel,by decide +kernel⟩
theorem bd_is_whole_from:BindFact "is_whole_from" s_is_whole_from ["value", "least"]:=fun _ _ _ _ _ _ us hl=>by obtain ⟨_,_,rfl⟩:=us2 hl; rfl
noncomputable abbrev s_check_count:Stmt:=top 10
theorem sc_check_count:FnScope ["number", "least", "most"] ["number", "least", "most"] (defScope s_check_count):=⟨rfl,rfl,rfl,by decide +kernel,rfl,by decide +kernel,by decide +kernel⟩
theorem bd_check_count:BindFact "check_count" s_check_count ["number", "least", "most"]:=fun _ _ _ _ _ _ us hl=>by obtain ⟨_,_,_,rfl⟩:=us3 hl; rfl
noncomputable abbrev s_most_seeds:Stmt:=top 7
theorem sc_most_seeds:FnScope [] [] (defScope s_most_seeds):=⟨rfl,rfl,rfl,by decide +kernel,rfl,by decide +kernel,by decide +kernel⟩
theorem bd_most_seeds:BindFact "most_seeds" s_most_seeds []:=fun _ _ _ _ _ _ us hl=>match us,hl with | [],_=>rfl
noncomputable abbrev s_check_sizes:Stmt:=top 11
theorem sc_check_sizes:FnScope ["pits", "seeds"] ["pits", "seeds"] (defScope s_check_sizes):=⟨rfl,rfl,rfl,by decide +kernel,rfl,by decide +kernel,by decide +kernel⟩
theorem bd_check_sizes:BindFact "check_sizes" s_check_sizes ["pits", "seeds"]:=fun _ _ _ _ _ _ us hl=>by obtain ⟨_,_,rfl⟩:=us2 hl; rfl
noncomputable abbrev s_common_divisor:Stmt:=top 16
theorem sc_common_divisor:FnScope ["number", "other", "rest"] ["number", "other"] (defScope s_common_divisor):=⟨rfl,rfl,rfl,by decide +kernel,rfl,by decide +kernel,by decide +kernel⟩
theorem bd_common_divisor:BindFact "common_divisor" s_common_divisor ["number", "other"]:=fun _ _ _ _ _ _ us hl=>by obtain ⟨_,_,rfl⟩:=us2 hl; rfl
noncomputable abbrev s_count_boards:Stmt:=top 13
theorem sc_count_boards:FnScope ["pits", "seeds", "count", "k"] ["pits", "seeds"] (defScope s_count_boards):=⟨rfl,rfl,rfl,by decide +kernel,rfl,by decide +kernel,by decide +kernel⟩
theorem bd_count_boards:BindFact "count_boards" s_count_boards ["pits", "seeds"]:=fun _ _ _ _ _ _ us hl=>by obtain ⟨_,_,rfl⟩:=us2 hl; rfl
noncomputable abbrev s_count_kept:Stmt:=top 15
theorem sc_count_kept:FnScope ["pits", "seeds", "k", "first_pits", "times"] ["pits", "seeds", "k"] (defScope s_count_kept):=⟨rfl,rfl,rfl,by decide +kernel,rfl,by decide +kernel,by decide +kernel⟩
theorem bd_count_kept:BindFact "count_kept" s_count_kept ["pits", "seeds", "k"]:=fun _ _ _ _ _ _ us hl=>by obtain ⟨_,_,_,rfl⟩:=us3 hl; rfl
noncomputable abbrev s_ring_count:Stmt:=top 14
theorem sc_ring_count:FnScope ["pits", "seeds"] ["pits", "seeds"] (defScope s_ring_count):=⟨rfl,rfl,rfl,by decide +kernel,rfl,by decide +kernel,by decide +kernel⟩
theorem bd_ring_count:BindFact "ring_count" s_ring_count ["pits", "seeds"]:=fun _ _ _ _ _ _ us hl=>by obtain ⟨_,_,rfl⟩:=us2 hl; rfl
noncomputable abbrev s__law_whole:Stmt:=top 20
theorem sc__law_whole:FnScope ["number"] ["number"] (defScope s__law_whole):=⟨rfl,rfl,rfl,by decide +kernel,rfl,by decide +kernel,by decide +kernel⟩
theorem bd__law_whole:BindFact "_law_whole" s__law_whole ["number"]:=fun _ _ _ _ _ _ us hl=>by obtain ⟨_,rfl⟩:=us1 hl; rfl
noncomputable abbrev s__law_ways:Stmt:=top 19
theorem sc__law_ways:FnScope ["pits", "seeds", "top", "bottom", "k"] ["pits", "seeds"] (defScope s__law_ways):=⟨rfl,rfl,rfl,by decide +kernel,rfl,by decide +kernel,by decide +kernel⟩
theorem bd__law_ways:BindFact "_law_ways" s__law_ways ["pits", "seeds"]:=fun _ _ _ _ _ _ us hl=>by obtain ⟨_,_,rfl⟩:=us2 hl; rfl
noncomputable abbrev s__law_by_turns:Stmt:=top 24
theorem sc__law_by_turns:FnScope ["pits", "seeds", "own", "total", "turn", "many"] ["pits", "seeds"] (defScope s__law_by_turns):=⟨rfl,rfl,rfl,by decide +kernel,rfl,by decide +kernel,by decide +kernel⟩
theorem bd__law_by_turns:BindFact "_law_by_turns" s__law_by_turns ["pits", "seeds"]:=fun _ _ _ _ _ _ us hl=>by obtain ⟨_,_,rfl⟩:=us2 hl; rfl
noncomputable abbrev s__law_great:Stmt:=top 25
theorem sc__law_great:FnScope ["cell", "pits", "seeds", "found"] ["cell"] (defScope s__law_great):=⟨rfl,rfl,rfl,by decide +kernel,rfl,by decide +kernel,by decide +kernel⟩
theorem bd__law_great:BindFact "_law_great" s__law_great ["cell"]:=fun _ _ _ _ _ _ us hl=>by obtain ⟨_,rfl⟩:=us1 hl; rfl
noncomputable abbrev s__law_boards:Stmt:=top 22
theorem sc__law_boards:FnScope ["pits", "seeds", "boards", "k", "longer", "board"] ["pits", "seeds"] (defScope s__law_boards):=⟨rfl,rfl,rfl,by decide +kernel,rfl,by decide +kernel,by decide +kernel⟩
theorem bd__law_boards:BindFact "_law_boards" s__law_boards ["pits", "seeds"]:=fun _ _ _ _ _ _ us hl=>by obtain ⟨_,_,rfl⟩:=us2 hl; rfl
noncomputable abbrev s__law_rings:Stmt:=top 23
theorem sc__law_rings:FnScope ["pits", "seeds", "count", "board"] ["pits", "seeds"] (defScope s__law_rings):=⟨rfl,rfl,rfl,by decide +kernel,rfl,by decide +kernel,by decide +kernel⟩
theorem bd__law_rings:BindFact "_law_rings" s__law_rings ["pits", "seeds"]:=fun _ _ _ _ _ _ us hl=>by obtain ⟨_,_,rfl⟩:=us2 hl; rfl
noncomputable abbrev s_law:Stmt:=top 26
theorem sc_law:FnScope ["script", "cell", "pits", "seeds", "found"] ["script"] (defScope s_law):=⟨rfl,rfl,rfl,by decide +kernel,rfl,by decide +kernel,by decide +kernel⟩
theorem bd_law:BindFact "law" s_law ["script"]:=fun _ _ _ _ _ _ us hl=>by obtain ⟨_,rfl⟩:=us1 hl; rfl
noncomputable abbrev XN:List Str:=["SowError", "BadCount"]
noncomputable abbrev XS_SowError:List (Str × Str × Bool):=[("SowError", "SowError",true),("BadCount", "SowError",true)]
noncomputable abbrev XS_BadCount:List (Str × Str × Bool):=[("SowError", "BadCount",false),("BadCount", "BadCount",true)]
noncomputable abbrev XS:List (Str × Str × Bool):=XS_SowError ++ XS_BadCount
noncomputable abbrev XR:List Str:=["SowError", "BadCount"]
structure Txt (K:PySem.W.Frag) (mg:Str→Option Value):Prop where
  d_is_whole:Dfn K mg "is_whole" s_is_whole
  d_is_whole_from:Dfn K mg "is_whole_from" s_is_whole_from
  d_check_count:Dfn K mg "check_count" s_check_count
  d_most_seeds:Dfn K mg "most_seeds" s_most_seeds
  d_check_sizes:Dfn K mg "check_sizes" s_check_sizes
  d_common_divisor:Dfn K mg "common_divisor" s_common_divisor
  d_count_boards:Dfn K mg "count_boards" s_count_boards
  d_count_kept:Dfn K mg "count_kept" s_count_kept
  d_ring_count:Dfn K mg "ring_count" s_ring_count
  d__law_whole:Dfn K mg "_law_whole" s__law_whole
  d__law_ways:Dfn K mg "_law_ways" s__law_ways
  d__law_by_turns:Dfn K mg "_law_by_turns" s__law_by_turns
  d__law_great:Dfn K mg "_law_great" s__law_great
  d__law_boards:Dfn K mg "_law_boards" s__law_boards
  d__law_rings:Dfn K mg "_law_rings" s__law_rings
  d_law:Dfn K mg "law" s_law
  c_FEWEST_PITS:∃ t,mg "FEWEST_PITS"=some (.int 2 t)
  c_MOST_PITS:∃ t,mg "MOST_PITS"=some (.int 24 t)
  z_bool:mg "bool"=none
  z_int:mg "int"=none
  z_isinstance:mg "isinstance"=none
  z_min:mg "min"=none
  z_range:mg "range"=none
  z_sum:mg "sum"=none
  x_tab:xTab K XN XS=true
  x_exc:xExcs K XR=true
  x_mg:∀ n C,XCls K n C→mg n=some (.ref C)
section
variable {P:Program} {w:World} {K:PySem.W.Frag} {mg:Str→Option Value} {base:Heap}
set_option hygiene false
local macro_rules | `(tactic| walk_at "pd")=>`(tactic| try simp -implicitDefEqProofs (disch:=first | omega | (simp only [List.length_map,List.length_append,List.length_set,List.length_replicate,List.length_cons,List.length_nil,List.length_take,List.length_drop,List.length_range,rngP_length]; omega) | decide) only [gv_zero,gv_succ,List.set_cons_zero,List.set_cons_succ,List.cons_append,List.nil_append,repN_succ,repN_zero,List.getElem?_cons_zero,Rr.bind_ok,Rr.bind_exc,Rr.bind_bad,Rr.thenS_ok,Rr.thenS_exc,RS.seq_next,RS.seq_ret,RS.seq_exc,RS.out_next,RS.out_ret,RS.out_exc,
  pAdd_ok,pSub_ok,pLt_ok,pGt_ok,pGe_ok,grd_int,asB_bl,asL_lst,asI_int,pIsi_i,isSub_ii,isSub_ib,pEq_int,pEq_ints,pSum_ints,List.length_cons,List.length_nil,Bool.not_true,Bool.not_false,Bool.false_eq_true,if_true,if_false,Nat.reduceAdd,Nat.reduceSub,id,List.map_cons,List.map_nil,Int.reduceToNat,pDiv_small,pMod_ok,p1060,mkL_ok,Nat.reduceLeDiff,Nat.le_refl,Int.reduceLT,Int.reduceLE,Int.reduceEq,decide_true,decide_false,
  pRng1_ok,pRng2_ok,lenM_ok,newF_ints,newF_cat,cut_to,cut_from,orX_none,orX_some,newF_snoc,newF_cons,beq_self_eq_true,Bool.and_true,Bool.true_and,Bool.and_false,Bool.false_and,pMul_b])
set_option hygiene true
noncomputable def pm_is_whole:Pm:=⟨Int,fun i=>[.int i],fun _=>True,fun _=>.ok (.bl true)⟩
theorem fn_is_whole (T:Txt K mg) {f:Addr} {fd:FuncData} (F:Fun K "is_whole" "is_whole" s_is_whole f fd):FnOk P w K mg base CX0 1 f fd ["value"] (spF K 1 .P W0 pm_is_whole.fn):=by
  refine F.okP sc_is_whole rfl rfl (fun cdv A outer s H E hr=>?_)
  have hu:=hr.units
  refine ⟨_,_,⟨[],[],[],.P⟩,rfl,(pss_one (ps_ret (pe_and (pe_callB (call_isiK (K:=K) (n := "int") rfl) rfl T.z_isinstance bb_isinstance (pa_cons (pv 0) (pa_cons (pe_bltn (v:=.ty "int") rfl T.z_int bt_int rfl) pa_nil))) (pe_one (pe_not (pe_callB (call_isiK (K:=K) (n := "bool") rfl) rfl T.z_isinstance bb_isinstance (pa_cons (pv 0) (pa_cons (pe_bltn (v:=.ty "bool") rfl T.z_bool bt_bool rfl) pa_nil)))))))),
      (ds_retP (de_and (DE.toA (de_isi (de_varA (i:=0) (m:=.S) rfl (by decide)))) (de_not (DE.toA (de_isi (de_varA (i:=0) (m:=.S) rfl (by decide))))))), ?_⟩
  refine Pm.ref pm_is_whole (g:=fun xs=>_) ?_
  intro (i:Int) _
  simp only [pm_is_whole]
  walk_at "pd"
theorem c_is_whole {i:Int}:pm_is_whole.fn [.int i]=.ok (.bl true):=Pm.fn_eq pm_is_whole i trivial fun _ _=>rfl
noncomputable def pm_is_whole_from:Pm:=⟨Int × Int,fun a=>[.int a.1,.int a.2],fun _=>True,fun a=>.ok (.bl (decide (a.2≤a.1)))⟩
theorem fn_is_whole_from (T:Txt K mg) {f:Addr} {fd:FuncData} (F:Fun K "is_whole_from" "is_whole_from" s_is_whole_from f fd):FnOk P w K mg base CX0 2 f fd ["value", "least"] (spF K 2 .P W0 pm_is_whole_from.fn):=by
  have G_is_whole:=okOf (P:=P) (w:=w) (base:=base) T.d_is_whole bd_is_whole (fun F=>fn_is_whole T F)
  refine F.okP sc_is_whole_from rfl rfl (fun cdv A outer s H E hr=>?_)
  have hu:=hr.units
  refine ⟨_,_,⟨[],[],[],.P⟩,rfl,(pss_one (ps_ret (pe_and (pe_callO G_is_whole (hr.mono (by decide)) rfl (pa_cons (pv 0) pa_nil)) (pe_one (pe_cmpR op_ge (pv 0) (pv 1) (nomark _)))))),
      (ds_retP (de_and (DE.toA (dc_P (len_cons len_nil) (daa_cons (de_varA (i:=0) (m:=.S) rfl (by decide)) daa_nil))) (de_ge (de_varA (i:=0) (m:=.S) rfl (by decide)) (de_varA (i:=1) (m:=.S) rfl (by decide))))), ?_⟩
  refine Pm.ref pm_is_whole_from (g:=fun xs=>_) ?_
  rintro ⟨i,j⟩ _
  simp only [pm_is_whole_from]
  walk_at "pd"
  rw [c_is_whole]
  walk_at "pd"
theorem c_is_whole_from {i j:Int}:pm_is_whole_from.fn [.int i,.int j]=.ok (.bl (decide (j≤i))):=Pm.fn_eq pm_is_whole_from (i,j) trivial fun (a:Int × Int) e=>by (simp only [pm_is_whole_from,List.cons.injEq,PV.lst.injEq,PV.int.injEq,PV.str.injEq,PV.bl.injEq,PV.tup.injEq,ints_iff,and_true] at e ⊢; first | (simp only [e]; done) | (subst e; rfl) | (rw [e]))
theorem pc_is_whole_from:pm_is_whole_from.calm:=fun a q h=>by (simp only [pm_is_whole_from] at h; cases h)
noncomputable def cntX (n l m:Int):Option Str:=if l≤n∧n≤m then none else some "BadCount"
noncomputable def pm_check_count:Pm:=⟨Int × Int × Int,fun a=>[.int a.1,.int a.2.1,.int a.2.2],fun _=>True,fun a=>orX (cntX a.1 a.2.1 a.2.2) .non⟩
theorem fn_check_count (T:Txt K mg) {f:Addr} {fd:FuncData} (F:Fun K "check_count" "check_count" s_check_count f fd):FnOk P w K mg base (CX1 P w) 3 f fd ["number", "least", "most"] (spF K 3 .P (W1 K) pm_check_count.fn):=by
  have G_is_whole_from:=okOf (P:=P) (w:=w) (base:=base) T.d_is_whole_from bd_is_whole_from (fun F=>fn_is_whole_from T F)
  obtain ⟨C_BadCount,hC_BadCount,hQ_BadCount⟩:=xTab_exc T.x_exc (n := "BadCount") (by decide)
  refine F.okX sc_check_count rfl rfl (fun cdv A outer s H E hr=>?_)
  have hu:=hr.units
  refine ⟨_,_,⟨[.S,.S,.S],[],[],.P⟩,rfl,(pss_one (ps_if (PW.pt (pw_or (pt_not (pt_val (pe_callO G_is_whole_from (hr.mono (by decide)) rfl (pa_cons (pv 0) (pa_cons (pv 1) pa_nil))))) (pw_or1 (pt_cmpR op_gt (pv 0) (pv 2) (nomark _))))) (pss_one (ps_raise made_cx hQ_BadCount rfl (T.x_mg _ _ hC_BadCount) rfl (pa_cons pe_str pa_nil))) pss_nil)),
      (ds_if (dt_or (dt_not (dt_b (DE.toA (dy_P (len_cons (len_cons len_nil)) (Pm.calm_fn pc_is_whole_from) (daa_cons (de_varA (i:=0) (m:=.S) rfl (by decide)) (daa_cons (de_varA (i:=1) (m:=.S) rfl (by decide)) daa_nil)))))) (dt_test (DE.toA (de_gt (de_varA (i:=0) (m:=.S) rfl (by decide)) (de_varA (i:=2) (m:=.S) rfl (by decide))))))
      (ds_raise hC_BadCount (len_cons len_nil) (by decide) (daa_cons (DE.toA de_str) daa_nil))
      ds_next), ?_⟩
  refine Pm.ref pm_check_count (g:=fun xs=>_) ?_
  rintro ⟨n,l,m⟩ -
  simp only [pm_check_count]
  walk_at "pd"
  rw [c_is_whole_from]
  walk_at "pd"
  by_cases h0:l≤n
  · rw [decide_eq_true h0]
    walk_at "pd"
    by_cases h1:n≤m
    · rw [decide_eq_false (by omega),show cntX n l m=none from if_pos ⟨h0,h1⟩]; walk_at "pd" <;> rfl
    · rw [decide_eq_true (by omega),show cntX n l m=(some "BadCount":Option Str) from if_neg (fun z=>h1 z.2)]; walk_at "pd" <;> rfl
  · rw [decide_eq_false h0,show cntX n l m=(some "BadCount":Option Str) from if_neg (fun z=>h0 z.1)]; walk_at "pd" <;> rfl
theorem c_check_count {n l m:Int}:pm_check_count.fn [.int n,.int l,.int m]=orX (cntX n l m) .non:=Pm.fn_eq pm_check_count (n,l,m) trivial fun (a:Int × Int × Int) e=>by (simp only [pm_check_count,List.cons.injEq,PV.lst.injEq,PV.int.injEq,PV.str.injEq,PV.bl.injEq,PV.tup.injEq,ints_iff,and_true] at e ⊢; first | (simp only [e]; done) | (subst e; rfl) | (rw [e]))
noncomputable def pm_most_seeds:Pm:=⟨Unit,fun _=>[],fun _=>True,fun _=>.ok (.int (10 ^ 60))⟩
theorem fn_most_seeds (T:Txt K mg) {f:Addr} {fd:FuncData} (F:Fun K "most_seeds" "most_seeds" s_most_seeds f fd):FnOk P w K mg base CX0 1 f fd [] (spF K 0 .P W0 pm_most_seeds.fn):=by
  refine F.okP sc_most_seeds rfl rfl (fun cdv A outer s H E hr=>?_)
  have hu:=hr.units
  refine ⟨_,_,⟨[],[],[],.P⟩,rfl,(pss_one (ps_ret (pe_op op_pow pe_int pe_int))),
      (ds_retP (de_pow (DE.toA de_int) (DE.toA de_int))), ?_⟩
  refine Pm.ref pm_most_seeds (g:=fun xs=>_) ?_
  rintro _ _
  simp only [pm_most_seeds]
  walk_at "pd"
theorem c_most_seeds:pm_most_seeds.fn []=.ok (.int (10 ^ 60)):=Pm.fn_eq pm_most_seeds () trivial fun _ _=>rfl
theorem pc_most_seeds:pm_most_seeds.calm:=fun a q h=>by (simp only [pm_most_seeds] at h; cases h)
noncomputable def szX (p s:Int):Option Str:=match cntX p 2 24 with
  | some n=>some n
  | none=>cntX s 0 (10 ^ 60)
noncomputable def pm_check_sizes:Pm:=⟨Int × Int,fun a=>[.int a.1,.int a.2],fun _=>True,fun a=>orX (szX a.1 a.2) .non⟩
theorem fn_check_sizes (T:Txt K mg) {f:Addr} {fd:FuncData} (F:Fun K "check_sizes" "check_sizes" s_check_sizes f fd):FnOk P w K mg base (CX1 P w) 4 f fd ["pits", "seeds"] (spF K 2 .P (W1 K) pm_check_sizes.fn):=by
  have G_check_count:=okOfX (P:=P) (w:=w) (base:=base) T.d_check_count bd_check_count (fun F=>fn_check_count T F)
  have G_most_seeds:=okOf (P:=P) (w:=w) (base:=base) T.d_most_seeds bd_most_seeds (fun F=>fn_most_seeds T F)
  refine F.okX sc_check_sizes rfl rfl (fun cdv A outer s H E hr=>?_)
  have hu:=hr.units
  refine ⟨_,_,⟨[.S,.S],[],[],.P⟩,rfl,(pss_cons (ps_expr (pe_callX G_check_count (hr.mono (by decide)) rfl pass_cx (pa_cons (pv 0) (pa_cons (pe_globI T.c_FEWEST_PITS rfl) (pa_cons (pe_globI T.c_MOST_PITS rfl) pa_nil)))))
      (pss_one (ps_expr (pe_callX G_check_count (hr.mono (by decide)) rfl pass_cx (pa_cons (pv 1) (pa_cons pe_int (pa_cons (pe_callO0 G_most_seeds (hr.mono (by decide)) rfl) pa_nil))))))),
      (ds_seq (Γm:=[.S,.S]) (ds_expr (DE.toA (dx_P (len_cons (len_cons (len_cons len_nil))) (daa_cons (de_varA (i:=0) (m:=.S) rfl (by decide)) (daa_cons (DE.toA de_int) (daa_cons (DE.toA de_int) daa_nil))))))
      (ds_expr (DE.toA (dx_P (len_cons (len_cons (len_cons len_nil))) (daa_cons (de_varA (i:=1) (m:=.S) rfl (by decide)) (daa_cons (DE.toA de_int) (daa_cons (DE.toA (dy_P len_nil (Pm.calm_fn pc_most_seeds) daa_nil)) daa_nil))))))), ?_⟩
  refine Pm.ref pm_check_sizes (g:=fun xs=>_) ?_
  rintro ⟨p,s⟩ -
  simp only [pm_check_sizes]
  walk_at "pd"
  rw [c_check_count]
  unfold szX
  cases cntX p 2 24 with
  | some n=>walk_at "pd"
  | none =>
    walk_at "pd"
    rw [c_most_seeds]
    walk_at "pd"
    rw [c_check_count]
    cases cntX s 0 (10 ^ 60) with
    | some n=>walk_at "pd"
    | none=>walk_at "pd"
theorem c_check_sizes {p s:Int}:pm_check_sizes.fn [.int p,.int s]=orX (szX p s) .non:=Pm.fn_eq pm_check_sizes (p,s) trivial fun (a:Int × Int) e=>by (simp only [pm_check_sizes,List.cons.injEq,PV.lst.injEq,PV.int.injEq,PV.str.injEq,PV.bl.injEq,PV.tup.injEq,ints_iff,and_true] at e ⊢; first | (simp only [e]; done) | (subst e; rfl) | (rw [e]))
theorem szX_none {p s:Int}:szX p s=none ↔ (2≤p∧p≤24)∧0≤s∧s≤10 ^ 60:=by
  unfold szX cntX
  by_cases h:2≤p∧p≤24
  · rw [if_pos h]
    by_cases h2:0≤s∧s≤10 ^ 60
    · rw [if_pos h2]; exact ⟨fun _=>⟨h,h2⟩,fun _=>rfl⟩
    · rw [if_neg h2]; exact ⟨fun z=>(nomatch z),fun z=>absurd z.2 h2⟩
  · rw [if_neg h]; exact ⟨fun z=>(nomatch z),fun z=>absurd z.1 h⟩
noncomputable def pm_common_divisor:Pm:=⟨Int × Int,fun a=>[.int a.1,.int a.2],fun a=>0≤a.1∧0≤a.2,fun a=>.ok (.int (gcdF a.1 a.2))⟩
theorem fn_common_divisor (T:Txt K mg) {f:Addr} {fd:FuncData} (F:Fun K "common_divisor" "common_divisor" s_common_divisor f fd):FnOk P w K mg base CX0 1 f fd ["number", "other"] (spF K 2 .P W0 pm_common_divisor.fn):=by
  refine F.okP sc_common_divisor rfl rfl (fun cdv A outer s H E hr=>?_)
  have hu:=hr.units
  refine ⟨_,_,⟨[],[],[],.P⟩,rfl,(pss_cons (ps_while PassesOwn.never (pt_cmpR op_gt (pv 1) pe_int (nomark _)) (pss_cons (ps_set (i:=2) sc_common_divisor.nd rfl (by first | exact Or.inl rfl | exact Or.inr rfl) (pe_op op_mod (pv 0) (pv 1)))
      (pss_cons (ps_set (i:=0) sc_common_divisor.nd rfl (by first | exact Or.inl rfl | exact Or.inr rfl) (pv 1))
      (pss_one (ps_set (i:=1) sc_common_divisor.nd rfl (by first | exact Or.inl rfl | exact Or.inr rfl) (pv 2))))))
      (pss_one (ps_ret (pv 0)))),
      (ds_seq (Γm:=[.S,.S,.U]) (ds_while (Γ:=[.S,.S,.U]) (dt_test (DE.toA (de_gt (de_varA (i:=1) (m:=.S) rfl (by decide)) (DE.toA de_int))))
      (DS.out (Y:=⟨[.P,.P,.P],[.S,.S,.U],[.S,.S,.U],.P⟩) (Y':=⟨[.S,.S,.U],[.S,.S,.U],[.S,.S,.U],.P⟩) (ds_seq (Γm:=[.S,.S,.P]) (ds_setP (i:=2) (de_mod (de_varA (i:=0) (m:=.S) rfl (by decide)) (de_varA (i:=1) (m:=.S) rfl (by decide))) (by decide))
      (ds_seq (Γm:=[.P,.S,.P]) (ds_setP (i:=0) (DE.grd (de_varA (i:=1) (m:=.S) rfl (by decide))) (by decide))
      (ds_setP (i:=1) (de_varP (i:=2) rfl) (by decide)))) rfl rfl rfl rfl))
      (ds_retP (DE.grd (de_varA (i:=0) (m:=.S) rfl (by decide))))), ?_⟩
  refine Pm.ref pm_common_divisor (g:=fun xs=>_) ?_
  rintro ⟨a,b⟩ ⟨h0,h1⟩
  simp only at h0 h1
  simp only [pm_common_divisor]
  walk_at "pd"
  generalize hw:whileR _ _ _=W
  obtain ⟨ρ',rfl,⟨x,y,v,hx,hy,hg,rfl⟩,he⟩:=whileR_mu hw (fun ρ=>∃ x y v,0≤x∧0≤y∧gcdF x y=gcdF a b∧ρ=[.int x,.int y,v]) (fun ρ=>match gv 1 ρ with | .int t=>t.toNat | _=>0) ⟨a,b,_,h0,h1,rfl,rfl⟩ (by
    rintro ρ ⟨x,y,v,hx,hy,hg,rfl⟩
    by_cases hp:0 < y
    · right
      have m0:=Int.emod_nonneg x (show y≠0 by omega)
      have m1:=Int.emod_lt_of_pos x hp
      constructor
      · walk_at "pd"
        rw [decide_eq_true hp]
      · walk_at "pd"
        exact nextI ⟨⟨y,x % y,_,hy,m0,by rw [gcdF_step hx hp]; exact hg,rfl⟩,by show (x % y).toNat < y.toNat; omega⟩
    · left
      walk_at "pd"
      rw [decide_eq_false hp])
  have hz:¬ 0 < y:=by
    intro z
    revert he
    walk_at "pd"
    rw [decide_eq_true z]
    intro q
    cases q
  rw [show y=0 by omega,gcdF_zero hx] at hg
  walk_at "pd"
  rw [hg]
theorem c_common_divisor {a b:Int} (h:0≤a∧0≤b):pm_common_divisor.fn [.int a,.int b]=.ok (.int (gcdF a b)):=Pm.fn_eq pm_common_divisor (a,b) h fun (a:Int × Int) e=>by (simp only [pm_common_divisor,List.cons.injEq,PV.lst.injEq,PV.int.injEq,PV.str.injEq,PV.bl.injEq,PV.tup.injEq,ints_iff,and_true] at e ⊢; first | (simp only [e]; done) | (subst e; rfl) | (rw [e]))
theorem big61:(10:Nat) ^ 61 < 2 ^ 60000:=by
  calc (10:Nat) ^ 61≤(2 ^ 4) ^ 61:=Nat.pow_le_pow_left (by decide) _
    _=2 ^ 244:=by rw [← Nat.pow_mul]
    _ < 2 ^ 60000:=Nat.pow_lt_pow_right (by decide) (by decide)
noncomputable def pm_count_boards:Pm:=⟨Int × Int,fun a=>[.int a.1,.int a.2],fun a=>(1≤a.1∧a.1≤24)∧a.2≤10 ^ 60,fun a=>.ok (.int (cbN a.1 a.2))⟩
theorem fn_count_boards (T:Txt K mg) {f:Addr} {fd:FuncData} (F:Fun K "count_boards" "count_boards" s_count_boards f fd):FnOk P w K mg base CX0 1 f fd ["pits", "seeds"] (spF K 2 .P W0 pm_count_boards.fn):=by
  refine F.okP sc_count_boards rfl rfl (fun cdv A outer s H E hr=>?_)
  have hu:=hr.units
  refine ⟨_,_,⟨[],[],[],.P⟩,rfl,(pss_cons (ps_if (pt_cmpR op_lt (pv 1) pe_int (nomark _)) (pss_one (ps_ret pe_int)) pss_nil)
      (pss_cons (ps_set (i:=2) sc_count_boards.nd rfl (by first | exact Or.inl rfl | exact Or.inr rfl) pe_int)
      (pss_cons (ps_for PassesOwn.never rfl (pi_range2 rfl T.z_range (pa_cons pe_int (pa_cons (pv 0) pa_nil))) (pg_name (i:=3) sc_count_boards.nd rfl (by first | exact Or.inl rfl | exact Or.inr rfl)) (pss_one (ps_set (i:=2) sc_count_boards.nd rfl (by first | exact Or.inl rfl | exact Or.inr rfl) (pe_op op_fdivB (pe_op op_mulB (pv 2) (pe_op op_add (pv 1) (pv 3))) (pv 3)))))
      (pss_one (ps_ret (pv 2)))))),
      (ds_seq (Γm:=[.S,.S,.U,.U]) (ds_if (dt_test (DE.toA (de_lt (de_varA (i:=1) (m:=.S) rfl (by decide)) (DE.toA de_int))))
      (ds_retP de_int)
      ds_next)
      (ds_seq (Γm:=[.S,.S,.P,.U]) (ds_setP (i:=2) de_int (by decide))
      (ds_seq (Γm:=[.S,.S,.P,.U]) (ds_for (Γl:=[.S,.S,.P,.U]) (di_rng2 (daa_cons (DE.toA de_int) (daa_cons (de_varA (i:=0) (m:=.S) rfl (by decide)) daa_nil))) rfl (dg_P (i:=3) (by decide))
      (DS.out (Y:=⟨[.S,.S,.P,.P],[.S,.S,.P,.U],[.S,.S,.P,.U],.P⟩) (Y':=⟨[.S,.S,.P,.U],[.S,.S,.P,.U],[.S,.S,.P,.U],.P⟩) (ds_setP (i:=2) (de_div (DE.toA (de_mul (DE.toA (de_varP (i:=2) rfl)) (DE.toA (de_add (de_varA (i:=1) (m:=.S) rfl (by decide)) (DE.toA (de_varP (i:=3) rfl)))))) (DE.toA (de_varP (i:=3) rfl))) (by decide)) rfl rfl rfl rfl))
      (ds_retP (de_varP (i:=2) rfl))))), ?_⟩
  refine Pm.ref pm_count_boards (g:=fun xs=>_) ?_
  rintro ⟨p,s⟩ ⟨⟨hp0,hp⟩,hs⟩
  simp only at hp0 hp hs
  simp only [pm_count_boards]
  unfold cbN
  walk_at "pd"
  by_cases h:s < 0
  · rw [decide_eq_true h,if_pos h]
    walk_at "pd"
  · rw [decide_eq_false h,if_neg h]
    walk_at "pd"
    generalize hw:forR _ _ _=W
    obtain ⟨ρ',rfl,v,rfl⟩:=forR_inv' hw (fun i ρ=>∃ v,ρ=[.int p,.int s,.int (cbI s i),v]) ⟨_,rfl⟩ (by
      rintro i x ρ hx ⟨v,rfl⟩
      obtain ⟨hi,rfl⟩:=rngP_get hx
      walk_at "pd"
      rw [pMul_ok ⟨cbI_small (by omega) hs (by omega),Nat.lt_of_le_of_lt (show (s + (1 + (i:Int))).natAbs≤10 ^ 61 by omega) big61⟩]
      walk_at "pd"
      exact nextI ⟨.int (1 + (i:Int)),by rw [cbI,Int.add_comm 1 (i:Int)]⟩)
    walk_at "pd"
    rw [rngP_length]
theorem c_count_boards {p s:Int} (h:(1≤p∧p≤24)∧s≤10 ^ 60):pm_count_boards.fn [.int p,.int s]=.ok (.int (cbN p s)):=Pm.fn_eq pm_count_boards (p,s) h fun (a:Int × Int) e=>by (simp only [pm_count_boards,List.cons.injEq,PV.lst.injEq,PV.int.injEq,PV.str.injEq,PV.bl.injEq,PV.tup.injEq,ints_iff,and_true] at e ⊢; first | (simp only [e]; done) | (subst e; rfl) | (rw [e]))
noncomputable def keptN (p s k:Int):Int:=if s % (p / gcdF p k)=0 then cbN (gcdF p k) (s / (p / gcdF p k)) else 0
theorem gcdF_bd {p k:Int} (hp:1≤p):(1≤gcdF p k∧gcdF p k≤p)∧1≤p / gcdF p k∧p / gcdF p k≤p:=by
  have g0:=gcdF_pos (a:=p) (b:=k) (by omega)
  have g1:=Int.le_of_dvd (by omega) (gcdF_dvd (a:=p) (b:=k) (by omega))
  have g2:p / gcdF p k≤p:=Int.ediv_le_self _ (by omega)
  have g3:1≤p / gcdF p k:=by
    have:=Int.ediv_le_ediv g0 g1
    rwa [Int.ediv_self (by omega)] at this
  omega
noncomputable def pm_count_kept:Pm:=⟨Int × Int × Int,fun a=>[.int a.1,.int a.2.1,.int a.2.2],fun a=>(1≤a.1∧a.1≤24)∧(0≤a.2.1∧a.2.1≤10 ^ 60)∧0≤a.2.2,fun a=>.ok (.int (keptN a.1 a.2.1 a.2.2))⟩
theorem fn_count_kept (T:Txt K mg) {f:Addr} {fd:FuncData} (F:Fun K "count_kept" "count_kept" s_count_kept f fd):FnOk P w K mg base CX0 2 f fd ["pits", "seeds", "k"] (spF K 3 .P W0 pm_count_kept.fn):=by
  have G_common_divisor:=okOf (P:=P) (w:=w) (base:=base) T.d_common_divisor bd_common_divisor (fun F=>fn_common_divisor T F)
  have G_count_boards:=okOf (P:=P) (w:=w) (base:=base) T.d_count_boards bd_count_boards (fun F=>fn_count_boards T F)
  refine F.okP sc_count_kept rfl rfl (fun cdv A outer s H E hr=>?_)
  have hu:=hr.units
  refine ⟨_,_,⟨[],[],[],.P⟩,rfl,(pss_cons (ps_set (i:=3) sc_count_kept.nd rfl (by first | exact Or.inl rfl | exact Or.inr rfl) (pe_callO G_common_divisor (hr.mono (by decide)) rfl (pa_cons (pv 0) (pa_cons (pv 2) pa_nil))))
      (pss_cons (ps_set (i:=4) sc_count_kept.nd rfl (by first | exact Or.inl rfl | exact Or.inr rfl) (pe_op op_fdivB (pv 0) (pv 3)))
      (pss_cons (ps_if (pt_cmpR (op_neD (K:=K) hu) (pe_op op_mod (pv 1) (pv 4)) pe_int (nomark _)) (pss_one (ps_ret pe_int)) pss_nil)
      (pss_one (ps_ret (pe_callO G_count_boards (hr.mono (by decide)) rfl (pa_cons (pv 3) (pa_cons (pe_op op_fdivB (pv 1) (pv 4)) pa_nil)))))))),
      (ds_seq (Γm:=[.S,.S,.S,.P,.U]) (ds_setP (i:=3) (dc_P (len_cons (len_cons len_nil)) (daa_cons (de_varA (i:=0) (m:=.S) rfl (by decide)) (daa_cons (de_varA (i:=2) (m:=.S) rfl (by decide)) daa_nil))) (by decide))
      (ds_seq (Γm:=[.S,.S,.S,.P,.P]) (ds_setP (i:=4) (de_div (de_varA (i:=0) (m:=.S) rfl (by decide)) (DE.toA (de_varP (i:=3) rfl))) (by decide))
      (ds_seq (Γm:=[.S,.S,.S,.P,.P]) (ds_if (dt_test (DE.toA (de_eqG (g:=(!·)) (DE.toA (de_mod (de_varA (i:=1) (m:=.S) rfl (by decide)) (DE.toA (de_varP (i:=4) rfl)))) (DE.toA de_int))))
      (ds_retP de_int)
      ds_next)
      (ds_retP (dc_P (len_cons (len_cons len_nil)) (daa_cons (DE.toA (de_varP (i:=3) rfl)) (daa_cons (DE.toA (de_div (de_varA (i:=1) (m:=.S) rfl (by decide)) (DE.toA (de_varP (i:=4) rfl)))) daa_nil))))))), ?_⟩
  refine Pm.ref pm_count_kept (g:=fun xs=>_) ?_
  rintro ⟨p,s,k⟩ ⟨⟨p0,p1⟩,⟨s0,s1⟩,k0⟩
  simp only at p0 p1 s0 s1 k0
  simp only [pm_count_kept]
  have g:=gcdF_bd (p:=p) (k:=k) p0
  walk_at "pd"
  rw [c_common_divisor ⟨by omega,k0⟩]
  unfold keptN
  generalize gcdF p k=d at g
  walk_at "pd"
  generalize p / d=t at g
  have q0:=Int.ediv_nonneg s0 (show 0≤t by omega)
  have q1:=Int.ediv_le_self t s0
  walk_at "pd"
  by_cases h:s % t=0
  · rw [if_pos h,decide_eq_true h]
    walk_at "pd"
    rw [c_count_boards ⟨by omega,by omega⟩]
    walk_at "pd"
  · rw [if_neg h,decide_eq_false h]
    walk_at "pd"
theorem c_count_kept {p s k:Int} (h:(1≤p∧p≤24)∧(0≤s∧s≤10 ^ 60)∧0≤k):pm_count_kept.fn [.int p,.int s,.int k]=.ok (.int (keptN p s k)):=Pm.fn_eq pm_count_kept (p,s,k) h fun (a:Int × Int × Int) e=>by (simp only [pm_count_kept,List.cons.injEq,PV.lst.injEq,PV.int.injEq,PV.str.injEq,PV.bl.injEq,PV.tup.injEq,ints_iff,and_true] at e ⊢; first | (simp only [e]; done) | (subst e; rfl) | (rw [e]))
theorem pc_count_kept:pm_count_kept.calm:=fun a q h=>by (simp only [pm_count_kept] at h; cases h)
noncomputable def ringN (p s:Int):Int:=((List.range p.toNat).map fun (k:Nat)=>keptN p s k).sum / p
noncomputable def pm_ring_count:Pm:=⟨Int × Int,fun a=>[.int a.1,.int a.2],fun _=>True,fun a=>orX (szX a.1 a.2) (.int (ringN a.1 a.2))⟩
theorem fn_ring_count (T:Txt K mg) {f:Addr} {fd:FuncData} (F:Fun K "ring_count" "ring_count" s_ring_count f fd):FnOk P w K mg base (CX1 P w) 5 f fd ["pits", "seeds"] (spF K 2 .P (W1 K) pm_ring_count.fn):=by
  have G_check_sizes:=okOfX (P:=P) (w:=w) (base:=base) T.d_check_sizes bd_check_sizes (fun F=>fn_check_sizes T F)
  have G_count_kept:=okOf (P:=P) (w:=w) (base:=base) T.d_count_kept bd_count_kept (fun F=>fn_count_kept T F)
  refine F.okX sc_ring_count rfl rfl (fun cdv A outer s H E hr=>?_)
  have hu:=hr.units
  refine ⟨_,_,⟨[],[],[],.P⟩,rfl,(pss_cons (ps_expr (pe_callX G_check_sizes (hr.mono (by decide)) rfl pass_cx (pa_cons (pv 0) (pa_cons (pv 1) pa_nil))))
      (pss_one (ps_ret (pe_op op_fdivB (pe_callB (call_sumK (K:=K) rfl) rfl T.z_sum bb_sum (pa_cons (pe_comp (pi_range1 rfl T.z_range (pa_cons (pv 0) pa_nil)) (fun _ _ _ _=>(pe_callO G_count_kept (hr.mono (by decide)) rfl (pa_cons (pv 0) (pa_cons (pv 1) (pa_cons (pv 2) pa_nil))))) sc_ring_count.nd rfl) pa_nil)) (pv 0))))),
      (ds_seq (Γm:=[.S,.S]) (ds_expr (DE.toA (dx_P (len_cons (len_cons len_nil)) (daa_cons (de_varA (i:=0) (m:=.S) rfl (by decide)) (daa_cons (de_varA (i:=1) (m:=.S) rfl (by decide)) daa_nil)))))
      (ds_retP (de_div (DE.toA (de_sum (daa_cons (DE.toA (de_compF (DI.c (di_rng1 (daa_cons (de_varA (i:=0) (m:=.S) rfl (by decide)) daa_nil))) (DE.PF (dy_P (len_cons (len_cons (len_cons len_nil))) (Pm.calm_fn pc_count_kept) (daa_cons (de_varA (i:=0) (m:=.S) rfl (by decide)) (daa_cons (de_varA (i:=1) (m:=.S) rfl (by decide)) (daa_cons (de_varA (i:=2) (m:=.S) rfl (by decide)) daa_nil))))))) daa_nil))) (de_varA (i:=0) (m:=.S) rfl (by decide))))), ?_⟩
  refine Pm.ref pm_ring_count (g:=fun xs=>_) ?_
  rintro ⟨p,s⟩ -
  simp only [pm_ring_count]
  walk_at "pd"
  rw [c_check_sizes]
  cases hz:szX p s with
  | some x=>simp only [orX]; walk_at "pd"
  | none =>
    obtain ⟨⟨p0,p1⟩,s0,s1⟩:=szX_none.mp hz
    simp only [orX]
    walk_at "pd"
    rw [map_rng (g:=fun k=>keptN p s k) (fun i hi=>by
      rw [Int.zero_add]
      walk_at "pd"
      rw [c_count_kept ⟨by omega,by omega,by omega⟩])]
    walk_at "pd"
    rfl
theorem c_ring_count {p s:Int}:pm_ring_count.fn [.int p,.int s]=orX (szX p s) (.int (ringN p s)):=Pm.fn_eq pm_ring_count (p,s) trivial fun (a:Int × Int) e=>by (simp only [pm_ring_count,List.cons.injEq,PV.lst.injEq,PV.int.injEq,PV.str.injEq,PV.bl.injEq,PV.tup.injEq,ints_iff,and_true] at e ⊢; first | (simp only [e]; done) | (subst e; rfl) | (rw [e]))
noncomputable def pm__law_whole:Pm:=⟨Int,fun i=>[.int i],fun _=>True,fun _=>.ok (.bl true)⟩
theorem fn__law_whole (T:Txt K mg) {f:Addr} {fd:FuncData} (F:Fun K "_law_whole" "_law_whole" s__law_whole f fd):FnOk P w K mg base CX0 1 f fd ["number"] (spF K 1 .P W0 pm__law_whole.fn):=by
  refine F.okP sc__law_whole rfl rfl (fun cdv A outer s H E hr=>?_)
  have hu:=hr.units
  refine ⟨_,_,⟨[],[],[],.P⟩,rfl,(pss_one (ps_ret (pe_and (pe_callB (call_isiK (K:=K) (n := "int") rfl) rfl T.z_isinstance bb_isinstance (pa_cons (pv 0) (pa_cons (pe_bltn (v:=.ty "int") rfl T.z_int bt_int rfl) pa_nil))) (pe_one (pe_not (pe_callB (call_isiK (K:=K) (n := "bool") rfl) rfl T.z_isinstance bb_isinstance (pa_cons (pv 0) (pa_cons (pe_bltn (v:=.ty "bool") rfl T.z_bool bt_bool rfl) pa_nil)))))))),
      (ds_retP (de_and (DE.toA (de_isi (de_varA (i:=0) (m:=.S) rfl (by decide)))) (de_not (DE.toA (de_isi (de_varA (i:=0) (m:=.S) rfl (by decide))))))), ?_⟩
  refine Pm.ref pm__law_whole (g:=fun xs=>_) ?_
  intro (i:Int) _
  simp only [pm__law_whole]
  walk_at "pd"
theorem c__law_whole {i:Int}:pm__law_whole.fn [.int i]=.ok (.bl true):=Pm.fn_eq pm__law_whole i trivial fun _ _=>rfl
noncomputable def pm__law_ways:Pm:=⟨Int × Int,fun a=>[.int a.1,.int a.2],fun a=>(1≤a.1∧a.1≤24)∧0≤a.2∧a.2≤10 ^ 60,fun a=>.ok (.int (cbN a.1 a.2))⟩
theorem fn__law_ways (T:Txt K mg) {f:Addr} {fd:FuncData} (F:Fun K "_law_ways" "_law_ways" s__law_ways f fd):FnOk P w K mg base CX0 1 f fd ["pits", "seeds"] (spF K 2 .P W0 pm__law_ways.fn):=by
  refine F.okP sc__law_ways rfl rfl (fun cdv A outer s H E hr=>?_)
  have hu:=hr.units
  refine ⟨_,_,⟨[],[],[],.P⟩,rfl,(pss_cons (ps_set (i:=2) sc__law_ways.nd rfl (by first | exact Or.inl rfl | exact Or.inr rfl) pe_int)
      (pss_cons (ps_set (i:=3) sc__law_ways.nd rfl (by first | exact Or.inl rfl | exact Or.inr rfl) pe_int)
      (pss_cons (ps_for PassesOwn.never rfl (pi_range2 rfl T.z_range (pa_cons pe_int (pa_cons (pv 0) pa_nil))) (pg_name (i:=4) sc__law_ways.nd rfl (by first | exact Or.inl rfl | exact Or.inr rfl)) (pss_cons (ps_set (i:=2) sc__law_ways.nd rfl (by first | exact Or.inl rfl | exact Or.inr rfl) (pe_op op_mulB (pv 2) (pe_op op_add (pv 1) (pv 4))))
      (pss_one (ps_set (i:=3) sc__law_ways.nd rfl (by first | exact Or.inl rfl | exact Or.inr rfl) (pe_op op_mulB (pv 3) (pv 4))))))
      (pss_one (ps_ret (pe_op op_fdivB (pv 2) (pv 3))))))),
      (ds_seq (Γm:=[.S,.S,.P,.U,.U]) (ds_setP (i:=2) de_int (by decide))
      (ds_seq (Γm:=[.S,.S,.P,.P,.U]) (ds_setP (i:=3) de_int (by decide))
      (ds_seq (Γm:=[.S,.S,.P,.P,.U]) (ds_for (Γl:=[.S,.S,.P,.P,.U]) (di_rng2 (daa_cons (DE.toA de_int) (daa_cons (de_varA (i:=0) (m:=.S) rfl (by decide)) daa_nil))) rfl (dg_P (i:=4) (by decide))
      (DS.out (Y:=⟨[.S,.S,.P,.P,.P],[.S,.S,.P,.P,.U],[.S,.S,.P,.P,.U],.P⟩) (Y':=⟨[.S,.S,.P,.P,.U],[.S,.S,.P,.P,.U],[.S,.S,.P,.P,.U],.P⟩) (ds_seq (Γm:=[.S,.S,.P,.P,.P]) (ds_setP (i:=2) (de_mul (DE.toA (de_varP (i:=2) rfl)) (DE.toA (de_add (de_varA (i:=1) (m:=.S) rfl (by decide)) (DE.toA (de_varP (i:=4) rfl))))) (by decide))
      (ds_setP (i:=3) (de_mul (DE.toA (de_varP (i:=3) rfl)) (DE.toA (de_varP (i:=4) rfl))) (by decide))) rfl rfl rfl rfl))
      (ds_retP (de_div (DE.toA (de_varP (i:=2) rfl)) (DE.toA (de_varP (i:=3) rfl))))))), ?_⟩
  refine Pm.ref pm__law_ways (g:=fun xs=>_) ?_
  rintro ⟨p,s⟩ ⟨⟨hp0,hp⟩,h,hs⟩
  simp only at hp0 hp h hs
  simp only [pm__law_ways]
  rw [← top_div h]
  walk_at "pd"
  generalize hw:forR _ _ _=W
  obtain ⟨ρ',rfl,v,rfl⟩:=forR_inv' hw (fun i ρ=>∃ v,ρ=[.int p,.int s,.int (topN s i),.int (facN i),v]) ⟨_,rfl⟩ (by
    rintro i x ρ hx ⟨v,rfl⟩
    obtain ⟨hi,rfl⟩:=rngP_get hx
    walk_at "pd"
    rw [pMul_ok ⟨topN_small h hs (by omega),Nat.lt_of_le_of_lt (show (s + (1 + (i:Int))).natAbs≤10 ^ 61 by omega) big61L⟩]
    walk_at "pd"
    rw [pMul_ok ⟨facN_small (by omega),Nat.lt_of_le_of_lt (show (1 + (i:Int)).natAbs≤10 ^ 61 by omega) big61L⟩]
    walk_at "pd"
    exact nextI ⟨.int (1 + (i:Int)),by rw [topN,facN,Int.add_comm 1 (i:Int)]⟩)
  walk_at "pd"
  rw [rngP_length,pDiv_ok (cdiv_of 1464 (facN_pos _) (facN_le (by omega)))]
  rfl
theorem c__law_ways {p s:Int} (h:(1≤p∧p≤24)∧0≤s∧s≤10 ^ 60):pm__law_ways.fn [.int p,.int s]=.ok (.int (cbN p s)):=Pm.fn_eq pm__law_ways (p,s) h fun (a:Int × Int) e=>by (simp only [pm__law_ways,List.cons.injEq,PV.lst.injEq,PV.int.injEq,PV.str.injEq,PV.bl.injEq,PV.tup.injEq,ints_iff,and_true] at e ⊢; first | (simp only [e]; done) | (subst e; rfl) | (rw [e]))
noncomputable def kI (l:List Nat):List Key:=l.map fun t=>Sum.inl ((t:Nat):Int)
noncomputable def ownD (p s:Nat) (l:List Nat):PV:=.box none (.dk (kI l)) (l.map fun t=>.int (primR p s t:Nat))
theorem atK_own {f:Nat→PV} {t:Nat}:∀ {l:List Nat},t∈l→atK (kI l) (l.map f) (Sum.inl ((t:Nat):Int))=some (f t)
  | a :: l,h=>by
    unfold kI
    rw [List.map_cons,List.map_cons,atK]
    by_cases e:a=t
    · subst e; rw [if_pos rfl]
    · rw [if_neg (show ¬ (Sum.inl ((a:Nat):Int):Key)=Sum.inl ((t:Nat):Int) from fun z=>e (by have:=Sum.inl.inj z; omega))]
      exact atK_own (by simpa [Ne.symm e] using h)
theorem get_own {p s t:Nat} {l:List Nat} (h:t∈l):pDGet (ownD p s l) (.int (t:Nat))=.ok (.int (primR p s t:Nat)):=by
  show (match (some (atK (kI l) (l.map fun t=>PV.int (primR p s t:Nat)) (Sum.inl ((t:Nat):Int)))) with | some (some z)=>Rr.ok z | _=>.bad)=_
  rw [atK_own h]
theorem put_own {p s t:Nat} {l:List Nat} (h:t ∉ l) (hl:l.length < 1000):pDPut (ownD p s l) (.int (t:Nat)) (.int (primR p s t:Nat))=.ok (ownD p s (l ++ [t])):=by
  have hk:(Sum.inl ((t:Nat):Int):Key) ∉ kI l:=fun z=>by
    unfold kI at z
    obtain ⟨a,ha,e⟩:=List.mem_map.mp z
    have:a=t:=Int.ofNat.inj (Sum.inl.inj e)
    exact h (this ▸ ha)
  show (if _∧_ then _ else _)=_
  rw [if_pos ⟨by rw [List.length_map]; omega,.inr rfl⟩]
  unfold putKs putXs ownD
  rw [if_neg hk,if_neg hk]
  unfold kI
  rw [List.map_append,List.map_append]
  rfl
theorem asDk_own {p s:Nat} {l:List Nat}:asDk (ownD p s l)=.ok (l.map fun t=>.int ((t:Nat):Int)):=by
  show (if _ then _ else _)=_
  unfold kI
  rw [if_pos (by simp),List.map_map]
  rfl
theorem mul_le60 {s t p:Int} (s0:0≤s) (s1:s≤10 ^ 60) (t0:0≤t) (tp:t≤p) (p0:0 < p):0≤s * t / p∧s * t / p≤s:=by
  have h1:s * t≤s * p:=Int.mul_le_mul_of_nonneg_left tp s0
  have h2:=Int.ediv_le_ediv p0 h1
  rw [Int.mul_ediv_cancel _ (by omega)] at h2
  exact ⟨Int.ediv_nonneg (Int.mul_nonneg s0 t0) (by omega),h2⟩
theorem sum_castN (f:Nat→Nat):∀ l:List Nat,(l.map fun e=>((f e:Nat):Int)).sum=(((l.map f).sum:Nat):Int)
  | []=>rfl
  | a :: l=>by rw [List.map_cons,List.map_cons,List.sum_cons,List.sum_cons,sum_castN f l,Int.natCast_add]
noncomputable def pm__law_by_turns:Pm:=⟨Int × Int,fun a=>[.int a.1,.int a.2],fun a=>(2≤a.1∧a.1≤24)∧0≤a.2∧a.2≤10 ^ 60,fun a=>.ok (.int (byT a.1.toNat a.2.toNat:Nat))⟩
theorem fn__law_by_turns (T:Txt K mg) {f:Addr} {fd:FuncData} (F:Fun K "_law_by_turns" "_law_by_turns" s__law_by_turns f fd):FnOk P w K mg base CX0 2 f fd ["pits", "seeds"] (spF K 2 .P W0 pm__law_by_turns.fn):=by
  have G__law_ways:=okOf (P:=P) (w:=w) (base:=base) T.d__law_ways bd__law_ways (fun F=>fn__law_ways T F)
  refine F.okP sc__law_by_turns rfl rfl (fun cdv A outer s H E hr=>?_)
  have hu:=hr.units
  refine ⟨_,_,⟨[],[],[],.P⟩,rfl,(pss_cons (ps_set (i:=2) sc__law_by_turns.nd rfl (by first | exact Or.inl rfl | exact Or.inr rfl) pe_dnewK)
      (pss_cons (ps_set (i:=3) sc__law_by_turns.nd rfl (by first | exact Or.inl rfl | exact Or.inr rfl) pe_int)
      (pss_cons (ps_for PassesOwn.never rfl (pi_range2 rfl T.z_range (pa_cons pe_int (pa_cons (pe_op op_add (pv 0) pe_int) pa_nil))) (pg_name (i:=4) sc__law_by_turns.nd rfl (by first | exact Or.inl rfl | exact Or.inr rfl)) (pss_one (ps_if (PW.pt (pw_and (pt_cmpR (op_eqD (K:=K) hu) (pe_op op_mod (pv 0) (pv 4)) pe_int (nomark _)) (pw_and1 (pt_cmpR (op_eqD (K:=K) hu) (pe_op op_mod (pe_op op_mulB (pv 1) (pv 4)) (pv 0)) pe_int (nomark _))))) (pss_cons (ps_set (i:=5) sc__law_by_turns.nd rfl (by first | exact Or.inl rfl | exact Or.inr rfl) (pe_callO G__law_ways (hr.mono (by decide)) rfl (pa_cons (pv 4) (pa_cons (pe_op op_fdivB (pe_op op_mulB (pv 1) (pv 4)) (pv 0)) pa_nil))))
      (pss_cons (ps_dput (hu1 hu) (pv 2) (pv 4) (pe_op op_sub (pv 5) (pe_frz (i:=2) (pe_callB (call_sumK (K:=K) rfl) rfl T.z_sum bb_sum (pa_cons (pe_compG (pi_dict (pv 2)) (pb_name sc__law_by_turns.nd) (fun _ _ _ _=>(pc_one (fun _ _ h=>h) (pt_cmpR (op_eqD (K:=K) hu) (pe_op op_mod (pv 4) (pv 6)) pe_int (nomark _)))) (fun _ _ _ _=>(pe_dget (hu1 hu) (pv 2) (pv 6) (fun _ _=>rfl))) hv1 sc__law_by_turns.nd rfl) pa_nil)))) rfl)
      (pss_one (ps_set (i:=3) sc__law_by_turns.nd rfl (by first | exact Or.inl rfl | exact Or.inr rfl) (pe_op op_add (pv 3) (pe_op op_fdivB (pe_dget (hu1 hu) (pv 2) (pv 4) (fun _ _=>rfl)) (pv 4))))))) pss_nil)))
      (pss_one (ps_ret (pv 3)))))),
      (ds_seq (Γm:=[.S,.S,.O,.U,.U,.U]) (ds_setF (i:=2) de_dnewK (by decide))
      (ds_seq (Γm:=[.S,.S,.O,.P,.U,.U]) (ds_setP (i:=3) de_int (by decide))
      (ds_seq (Γm:=[.S,.S,.O,.P,.U,.U]) (ds_for (Γl:=[.S,.S,.O,.P,.U,.U]) (di_rng2 (daa_cons (DE.toA de_int) (daa_cons (DE.toA (de_add (de_varA (i:=0) (m:=.S) rfl (by decide)) (DE.toA de_int))) daa_nil))) rfl (dg_P (i:=4) (by decide))
      (DS.out (Y:=⟨[.S,.S,.O,.P,.P,.U],[.S,.S,.O,.P,.U,.U],[.S,.S,.O,.P,.U,.U],.P⟩) (Y':=⟨[.S,.S,.O,.P,.U,.U],[.S,.S,.O,.P,.U,.U],[.S,.S,.O,.P,.U,.U],.P⟩) (ds_if (dt_and (dt_test (DE.toA (de_eqG (g:=id) (DE.toA (de_mod (de_varA (i:=0) (m:=.S) rfl (by decide)) (DE.toA (de_varP (i:=4) rfl)))) (DE.toA de_int)))) (dt_test (DE.toA (de_eqG (g:=id) (DE.toA (de_mod (DE.toA (de_mul (de_varA (i:=1) (m:=.S) rfl (by decide)) (DE.toA (de_varP (i:=4) rfl)))) (de_varA (i:=0) (m:=.S) rfl (by decide)))) (DE.toA de_int)))))
      (DS.out (Y:=⟨[.S,.S,.O,.P,.P,.P],[.S,.S,.O,.P,.U,.U],[.S,.S,.O,.P,.U,.U],.P⟩) (Y':=⟨[.S,.S,.O,.P,.P,.U],[.S,.S,.O,.P,.U,.U],[.S,.S,.O,.P,.U,.U],.P⟩) (ds_seq (Γm:=[.S,.S,.O,.P,.P,.P]) (ds_setP (i:=5) (dc_P (len_cons (len_cons len_nil)) (daa_cons (DE.toA (de_varP (i:=4) rfl)) (daa_cons (DE.toA (de_div (DE.toA (de_mul (de_varA (i:=1) (m:=.S) rfl (by decide)) (DE.toA (de_varP (i:=4) rfl)))) (de_varA (i:=0) (m:=.S) rfl (by decide)))) daa_nil))) (by decide))
      (ds_seq (Γm:=[.S,.S,.O,.P,.P,.P]) (ds_dputO (i:=2) rfl (DE.PF (de_sub (DE.toA (de_varP (i:=5) rfl)) (DE.toA (de_frz (i:=2) rfl rfl (fun a o kvs=>de_sum (daa_cons (DE.toA (de_compG (k:=1) (di_wiF (i:=2) rfl) db_1 (dt_test (DE.toA (de_eqG (g:=id) (DE.toA (de_mod (DE.toA (de_varP (i:=4) rfl)) (de_varA (i:=6) (m:=.S) rfl (by decide)))) (DE.toA de_int)))) (DE.PF (DE.grd (de_dget (de_varA (i:=2) (m:=.S) rfl (by decide)) (de_varA (i:=6) (m:=.S) rfl (by decide))))))) daa_nil)) (fun a o kvs σ H Q h1 h2 h=>⟨.ref a,h1,a,o,kvs,rfl,h2,h h1 h2⟩))))) (DE.toA (de_varP (i:=4) rfl)))
      (ds_setP (i:=3) (de_add (DE.toA (de_varP (i:=3) rfl)) (DE.toA (de_div (de_dget (de_varA (i:=2) (m:=.O) rfl (by decide)) (DE.toA (de_varP (i:=4) rfl))) (DE.toA (de_varP (i:=4) rfl))))) (by decide)))) rfl rfl rfl rfl)
      ds_next) rfl rfl rfl rfl))
      (ds_retP (de_varP (i:=3) rfl))))), ?_⟩
  refine Pm.ref pm__law_by_turns (g:=fun xs=>_) ?_
  rintro ⟨p',s'⟩ ⟨⟨p0,p1⟩,s0,s1⟩
  simp only at p0 p1 s0 s1
  obtain ⟨p,rfl⟩:=Int.eq_ofNat_of_zero_le (show 0≤p' by omega)
  obtain ⟨s,rfl⟩:=Int.eq_ofNat_of_zero_le s0
  simp only [pm__law_by_turns,Int.toNat_natCast]
  walk_at "pd"
  generalize hw:forR _ _ _=W
  obtain ⟨ρ',rfl,v1,v2,rfl⟩:=forR_inv' hw (fun i ρ=>∃ v1 v2,ρ=[.int p,.int s,ownD p s (tK p s i),.int ((sumT (i + 1) fun e=>if e ∣ p then primR p s e / e else 0:Nat):Int),v1,v2]) ⟨.non,.non,by
      have:¬ (0 ∣ p):=fun z=>by have:=Nat.eq_zero_of_zero_dvd z; omega
      simp [sumT,this,tK,ownD,kI]⟩ (by
    rintro i x ρ hx ⟨v1,v2,rfl⟩
    obtain ⟨hi,rfl⟩:=rngP_get hx
    have hip:i + 1≤p:=by omega
    rw [show (1:Int) + (i:Nat)=((i + 1:Nat):Int) by omega]
    have hts:sumT (i + 1 + 1) (fun e=>if e ∣ p then primR p s e / e else 0)=sumT (i + 1) (fun e=>if e ∣ p then primR p s e / e else 0) + if i + 1 ∣ p then primR p s (i + 1) / (i + 1) else 0:=rfl
    have hks:=tK_succ (p:=p) (s:=s) i
    have hlen:=tK_len (p:=p) (s:=s) i
    walk_at "pd"
    rw [← Int.natCast_emod]
    by_cases h1:i + 1 ∣ p
    · rw [show decide (((p % (i + 1):Nat):Int)=0)=true from decide_eq_true (by rw [Nat.mod_eq_zero_of_dvd h1]; rfl)]
      walk_at "pd"
      by_cases h2:admR p s (i + 1)
      · have h2':s * (i + 1) % p=0:=Nat.mod_eq_zero_of_dvd h2
        have bd:=mul_le60 (s:=s) (t:=((i + 1:Nat):Int)) (p:=p) s0 s1 (by omega) (by omega) (by omega)
        have em:((s:Int) * ((i + 1:Nat):Int) % (p:Int))=((s * (i + 1) % p:Nat):Int):=by rw [Int.natCast_emod,Int.natCast_mul]
        have ed:((s:Int) * ((i + 1:Nat):Int) / (p:Int))=((s * (i + 1) / p:Nat):Int):=by rw [Int.natCast_ediv,Int.natCast_mul]
        rw [if_pos h1] at hts
        rw [if_pos ⟨h1,h2⟩] at hks
        rw [hts,hks]
        have hst:=fix_step (p:=p) (s:=s) (by omega) h1
        rw [em,h2',decide_eq_true (show ((0:Nat):Int)=0 from rfl)]
        walk_at "pd"
        rw [ed] at bd ⊢
        rw [c__law_ways ⟨⟨by omega,by omega⟩,by omega,by omega⟩,fix_cb (by omega) h2]
        generalize sumT (i + 1) (fun e=>if e ∣ p then primR p s e / e else 0)=TT
        have hmem:∀ t∈tK p s i,1≤t∧t≤i:=fun t ht=>(mem_tK.mp ht).1
        generalize tK p s i=L at *
        walk_at "pd"
        rw [asDk_own]
        walk_at "pd"
        rw [filR_q (q:=fun t:Nat=>PV.int ((t:Nat):Int)) (p:=fun e=>decide (e ∣ i + 1)) (g:=fun e=>PV.int ((primR p s e:Nat):Int)) (fun e he=>by
          have e1:=hmem e he
          walk_at "pd"
          rw [← Int.natCast_emod]
          by_cases hd:e ∣ i + 1
          · rw [decide_eq_true hd,show decide ((((i + 1) % e:Nat):Int)=0)=true from decide_eq_true (by rw [Nat.mod_eq_zero_of_dvd hd]; rfl)]
            walk_at "pd"
            rw [get_own he]
            walk_at "pd"
          · have hd':(i + 1) % e≠0:=fun z=>hd (Nat.dvd_of_mod_eq_zero z)
            rw [decide_eq_false hd,show decide ((((i + 1) % e:Nat):Int)=0)=false from decide_eq_false (by omega)]
            walk_at "pd")]
        rw [show ((L.filter fun e=>decide (e ∣ i + 1)).map fun e=>PV.int ((primR p s e:Nat):Int))=((L.filter fun e=>decide (e ∣ i + 1)).map fun e=>((primR p s e:Nat):Int)).map PV.int by rw [List.map_map]; rfl]
        walk_at "pd"
        rw [sum_castN]
        rw [show intOnly (PV.int ((((L.filter fun e=>decide (e ∣ i + 1)).map (primR p s)).sum:Nat):Int))=.ok (PV.int ((((L.filter fun e=>decide (e ∣ i + 1)).map (primR p s)).sum:Nat):Int)) from rfl]
        walk_at "pd"
        rw [show ((fixR p s (i + 1):Nat):Int) - ((((L.filter fun e=>decide (e ∣ i + 1)).map (primR p s)).sum:Nat):Int)=((primR p s (i + 1):Nat):Int) by rw [hst]; omega]
        rw [put_own (fun z=>by have:=hmem _ z; omega) (by omega)]
        walk_at "pd"
        rw [get_own (by simp)]
        walk_at "pd"
        rw [← Int.natCast_ediv,← Int.natCast_add]
        exact nextI ⟨_,_,rfl⟩
      · have h2':s * (i + 1) % p≠0:=fun z=>h2 (Nat.dvd_of_mod_eq_zero z)
        have em:((s:Int) * ((i + 1:Nat):Int) % (p:Int))=((s * (i + 1) % p:Nat):Int):=by rw [Int.natCast_emod,Int.natCast_mul]
        rw [em,decide_eq_false (show ¬ ((s * (i + 1) % p:Nat):Int)=0 from fun z=>h2' (by omega))]
        walk_at "pd"
        rw [if_pos h1,show primR p s (i + 1)=0 from if_neg h2,Nat.zero_div,Nat.add_zero] at hts
        rw [if_neg fun z=>h2 z.2,List.append_nil] at hks
        rw [hts,hks]
        exact nextI ⟨_,_,rfl⟩
    · have h1':p % (i + 1)≠0:=fun z=>h1 (Nat.dvd_of_mod_eq_zero z)
      rw [show decide (((p % (i + 1):Nat):Int)=0)=false from decide_eq_false (by omega)]
      walk_at "pd"
      rw [if_neg h1] at hts
      rw [if_neg fun z=>h1 z.1,List.append_nil] at hks
      rw [hts,hks]
      exact nextI ⟨_,_,rfl⟩)
  walk_at "pd"
  rw [rngP_length,show ((p:Int) + 1 - 1).toNat=p by omega]
  rfl
theorem c__law_by_turns {p s:Int} (h:(2≤p∧p≤24)∧0≤s∧s≤10 ^ 60):pm__law_by_turns.fn [.int p,.int s]=.ok (.int (byT p.toNat s.toNat:Nat)):=Pm.fn_eq pm__law_by_turns (p,s) h fun (a:Int × Int) e=>by (simp only [pm__law_by_turns,List.cons.injEq,PV.lst.injEq,PV.int.injEq,PV.str.injEq,PV.bl.injEq,PV.tup.injEq,ints_iff,and_true] at e ⊢; first | (simp only [e]; done) | (subst e; rfl) | (rw [e]))
theorem kept_fix {p s k:Nat} (hp:0 < p):keptN (p:Int) (s:Int) (k:Int)=((fixR p s (Nat.gcd p k):Nat):Int):=by
  have g0:0 < Nat.gcd p k:=Nat.gcd_pos_of_pos_left _ hp
  have hg:gcdF (p:Int) (k:Int)=((Nat.gcd p k:Nat):Int):=by unfold gcdF; rw [Int.toNat_natCast,Int.toNat_natCast]
  have hd:Nat.gcd p k ∣ p:=Nat.gcd_dvd_left _ _
  unfold keptN
  rw [hg]
  generalize Nat.gcd p k=d at g0 hd
  obtain ⟨m,rfl⟩:=hd
  have hm:0 < m:=by
    rcases Nat.eq_zero_or_pos m with z | z
    · rw [z] at hp; simp at hp
    · exact z
  rw [← Int.natCast_ediv,Nat.mul_div_cancel_left _ g0,← Int.natCast_emod]
  have ha:admR (d * m) s d ↔ s % m=0:=by
    unfold admR
    rw [Nat.mul_comm s d]
    exact ⟨fun z=>Nat.mod_eq_zero_of_dvd (Nat.dvd_of_mul_dvd_mul_left g0 z),fun z=>Nat.mul_dvd_mul_left d (Nat.dvd_of_mod_eq_zero z)⟩
  by_cases h:s % m=0
  · rw [if_pos (by omega)]
    have:=fix_cb (p:=d * m) (s:=s) (t:=d) g0 (ha.mpr h)
    rw [Nat.mul_comm s d,Nat.mul_div_mul_left _ _ g0] at this
    rw [← Int.natCast_ediv]
    exact this
  · rw [if_neg (by omega)]
    unfold fixR
    rw [if_neg fun z=>h (ha.mp z)]
    rfl
theorem ring_is {p s:Nat} (hp:0 < p):ringN (p:Int) (s:Int)=((byT p s:Nat):Int):=by
  unfold ringN
  rw [Int.toNat_natCast]
  have h1:((List.range p).map fun (k:Nat)=>keptN (p:Int) (s:Int) k)=(List.range p).map fun (k:Nat)=>((fixR p s (Nat.gcd p k):Nat):Int):=List.map_congr_left fun k _=>kept_fix hp
  rw [h1,sum_castN (fun k=>fixR p s (Nat.gcd p k)),sumT_list,ring_by hp,Int.natCast_mul,Int.mul_ediv_cancel_left _ (by omega)]
noncomputable def pm__law_great:Pm:=⟨Int,fun a=>[.int a],fun _=>True,fun _=>.ok (.bl true)⟩
theorem fn__law_great (T:Txt K mg) {f:Addr} {fd:FuncData} (F:Fun K "_law_great" "_law_great" s__law_great f fd):FnOk P w K mg base CX0 6 f fd ["cell"] (spF K 1 .P W0 pm__law_great.fn):=by
  have G_ring_count:=okOfX (P:=P) (w:=w) (base:=base) T.d_ring_count bd_ring_count (fun F=>fn_ring_count T F)
  have G__law_whole:=okOf (P:=P) (w:=w) (base:=base) T.d__law_whole bd__law_whole (fun F=>fn__law_whole T F)
  have G__law_by_turns:=okOf (P:=P) (w:=w) (base:=base) T.d__law_by_turns bd__law_by_turns (fun F=>fn__law_by_turns T F)
  refine F.okP sc__law_great rfl rfl (fun cdv A outer s H E hr=>?_)
  have hu:=hr.units
  refine ⟨_,_,⟨[],[],[],.P⟩,rfl,(pss_cons (ps_set (i:=1) sc__law_great.nd rfl (by first | exact Or.inl rfl | exact Or.inr rfl) (pe_op op_add pe_int (pe_op op_mod (pv 0) pe_int)))
      (pss_cons (ps_set (i:=2) sc__law_great.nd rfl (by first | exact Or.inl rfl | exact Or.inr rfl) (pe_op op_mod (pe_op op_fdivB (pv 0) pe_int) (pe_op op_add (pe_op op_pow pe_int pe_int) pe_int)))
      (pss_cons (ps_if (pt_cmpR op_lt (pe_op op_mod (pe_op op_fdivB (pv 0) pe_int) pe_int) pe_int (nomark _)) (pss_one (ps_set (i:=2) sc__law_great.nd rfl (by first | exact Or.inl rfl | exact Or.inr rfl) (pe_op op_mulB (pe_op op_fdivB (pv 2) (pv 1)) (pv 1)))) pss_nil)
      (pss_cons (ps_if (pt_cmpR (op_eqD (K:=K) hu) (pe_op op_mod (pe_op op_fdivB (pv 0) pe_int) pe_int) pe_int (nomark _)) (pss_one (ps_set (i:=2) sc__law_great.nd rfl (by first | exact Or.inl rfl | exact Or.inr rfl) (pe_op op_mulB (pe_op op_fdivB (pv 2) pe_int) pe_int))) pss_nil)
      (pss_cons (ps_set (i:=3) sc__law_great.nd rfl (by first | exact Or.inl rfl | exact Or.inr rfl) (pe_callX G_ring_count (hr.mono (by decide)) rfl pass_E0 (pa_cons (pv 1) (pa_cons (pv 2) pa_nil))))
      (pss_one (ps_ret (pe_and (pe_callO G__law_whole (hr.mono (by decide)) rfl (pa_cons (pv 3) pa_nil)) (pe_one (pe_cmpR (op_eqD (K:=K) hu) (pv 3) (pe_callO G__law_by_turns (hr.mono (by decide)) rfl (pa_cons (pv 1) (pa_cons (pv 2) pa_nil))) (nomark _))))))))))),
      (ds_seq (Γm:=[.S,.P,.U,.U]) (ds_setP (i:=1) (de_add (DE.toA de_int) (DE.toA (de_mod (de_varA (i:=0) (m:=.S) rfl (by decide)) (DE.toA de_int)))) (by decide))
      (ds_seq (Γm:=[.S,.P,.P,.U]) (ds_setP (i:=2) (de_mod (DE.toA (de_div (de_varA (i:=0) (m:=.S) rfl (by decide)) (DE.toA de_int))) (DE.toA (de_add (DE.toA (de_pow (DE.toA de_int) (DE.toA de_int))) (DE.toA de_int)))) (by decide))
      (ds_seq (Γm:=[.S,.P,.P,.U]) (ds_if (dt_test (DE.toA (de_lt (DE.toA (de_mod (DE.toA (de_div (de_varA (i:=0) (m:=.S) rfl (by decide)) (DE.toA de_int))) (DE.toA de_int))) (DE.toA de_int))))
      (ds_setP (i:=2) (de_mul (DE.toA (de_div (DE.toA (de_varP (i:=2) rfl)) (DE.toA (de_varP (i:=1) rfl)))) (DE.toA (de_varP (i:=1) rfl))) (by decide))
      ds_next)
      (ds_seq (Γm:=[.S,.P,.P,.U]) (ds_if (dt_test (DE.toA (de_eqG (g:=id) (DE.toA (de_mod (DE.toA (de_div (de_varA (i:=0) (m:=.S) rfl (by decide)) (DE.toA de_int))) (DE.toA de_int))) (DE.toA de_int))))
      (ds_setP (i:=2) (de_mul (DE.toA (de_div (DE.toA (de_varP (i:=2) rfl)) (DE.toA de_int))) (DE.toA de_int)) (by decide))
      ds_next)
      (ds_seq (Γm:=[.S,.P,.P,.P]) (ds_setP (i:=3) (dz_P (len_cons (len_cons len_nil)) (daa_cons (DE.toA (de_varP (i:=1) rfl)) (daa_cons (DE.toA (de_varP (i:=2) rfl)) daa_nil))) (by decide))
      (ds_retP (de_and (DE.toA (dc_P (len_cons len_nil) (daa_cons (DE.toA (de_varP (i:=3) rfl)) daa_nil))) (de_eqG (g:=id) (DE.toA (de_varP (i:=3) rfl)) (DE.toA (dc_P (len_cons (len_cons len_nil)) (daa_cons (DE.toA (de_varP (i:=1) rfl)) (daa_cons (DE.toA (de_varP (i:=2) rfl)) daa_nil)))))))))))), ?_⟩
  refine Pm.ref pm__law_great (g:=fun xs=>_) ?_
  rintro (c:Int) -
  simp only [pm__law_great]
  have m0:=Int.emod_nonneg (c / 23) (show ((10:Int) ^ 60 + 1)≠0 by decide)
  have m1:=Int.emod_lt_of_pos (c / 23) (show (0:Int) < 10 ^ 60 + 1 by decide)
  walk_at "pd"
  have hP:2≤2 + c % 23∧2 + c % 23≤24:=by omega
  generalize 2 + c % 23=P at hP
  generalize c / 23 % (10 ^ 60 + 1)=S0 at m0 m1
  generalize hT:(fun (ρ:List PV)=>RS.seq _ _)=TAIL
  have tail:∀ S:Int,0≤S→S≤10 ^ 60→TAIL [.int c,.int P,.int S,.non]=.ret (.bl true):=by
    intro S h0 h1
    subst hT
    walk_at "pd"
    generalize hT2:(fun (ρ:List PV)=>RS.seq _ _)=TAIL2
    have tail2:∀ S:Int,0≤S→S≤10 ^ 60→TAIL2 [.int c,.int P,.int S,.non]=.ret (.bl true):=by
      intro S h0 h1
      subst hT2
      obtain ⟨p,rfl⟩:=Int.eq_ofNat_of_zero_le (show 0≤P by omega)
      obtain ⟨s,rfl⟩:=Int.eq_ofNat_of_zero_le h0
      walk_at "pd"
      rw [c_ring_count,szX_none.mpr ⟨⟨by omega,by omega⟩,by omega,by omega⟩]
      walk_at "pd"
      rw [c__law_whole]
      walk_at "pd"
      rw [c__law_by_turns ⟨⟨by omega,by omega⟩,by omega,by omega⟩,Int.toNat_natCast,Int.toNat_natCast,ring_is (by omega)]
      walk_at "pd"
    by_cases h:c / 3 % 5=2
    · rw [decide_eq_true h]
      walk_at "pd"
      exact tail2 _ (by omega) (by omega)
    · rw [decide_eq_false h]
      walk_at "pd"
      exact tail2 _ h0 h1
  by_cases h:c / 3 % 5 < 2
  · have q0:=Int.ediv_nonneg m0 (show 0≤P by omega)
    have q1:=Int.ediv_le_self P m0
    have q2:=Int.ediv_mul_le S0 (show P≠0 by omega)
    have q3:=Int.mul_nonneg q0 (show 0≤P by omega)
    generalize S0 / P=q at q0 q1 q2 q3
    rw [decide_eq_true h]
    walk_at "pd"
    rw [tail _ q3 (by omega)]
    walk_at "pd"
  · rw [decide_eq_false h]
    walk_at "pd"
    rw [tail _ m0 (by omega)]
    walk_at "pd"
theorem c__law_great {c:Int}:pm__law_great.fn [.int c]=.ok (.bl true):=Pm.fn_eq pm__law_great c trivial fun _ _=>rfl
noncomputable def moreB (s:Int) (b:List Int):List (List Int):=(List.range (s - b.sum + 1).toNat).map fun (h:Nat)=>b ++ [(h:Int)]
noncomputable def stB (s:Int):Nat→List (List Int)
  | 0=>[[]]
  | k + 1=>(stB s k).flatMap (moreB s)
noncomputable def allI (p s:Int):List (List Int):=(stB s (p - 1).toNat).map fun b=>b ++ [s - b.sum]
noncomputable def lstI (b:List Int):PV:=.lst (b.map PV.int)
theorem stB_ok {s:Int} (h0:0≤s):∀ k,∀ b∈stB s k,b.length=k∧0≤b.sum∧b.sum≤s
  | 0,b,h=>by rw [List.mem_singleton.mp h]; exact ⟨rfl,Int.le_refl _,h0⟩
  | k + 1,b,h=>by
    obtain ⟨a,ha,hb⟩:=List.mem_flatMap.mp h
    obtain ⟨j,hj,rfl⟩:=List.mem_map.mp hb
    have hj:=List.mem_range.mp hj
    obtain ⟨h1,h2,h3⟩:=stB_ok h0 k a ha
    simp only [List.length_append,List.length_singleton,List.sum_append,List.sum_singleton]
    exact ⟨by omega,by omega,by omega⟩
theorem flat_len {α β:Type} {f:α→List β} {m:Nat}:∀ {l:List α},(∀ a∈l,(f a).length≤m)→(l.flatMap f).length≤l.length * m
  | [],_=>by simp
  | a :: l,h=>by
    rw [List.flatMap_cons,List.length_append,List.length_cons,Nat.succ_mul]
    have h1:=h a (by simp)
    have h2:=flat_len (l:=l) fun b hb=>h b (by simp [hb])
    omega
theorem stB_len {s:Int} (h0:0≤s) (h1:s≤11):∀ k,(stB s k).length≤12 ^ k
  | 0=>by simp [stB]
  | k + 1=>by
    have h2:=flat_len (l:=stB s k) (f:=moreB s) (m:=12) fun b hb=>by
      have:=stB_ok h0 k b hb
      simp only [moreB,List.length_map,List.length_range]; omega
    have h3:=stB_len h0 h1 k
    rw [Nat.pow_succ]
    exact Nat.le_trans h2 (Nat.mul_le_mul_right 12 h3)
noncomputable def pm__law_boards:Pm:=⟨Int × Int,fun a=>[.int a.1,.int a.2],fun a=>(2≤a.1∧a.1≤6)∧0≤a.2∧a.2≤11,fun a=>.ok (.lst ((allI a.1 a.2).map lstI))⟩
theorem fn__law_boards (T:Txt K mg) {f:Addr} {fd:FuncData} (F:Fun K "_law_boards" "_law_boards" s__law_boards f fd):FnOk P w K mg base CX0 1 f fd ["pits", "seeds"] (spF K 2 .F W0 pm__law_boards.fn):=by
  refine F.okP sc__law_boards rfl rfl (fun cdv A outer s H E hr=>?_)
  have hu:=hr.units
  refine ⟨_,_,⟨[],[],[],.F⟩,rfl,(pss_cons (ps_set (i:=2) sc__law_boards.nd rfl (by first | exact Or.inl rfl | exact Or.inr rfl) (pe_lst (pa_cons (pe_lst pa_nil) pa_nil)))
      (pss_cons (ps_for PassesOwn.never rfl (pi_range1 rfl T.z_range (pa_cons (pe_op op_sub (pv 0) pe_int) pa_nil)) (pg_name (i:=3) sc__law_boards.nd rfl (by first | exact Or.inl rfl | exact Or.inr rfl)) (pss_cons (ps_set (i:=4) sc__law_boards.nd rfl (by first | exact Or.inl rfl | exact Or.inr rfl) (pe_lst pa_nil))
      (pss_cons (ps_for PassesOwn.never rfl (pi_listK (K:=K) (pv 2)) (pg_name (i:=5) sc__law_boards.nd rfl (by first | exact Or.inl rfl | exact Or.inr rfl)) (pss_one (ps_expr (pe_bm PySem.F.plainAttrs_list PySem.F.slot_list_extend PySem.F.type_list_extend mt_extend (pv 4) (pa_cons (pe_comp (pi_range1 rfl T.z_range (pa_cons (pe_op op_add (pe_op op_sub (pv 1) (pe_callB (call_sumK (K:=K) rfl) rfl T.z_sum bb_sum (pa_cons (pv 5) pa_nil))) pe_int) pa_nil)) (fun _ _ _ _=>(pe_op (op_catK (K:=K)) (pv 5) (pe_lst (pa_cons (pv 6) pa_nil)))) sc__law_boards.nd rfl) pa_nil)))))
      (pss_one (ps_set (i:=2) sc__law_boards.nd rfl (by first | exact Or.inl rfl | exact Or.inr rfl) (pv 4))))))
      (pss_one (ps_ret (pe_compG (pi_listK (K:=K) (pv 2)) (pb_name sc__law_boards.nd) (fun _ _ _ _=>pc_nil) (fun _ _ _ _=>(pe_op (op_catK (K:=K)) (pv 6) (pe_lst (pa_cons (pe_op op_sub (pv 1) (pe_callB (call_sumK (K:=K) rfl) rfl T.z_sum bb_sum (pa_cons (pv 6) pa_nil))) pa_nil)))) hv1 sc__law_boards.nd rfl))))),
      (ds_seq (Γm:=[.S,.S,.O,.U,.U,.U]) (ds_setF (i:=2) (de_lstF (daf_cons (de_lstF daf_nil) daf_nil)) (by decide))
      (ds_seq (Γm:=[.S,.S,.O,.U,.U,.U]) (ds_for (Γl:=[.S,.S,.O,.U,.U,.U]) (di_rng1 (daa_cons (DE.toA (de_sub (de_varA (i:=0) (m:=.S) rfl (by decide)) (DE.toA de_int))) daa_nil)) rfl (dg_P (i:=3) (by decide))
      (DS.out (Y:=⟨[.S,.S,.O,.P,.U,.U],[.S,.S,.O,.U,.U,.U],[.S,.S,.O,.U,.U,.U],.F⟩) (Y':=⟨[.S,.S,.O,.U,.U,.U],[.S,.S,.O,.U,.U,.U],[.S,.S,.O,.U,.U,.U],.F⟩) (ds_seq (Γm:=[.S,.S,.O,.P,.O,.U]) (ds_setF (i:=4) (de_lstF daf_nil) (by decide))
      (ds_seq (Γm:=[.S,.S,.S,.P,.O,.U]) (ds_for (Γl:=[.S,.S,.S,.P,.O,.U]) (di_list (de_varS (i:=2) (m:=.O) rfl (by decide))) rfl (dg_S (i:=5) (by decide))
      (DS.out (Y:=⟨[.S,.S,.S,.P,.O,.S],[.S,.S,.S,.P,.O,.U],[.S,.S,.S,.P,.O,.U],.F⟩) (Y':=⟨[.S,.S,.S,.P,.O,.U],[.S,.S,.S,.P,.O,.U],[.S,.S,.S,.P,.O,.U],.F⟩) (ds_extO (i:=4) rfl rfl (de_compF (DI.c (di_rng1 (daa_cons (DE.toA (de_add (DE.toA (de_sub (de_varA (i:=1) (m:=.S) rfl (by decide)) (DE.toA (de_sum (daa_cons (de_varA (i:=5) (m:=.S) rfl (by decide)) daa_nil))))) (DE.toA de_int))) daa_nil))) (de_catF (de_varA (i:=5) (m:=.S) rfl (by decide)) (DE.toA (de_lstF (daf_cons (DE.PF (DE.grd (de_varA (i:=6) (m:=.S) rfl (by decide)))) daf_nil)))))) rfl rfl rfl rfl))
      (ds_setF (i:=2) (de_varM (i:=4) rfl) (by decide)))) rfl rfl rfl rfl))
      (ds_retF (de_compG (k:=1) (DI.c (di_list (de_varS (i:=2) (m:=.O) rfl (by decide)))) db_1 dt_yes (de_catF (de_varA (i:=6) (m:=.S) rfl (by decide)) (DE.toA (de_lstF (daf_cons (DE.PF (de_sub (de_varA (i:=1) (m:=.S) rfl (by decide)) (DE.toA (de_sum (daa_cons (de_varA (i:=6) (m:=.S) rfl (by decide)) daa_nil))))) daf_nil)))))))), ?_⟩
  refine Pm.ref pm__law_boards (g:=fun xs=>_) ?_
  rintro ⟨p,s⟩ ⟨⟨p0,p1⟩,s0,s1⟩
  simp only at p0 p1 s0 s1
  simp only [pm__law_boards]
  walk_at "pd"
  have L5:∀ k,k≤5→(stB s k).length≤248832:=fun k hk=>Nat.le_trans (stB_len s0 s1 k) (Nat.le_trans (Nat.pow_le_pow_right (by decide) hk) (by decide))
  generalize hw:forR _ _ _=W
  obtain ⟨ρ',rfl,v3,v4,v5,rfl⟩:=forR_inv' hw (fun i ρ=>∃ v3 v4 v5,ρ=[.int p,.int s,.lst ((stB s i).map lstI),v3,v4,v5]) ⟨_,_,_,rfl⟩ (by
    rintro i x ρ hx ⟨v3,v4,v5,rfl⟩
    obtain ⟨hi,rfl⟩:=rngP_get hx
    have ok:=stB_ok s0 i
    have l1:=L5 i (by omega)
    have l2:=L5 (i + 1) (by omega)
    have hst:stB s (i + 1)=(stB s i).flatMap (moreB s):=rfl
    rw [hst] at l2 ⊢
    generalize stB s i=bs at ok l1 l2
    walk_at "pd"
    generalize hw2:forR _ _ _=W2
    obtain ⟨ρ2,rfl,v,rfl⟩:=forR_inv' hw2 (fun j ρ=>∃ v,ρ=[.int p,.int s,.lst (bs.map lstI),.int (0 + (i:Nat)),.lst (((bs.take j).flatMap (moreB s)).map lstI),v]) ⟨_,rfl⟩ (by
      rintro j y ρ hy ⟨v,rfl⟩
      rw [List.getElem?_map] at hy
      obtain ⟨b,hb,rfl⟩:=Option.map_eq_some_iff.mp hy
      have hj:=(List.getElem?_eq_some_iff.mp hb).1
      have hbm:b∈bs:=List.mem_of_getElem? hb
      obtain ⟨o1,o2,o3⟩:=ok b hbm
      have ht:bs.take (j + 1)=bs.take j ++ [b]:=by rw [List.take_succ,hb]; rfl
      have hfl:((bs.take (j + 1)).flatMap (moreB s)).length≤(bs.flatMap (moreB s)).length:=by
        conv=>rhs; rw [← List.take_append_drop (j + 1) bs]
        rw [List.flatMap_append,List.length_append]; omega
      rw [ht,List.flatMap_append,List.length_append] at hfl
      rw [ht,List.flatMap_append]
      rw [show [b].flatMap (moreB s)=moreB s b by simp] at hfl ⊢
      generalize (bs.take j).flatMap (moreB s)=A at hfl
      have hll:(b.map PV.int).length < 100:=by rw [List.length_map]; omega
      unfold lstI
      walk_at "pd"
      rw [mapR_ok (g:=fun x=>match x with | .int h=>PV.lst ((b ++ [h]).map PV.int) | _=>.non) (fun x hx=>by
        obtain ⟨h,hh⟩:=List.getElem?_of_mem hx
        obtain ⟨_,rfl⟩:=rngP_get hh
        walk_at "pd")]
      walk_at "pd"
      have em:((rngP 0 (s - b.sum + 1).toNat).map fun x=>match x with | .int h=>PV.lst ((b ++ [h]).map PV.int) | _=>.non)=(moreB s b).map fun b=>PV.lst (b.map PV.int):=by
        unfold rngP moreB
        rw [List.map_map,List.map_map]
        refine List.map_congr_left fun h _=>?_
        simp
      rw [em,pExt_ok (by rw [List.length_map,List.length_map]; omega),← List.map_append]
      walk_at "pd"
      exact nextI ⟨_,rfl⟩)
    rw [List.length_map,List.take_length]
    walk_at "pd"
    exact nextI ⟨_,_,_,rfl⟩)
  rw [rngP_length]
  have ok:=stB_ok s0 (p - 1).toNat
  have l1:=L5 (p - 1).toNat (by omega)
  unfold allI
  generalize stB s (p - 1).toNat=bs at ok l1
  walk_at "pd"
  rw [filR_q (q:=lstI) (p:=fun _=>true) (g:=fun b=>lstI (b ++ [s - b.sum])) (fun b hb=>by
    obtain ⟨o1,o2,o3⟩:=ok b hb
    unfold lstI
    walk_at "pd")]
  walk_at "pd"
  rw [List.map_map,List.filter_eq_self.mpr (fun _ _=>rfl)]
  rfl
theorem c__law_boards {p s:Int} (h:(2≤p∧p≤6)∧0≤s∧s≤11):pm__law_boards.fn [.int p,.int s]=.ok (.lst ((allI p s).map lstI)):=Pm.fn_eq pm__law_boards (p,s) h fun (a:Int × Int) e=>by (simp only [pm__law_boards,List.cons.injEq,PV.lst.injEq,PV.int.injEq,PV.str.injEq,PV.bl.injEq,PV.tup.injEq,ints_iff,and_true] at e ⊢; first | (simp only [e]; done) | (subst e; rfl) | (rw [e]))
theorem allI_ok {p s:Int} (hp:1≤p) (h0:0≤s):∀ b∈allI p s,b.length=p.toNat:=fun b hb=>by
  obtain ⟨a,ha,rfl⟩:=List.mem_map.mp hb
  have:=(stB_ok h0 _ a ha).1
  rw [List.length_append,List.length_singleton,this]; omega
noncomputable def ringI (p s:Int):Nat:=(allI p s).countP fun b=>leastB b p.toNat
noncomputable def pm__law_rings:Pm:=⟨Int × Int,fun a=>[.int a.1,.int a.2],fun a=>(2≤a.1∧a.1≤6)∧0≤a.2∧a.2≤11,fun a=>.ok (.int (ringI a.1 a.2:Nat))⟩
theorem fn__law_rings (T:Txt K mg) {f:Addr} {fd:FuncData} (F:Fun K "_law_rings" "_law_rings" s__law_rings f fd):FnOk P w K mg base CX0 2 f fd ["pits", "seeds"] (spF K 2 .P W0 pm__law_rings.fn):=by
  have G__law_boards:=okOf (P:=P) (w:=w) (base:=base) T.d__law_boards bd__law_boards (fun F=>fn__law_boards T F)
  refine F.okP sc__law_rings rfl rfl (fun cdv A outer s H E hr=>?_)
  have hu:=hr.units
  refine ⟨_,_,⟨[],[],[],.P⟩,rfl,(pss_cons (ps_set (i:=2) sc__law_rings.nd rfl (by first | exact Or.inl rfl | exact Or.inr rfl) pe_int)
      (pss_cons (ps_for PassesOwn.never rfl (pi_listK (K:=K) (pe_callO G__law_boards (hr.mono (by decide)) rfl (pa_cons (pv 0) (pa_cons (pv 1) pa_nil)))) (pg_name (i:=3) sc__law_rings.nd rfl (by first | exact Or.inl rfl | exact Or.inr rfl)) (pss_one (ps_if (pt_cmpR (op_eqD (K:=K) hu) (pe_callB (call_minLK (K:=K) hu rfl) rfl T.z_min bb_min (pa_cons (pe_comp (pi_range1 rfl T.z_range (pa_cons (pv 0) pa_nil)) (fun _ _ _ _=>(pe_op (op_catK (K:=K)) (pe_slice (sl_listK (K:=K)) (pv 3) (po_some (pv 4)) po_none) (pe_slice (sl_listK (K:=K)) (pv 3) po_none (po_some (pv 4))))) sc__law_rings.nd rfl) pa_nil)) (pv 3) (nomark _)) (pss_one (ps_set (i:=2) sc__law_rings.nd rfl (by first | exact Or.inl rfl | exact Or.inr rfl) (pe_op op_add (pv 2) pe_int))) pss_nil)))
      (pss_one (ps_ret (pv 2))))),
      (ds_seq (Γm:=[.S,.S,.P,.U]) (ds_setP (i:=2) de_int (by decide))
      (ds_seq (Γm:=[.S,.S,.P,.U]) (ds_for (Γl:=[.S,.S,.P,.U]) (di_list (DE.FZ (dc_F (len_cons (len_cons len_nil)) (daa_cons (de_varA (i:=0) (m:=.S) rfl (by decide)) (daa_cons (de_varA (i:=1) (m:=.S) rfl (by decide)) daa_nil))))) rfl (dg_S (i:=3) (by decide))
      (DS.out (Y:=⟨[.S,.S,.P,.S],[.S,.S,.P,.U],[.S,.S,.P,.U],.P⟩) (Y':=⟨[.S,.S,.P,.U],[.S,.S,.P,.U],[.S,.S,.P,.U],.P⟩) (ds_if (dt_test (DE.toA (de_eqG (g:=id) (DE.toA (de_minL (de_compF (DI.c (di_rng1 (daa_cons (de_varA (i:=0) (m:=.S) rfl (by decide)) daa_nil))) (de_catF (DE.toA (de_slF (de_varA (i:=3) (m:=.S) rfl (by decide)) (do_some (de_varA (i:=4) (m:=.S) rfl (by decide))) do_none)) (DE.toA (de_slF (de_varA (i:=3) (m:=.S) rfl (by decide)) do_none (do_some (de_varA (i:=4) (m:=.S) rfl (by decide))))))))) (de_varA (i:=3) (m:=.S) rfl (by decide)))))
      (ds_setP (i:=2) (de_add (DE.toA (de_varP (i:=2) rfl)) (DE.toA de_int)) (by decide))
      ds_next) rfl rfl rfl rfl))
      (ds_retP (de_varP (i:=2) rfl)))), ?_⟩
  refine Pm.ref pm__law_rings (g:=fun xs=>_) ?_
  rintro ⟨p,s⟩ ⟨⟨p0,p1⟩,s0,s1⟩
  simp only at p0 p1 s0 s1
  simp only [pm__law_rings]
  walk_at "pd"
  rw [c__law_boards ⟨⟨p0,p1⟩,s0,s1⟩]
  have ok:=allI_ok (p:=p) (by omega) s0
  unfold ringI
  generalize allI p s=bs at ok
  walk_at "pd"
  generalize hw:forR _ _ _=W
  obtain ⟨ρ',rfl,v,rfl⟩:=forR_inv' hw (fun i ρ=>∃ v,ρ=[.int p,.int s,.int (((bs.take i).countP fun b=>leastB b p.toNat:Nat):Int),v]) ⟨_,rfl⟩ (by
    rintro i x ρ hx ⟨v,rfl⟩
    rw [List.getElem?_map] at hx
    obtain ⟨b,hb,rfl⟩:=Option.map_eq_some_iff.mp hx
    have hbm:b∈bs:=List.mem_of_getElem? hb
    have o1:=ok b hbm
    have ht:bs.take (i + 1)=bs.take i ++ [b]:=by rw [List.take_succ,hb]; rfl
    rw [ht,List.countP_append]
    generalize (bs.take i).countP (fun b=>leastB b p.toNat)=C
    unfold lstI
    walk_at "pd"
    rw [mapR_ok (g:=fun x=>match x with | .int h=>PV.lst ((b.drop h.toNat ++ b.take h.toNat).map PV.int) | _=>.non) (fun x hx=>by
      obtain ⟨h,hh⟩:=List.getElem?_of_mem hx
      obtain ⟨h3,rfl⟩:=rngP_get hh
      walk_at "pd")]
    walk_at "pd"
    obtain ⟨t,htm,e⟩:=least_min (m:=b) (n:=p.toNat) (by omega)
    have em:((rngP 0 p.toNat).map fun x=>match x with | .int h=>PV.lst ((b.drop h.toNat ++ b.take h.toNat).map PV.int) | _=>.non)=(rotsL b p.toNat).map lstQ:=by
      unfold rngP rotsL
      rw [List.map_map,List.map_map]
      refine List.map_congr_left fun h _=>?_
      simp [lstQ,rotL]
    rw [em,pMinL_ok htm]
    simp only [lstQ]
    walk_at "pd"
    rw [e]
    cases hB:leastB b p.toNat with
    | true =>
      walk_at "pd"
      rw [show (C:Int) + 1=((C + List.countP (fun b=>leastB b p.toNat) [b]:Nat):Int) by simp [hB]]
      exact nextI ⟨_,rfl⟩
    | false =>
      walk_at "pd"
      rw [show (C:Int)=((C + List.countP (fun b=>leastB b p.toNat) [b]:Nat):Int) by simp [hB]]
      exact nextI ⟨_,rfl⟩)
  rw [List.length_map,List.take_length]
  walk_at "pd"
theorem c__law_rings {p s:Int} (h:(2≤p∧p≤6)∧0≤s∧s≤11):pm__law_rings.fn [.int p,.int s]=.ok (.int (ringI p s:Nat)):=Pm.fn_eq pm__law_rings (p,s) h fun (a:Int × Int) e=>by (simp only [pm__law_rings,List.cons.injEq,PV.lst.injEq,PV.int.injEq,PV.str.injEq,PV.bl.injEq,PV.tup.injEq,ints_iff,and_true] at e ⊢; first | (simp only [e]; done) | (subst e; rfl) | (rw [e]))
noncomputable def mostS (p:Int):Int:=if p=2 then 12 else if p=3 then 9 else if p=4 then 6 else 4
noncomputable def fewOk (p s:Nat):Bool:=decide (ringN (p:Int) (s:Int)=((ringI (p:Int) (s:Int):Nat):Int))
theorem few_all:((List.range 5).all fun j=>(List.range (mostS ((j + 2:Nat):Int)).toNat).all fun s=>fewOk (j + 2) s)=true:=by decide +kernel
theorem few_is {p s:Int} (p0:2≤p) (p1:p≤6) (s0:0≤s) (s1:s < mostS p):ringN p s=((ringI p s:Nat):Int):=by
  have h1:=List.all_eq_true.mp few_all (p - 2).toNat (List.mem_range.mpr (by omega))
  have e1:(((p - 2).toNat + 2:Nat):Int)=p:=by omega
  rw [e1] at h1
  have h2:=List.all_eq_true.mp h1 s.toNat (List.mem_range.mpr (by omega))
  have h3:=of_decide_eq_true h2
  rw [e1,Int.toNat_of_nonneg s0] at h3
  exact h3
noncomputable def pm_law:Pm:=⟨List Int,fun ns=>[.lst (ns.map PV.int)],fun ns=>ns.length≤63,fun _=>.ok (.bl true)⟩
theorem pIx_most {c:Int}:pIx (.lst [.int 12,.int 9,.int 6,.int 4,.int 4]) (.int (2 + c % 5 - 2))=.ok (.int (mostS (2 + c % 5))):=by
  have h:c % 5=0 ∨ c % 5=1 ∨ c % 5=2 ∨ c % 5=3 ∨ c % 5=4:=by omega
  rcases h with h | h | h | h | h <;> rw [h] <;> rfl
theorem most_bd {p:Int}:4≤mostS p∧mostS p≤12:=by
  unfold mostS
  repeat' split
  all_goals omega
theorem fn_law (T:Txt K mg) {f:Addr} {fd:FuncData} (F:Fun K "law" "law" s_law f fd):FnOk P w K mg base CX0 7 f fd ["script"] (spF K 1 .P W0 pm_law.fn):=by
  have G_ring_count:=okOfX (P:=P) (w:=w) (base:=base) T.d_ring_count bd_ring_count (fun F=>fn_ring_count T F)
  have G__law_great:=okOf (P:=P) (w:=w) (base:=base) T.d__law_great bd__law_great (fun F=>fn__law_great T F)
  have G__law_whole:=okOf (P:=P) (w:=w) (base:=base) T.d__law_whole bd__law_whole (fun F=>fn__law_whole T F)
  have G__law_rings:=okOf (P:=P) (w:=w) (base:=base) T.d__law_rings bd__law_rings (fun F=>fn__law_rings T F)
  refine F.okP sc_law rfl rfl (fun cdv A outer s H E hr=>?_)
  have hu:=hr.units
  refine ⟨_,_,⟨[],[],[],.P⟩,rfl,(pss_cons (ps_for PassesOwn.never rfl (pi_listK (K:=K) (pe_slice (sl_listK (K:=K)) (pe_op (op_catK (K:=K)) (pe_lst (pa_cons pe_int pa_nil)) (pv 0)) po_none (po_some pe_int))) (pg_name (i:=1) sc_law.nd rfl (by first | exact Or.inl rfl | exact Or.inr rfl)) (pss_cons (ps_set (i:=2) sc_law.nd rfl (by first | exact Or.inl rfl | exact Or.inr rfl) (pe_op op_add pe_int (pe_op op_mod (pv 1) pe_int)))
      (pss_cons (ps_set (i:=3) sc_law.nd rfl (by first | exact Or.inl rfl | exact Or.inr rfl) (pe_op op_mod (pe_op op_fdivB (pv 1) pe_int) (pe_ix (ix_seqK (K:=K)) (pe_lst (pa_cons pe_int (pa_cons pe_int (pa_cons pe_int (pa_cons pe_int (pa_cons pe_int pa_nil)))))) (pe_op op_sub (pv 2) pe_int) (fun _ _=>rfl))))
      (pss_cons (ps_set (i:=4) sc_law.nd rfl (by first | exact Or.inl rfl | exact Or.inr rfl) (pe_callX G_ring_count (hr.mono (by decide)) rfl pass_E0 (pa_cons (pv 2) (pa_cons (pv 3) pa_nil))))
      (pss_cons (ps_if (PW.pt (pw_or (pt_not (pt_val (pe_callO G__law_whole (hr.mono (by decide)) rfl (pa_cons (pv 4) pa_nil)))) (pw_or1 (pt_cmpR (op_neD (K:=K) hu) (pv 4) (pe_callO G__law_rings (hr.mono (by decide)) rfl (pa_cons (pv 2) (pa_cons (pv 3) pa_nil))) (nomark _))))) (pss_one (ps_ret pe_bl)) pss_nil)
      (pss_one (ps_if (pt_not (pt_val (pe_callO G__law_great (hr.mono (by decide)) rfl (pa_cons (pe_op op_fdivB (pv 1) pe_int) pa_nil)))) (pss_one (ps_ret pe_bl)) pss_nil)))))))
      (pss_one (ps_ret pe_bl))),
      (ds_seq (Γm:=[.S,.U,.U,.U,.U]) (ds_for (Γl:=[.S,.U,.U,.U,.U]) (di_list (DE.FZ (de_slF (DE.toA (de_catF (DE.toA (de_lstF (daf_cons (DE.PF de_int) daf_nil))) (de_varA (i:=0) (m:=.S) rfl (by decide)))) do_none (do_some (DE.toA de_int))))) rfl (dg_P (i:=1) (by decide))
      (DS.out (Y:=⟨[.S,.P,.P,.P,.P],[.S,.U,.U,.U,.U],[.S,.U,.U,.U,.U],.P⟩) (Y':=⟨[.S,.U,.U,.U,.U],[.S,.U,.U,.U,.U],[.S,.U,.U,.U,.U],.P⟩) (ds_seq (Γm:=[.S,.P,.P,.U,.U]) (ds_setP (i:=2) (de_add (DE.toA de_int) (DE.toA (de_mod (DE.toA (de_varP (i:=1) rfl)) (DE.toA de_int)))) (by decide))
      (ds_seq (Γm:=[.S,.P,.P,.P,.U]) (ds_setP (i:=3) (de_mod (DE.toA (de_div (DE.toA (de_varP (i:=1) rfl)) (DE.toA de_int))) (de_ixA (te:=tC .non) (DE.toA (de_lstF (daf_cons (DE.PF de_int) (daf_cons (DE.PF de_int) (daf_cons (DE.PF de_int) (daf_cons (DE.PF de_int) (daf_cons (DE.PF de_int) daf_nil))))))) (DE.toA (de_sub (DE.toA (de_varP (i:=2) rfl)) (DE.toA de_int))))) (by decide))
      (ds_seq (Γm:=[.S,.P,.P,.P,.P]) (ds_setP (i:=4) (dz_P (len_cons (len_cons len_nil)) (daa_cons (DE.toA (de_varP (i:=2) rfl)) (daa_cons (DE.toA (de_varP (i:=3) rfl)) daa_nil))) (by decide))
      (ds_seq (Γm:=[.S,.P,.P,.P,.P]) (ds_if (dt_or (dt_not (dt_b (DE.toA (dc_P (len_cons len_nil) (daa_cons (DE.toA (de_varP (i:=4) rfl)) daa_nil))))) (dt_test (DE.toA (de_eqG (g:=(!·)) (DE.toA (de_varP (i:=4) rfl)) (DE.toA (dc_P (len_cons (len_cons len_nil)) (daa_cons (DE.toA (de_varP (i:=2) rfl)) (daa_cons (DE.toA (de_varP (i:=3) rfl)) daa_nil))))))))
      (ds_retP de_bl)
      ds_next)
      (ds_if (dt_not (dt_b (DE.toA (dc_P (len_cons len_nil) (daa_cons (DE.toA (de_div (DE.toA (de_varP (i:=1) rfl)) (DE.toA de_int))) daa_nil)))))
      (ds_retP de_bl)
      ds_next))))) rfl rfl rfl rfl))
      (ds_retP de_bl)), ?_⟩
  refine Pm.ref pm_law (g:=fun xs=>_) ?_
  intro (ns:List Int) (hn:ns.length≤63)
  simp only [pm_law]
  walk_at "pd"
  have hcut:newF (cutG ((0 :: ns).map PV.int) none (some 4))=.ok (.lst (((0 :: ns).take (Int.toNat 4)).map PV.int)):=by
    rw [cut_to (by decide),newF_ints (by rw [List.length_take]; exact Nat.le_trans (Nat.min_le_left _ _) (by decide))]
  rw [show newF (cutG (PV.int 0 :: ns.map PV.int) none (some 4))=_ from hcut]
  generalize (0 :: ns).take (Int.toNat 4)=cs
  walk_at "pd"
  generalize hw:forR _ _ _=W
  obtain ⟨ρ',rfl,v1,v2,v3,v4,rfl⟩:=forR_inv' hw (fun i ρ=>∃ v1 v2 v3 v4,ρ=[.lst (ns.map PV.int),v1,v2,v3,v4]) ⟨_,_,_,_,rfl⟩ (by
    rintro i x ρ hx ⟨v1,v2,v3,v4,rfl⟩
    rw [List.getElem?_map] at hx
    obtain ⟨c,hc,rfl⟩:=Option.map_eq_some_iff.mp hx
    walk_at "pd"
    rw [pIx_most]
    have hm:=most_bd (p:=2 + c % 5)
    have s0:=Int.emod_nonneg (c / 5) (show mostS (2 + c % 5)≠0 by omega)
    have s1:=Int.emod_lt_of_pos (c / 5) (show 0 < mostS (2 + c % 5) by omega)
    have hp:2≤2 + c % 5∧2 + c % 5≤6:=by omega
    walk_at "pd"
    generalize 2 + c % 5=p at *
    generalize c / 5 % mostS p=s at *
    rw [c_ring_count,szX_none.mpr ⟨⟨by omega,by omega⟩,by omega,by omega⟩]
    walk_at "pd"
    rw [c__law_whole]
    walk_at "pd"
    rw [c__law_rings ⟨⟨by omega,by omega⟩,by omega,by omega⟩,few_is hp.1 hp.2 s0 s1]
    walk_at "pd"
    rw [c__law_great]
    walk_at "pd"
    exact nextI ⟨_,_,_,_,rfl⟩)
  walk_at "pd"
noncomputable def sp_law (K:PySem.W.Frag):Sp:=spF K 1 .P W0 pm_law.fn
theorem law_fn {l:PySem.W.OpenLaw} (T:Txt K mg) {fa:Addr} (hmg:mg "law"=some (.ref fa)):∃ fd:FuncData,(∀ (s:Shared) (u:Value),BindsTo s fd ⟨[u],[]⟩ [("script",u)]) ∧
    ∀ base:Heap,K.In base→base.Ns mainGlobals mg→FnOk l.prog w K mg base CX0 7 fa fd ["script"] (sp_law K):=by
  obtain ⟨f,fd,F,hm⟩:=T.d_law
  rw [hmg] at hm
  cases hm
  refine ⟨fd,fun s u=>?_,fun base _ _=>fn_law T F⟩
  obtain ⟨oc,od,kV,doc,pm,an,cdv,ct,osl,rfl,lk,hcd⟩:=F.ex
  exact .of_eq (bd_law kV doc pm an cdv ct [u] rfl)
theorem law_start {H:Hp} {a:Addr} {ns:List Int} (hl:ns.length≤63) (hO:Only H) (hS:SqL K H a (ns.map V.int)):sp_law K [.ref a] H (fun v _=>v=.bl true) fun _ _ _=>False :=
  law_startP (Pm.fn_eq pm_law ns hl fun _ _=>rfl) hS
end
theorem txt_mk {K:PySem.W.Frag} {h:Heap} {mg:Str→Option Value} {f_is_whole f_is_whole_from f_check_count f_most_seeds f_check_sizes f_common_divisor f_count_boards f_count_kept f_ring_count f__law_whole f__law_ways f__law_by_turns f__law_great f__law_boards f__law_rings f_law:Addr} (X:K.In h) (G:h.Ns mainGlobals mg)
    {od_is_whole an_is_whole:Option Addr} {sl_is_whole:Array (Option Value)} {oc_is_whole kV_is_whole dc_is_whole pm_is_whole cd_is_whole ct_is_whole:Value}
    {od_is_whole_from an_is_whole_from:Option Addr} {sl_is_whole_from:Array (Option Value)} {oc_is_whole_from kV_is_whole_from dc_is_whole_from pm_is_whole_from cd_is_whole_from ct_is_whole_from:Value}
    {od_check_count an_check_count:Option Addr} {sl_check_count:Array (Option Value)} {oc_check_count kV_check_count dc_check_count pm_check_count cd_check_count ct_check_count:Value}
    {od_most_seeds an_most_seeds:Option Addr} {sl_most_seeds:Array (Option Value)} {oc_most_seeds kV_most_seeds dc_most_seeds pm_most_seeds cd_most_seeds ct_most_seeds:Value}
    {od_check_sizes an_check_sizes:Option Addr} {sl_check_sizes:Array (Option Value)} {oc_check_sizes kV_check_sizes dc_check_sizes pm_check_sizes cd_check_sizes ct_check_sizes:Value}
    {od_common_divisor an_common_divisor:Option Addr} {sl_common_divisor:Array (Option Value)} {oc_common_divisor kV_common_divisor dc_common_divisor pm_common_divisor cd_common_divisor ct_common_divisor:Value}
    {od_count_boards an_count_boards:Option Addr} {sl_count_boards:Array (Option Value)} {oc_count_boards kV_count_boards dc_count_boards pm_count_boards cd_count_boards ct_count_boards:Value}
    {od_count_kept an_count_kept:Option Addr} {sl_count_kept:Array (Option Value)} {oc_count_kept kV_count_kept dc_count_kept pm_count_kept cd_count_kept ct_count_kept:Value}
    {od_ring_count an_ring_count:Option Addr} {sl_ring_count:Array (Option Value)} {oc_ring_count kV_ring_count dc_ring_count pm_ring_count cd_ring_count ct_ring_count:Value}
    {od__law_whole an__law_whole:Option Addr} {sl__law_whole:Array (Option Value)} {oc__law_whole kV__law_whole dc__law_whole pm__law_whole cd__law_whole ct__law_whole:Value}
    {od__law_ways an__law_ways:Option Addr} {sl__law_ways:Array (Option Value)} {oc__law_ways kV__law_ways dc__law_ways pm__law_ways cd__law_ways ct__law_ways:Value}
    {od__law_by_turns an__law_by_turns:Option Addr} {sl__law_by_turns:Array (Option Value)} {oc__law_by_turns kV__law_by_turns dc__law_by_turns pm__law_by_turns cd__law_by_turns ct__law_by_turns:Value}
    {od__law_great an__law_great:Option Addr} {sl__law_great:Array (Option Value)} {oc__law_great kV__law_great dc__law_great pm__law_great cd__law_great ct__law_great:Value}
    {od__law_boards an__law_boards:Option Addr} {sl__law_boards:Array (Option Value)} {oc__law_boards kV__law_boards dc__law_boards pm__law_boards cd__law_boards ct__law_boards:Value}
    {od__law_rings an__law_rings:Option Addr} {sl__law_rings:Array (Option Value)} {oc__law_rings kV__law_rings dc__law_rings pm__law_rings cd__law_rings ct__law_rings:Value}
    {od_law an_law:Option Addr} {sl_law:Array (Option Value)} {oc_law kV_law dc_law pm_law cd_law ct_law:Value}
    (a_is_whole:PySem.W.nsIn K mainGlobals "is_whole"=some (some (.ref f_is_whole))) (l_is_whole:K.lookup f_is_whole=some ⟨oc_is_whole,od_is_whole,.func (PySem.W.fnOf "is_whole" "is_whole" (defArgs s_is_whole) (defBody s_is_whole) (defScope s_is_whole) .none kV_is_whole dc_is_whole pm_is_whole an_is_whole cd_is_whole ct_is_whole),sl_is_whole⟩) (c_is_whole:PySem.W.codeIn K cd_is_whole "is_whole"=true) (k_is_whole:PySem.W.keepIn K (.ref f_is_whole)=true)
    (a_is_whole_from:PySem.W.nsIn K mainGlobals "is_whole_from"=some (some (.ref f_is_whole_from))) (l_is_whole_from:K.lookup f_is_whole_from=some ⟨oc_is_whole_from,od_is_whole_from,.func (PySem.W.fnOf "is_whole_from" "is_whole_from" (defArgs s_is_whole_from) (defBody s_is_whole_from) (defScope s_is_whole_from) .none kV_is_whole_from dc_is_whole_from pm_is_whole_from an_is_whole_from cd_is_whole_from ct_is_whole_from),sl_is_whole_from⟩) (c_is_whole_from:PySem.W.codeIn K cd_is_whole_from "is_whole_from"=true) (k_is_whole_from:PySem.W.keepIn K (.ref f_is_whole_from)=true)
    (a_check_count:PySem.W.nsIn K mainGlobals "check_count"=some (some (.ref f_check_count))) (l_check_count:K.lookup f_check_count=some ⟨oc_check_count,od_check_count,.func (PySem.W.fnOf "check_count" "check_count" (defArgs s_check_count) (defBody s_check_count) (defScope s_check_count) .none kV_check_count dc_check_count pm_check_count an_check_count cd_check_count ct_check_count),sl_check_count⟩) (c_check_count:PySem.W.codeIn K cd_check_count "check_count"=true) (k_check_count:PySem.W.keepIn K (.ref f_check_count)=true)
    (a_most_seeds:PySem.W.nsIn K mainGlobals "most_seeds"=some (some (.ref f_most_seeds))) (l_most_seeds:K.lookup f_most_seeds=some ⟨oc_most_seeds,od_most_seeds,.func (PySem.W.fnOf "most_seeds" "most_seeds" (defArgs s_most_seeds) (defBody s_most_seeds) (defScope s_most_seeds) .none kV_most_seeds dc_most_seeds pm_most_seeds an_most_seeds cd_most_seeds ct_most_seeds),sl_most_seeds⟩) (c_most_seeds:PySem.W.codeIn K cd_most_seeds "most_seeds"=true) (k_most_seeds:PySem.W.keepIn K (.ref f_most_seeds)=true)
    (a_check_sizes:PySem.W.nsIn K mainGlobals "check_sizes"=some (some (.ref f_check_sizes))) (l_check_sizes:K.lookup f_check_sizes=some ⟨oc_check_sizes,od_check_sizes,.func (PySem.W.fnOf "check_sizes" "check_sizes" (defArgs s_check_sizes) (defBody s_check_sizes) (defScope s_check_sizes) .none kV_check_sizes dc_check_sizes pm_check_sizes an_check_sizes cd_check_sizes ct_check_sizes),sl_check_sizes⟩) (c_check_sizes:PySem.W.codeIn K cd_check_sizes "check_sizes"=true) (k_check_sizes:PySem.W.keepIn K (.ref f_check_sizes)=true)
    (a_common_divisor:PySem.W.nsIn K mainGlobals "common_divisor"=some (some (.ref f_common_divisor))) (l_common_divisor:K.lookup f_common_divisor=some ⟨oc_common_divisor,od_common_divisor,.func (PySem.W.fnOf "common_divisor" "common_divisor" (defArgs s_common_divisor) (defBody s_common_divisor) (defScope s_common_divisor) .none kV_common_divisor dc_common_divisor pm_common_divisor an_common_divisor cd_common_divisor ct_common_divisor),sl_common_divisor⟩) (c_common_divisor:PySem.W.codeIn K cd_common_divisor "common_divisor"=true) (k_common_divisor:PySem.W.keepIn K (.ref f_common_divisor)=true)
    (a_count_boards:PySem.W.nsIn K mainGlobals "count_boards"=some (some (.ref f_count_boards))) (l_count_boards:K.lookup f_count_boards=some ⟨oc_count_boards,od_count_boards,.func (PySem.W.fnOf "count_boards" "count_boards" (defArgs s_count_boards) (defBody s_count_boards) (defScope s_count_boards) .none kV_count_boards dc_count_boards pm_count_boards an_count_boards cd_count_boards ct_count_boards),sl_count_boards⟩) (c_count_boards:PySem.W.codeIn K cd_count_boards "count_boards"=true) (k_count_boards:PySem.W.keepIn K (.ref f_count_boards)=true)
    (a_count_kept:PySem.W.nsIn K mainGlobals "count_kept"=some (some (.ref f_count_kept))) (l_count_kept:K.lookup f_count_kept=some ⟨oc_count_kept,od_count_kept,.func (PySem.W.fnOf "count_kept" "count_kept" (defArgs s_count_kept) (defBody s_count_kept) (defScope s_count_kept) .none kV_count_kept dc_count_kept pm_count_kept an_count_kept cd_count_kept ct_count_kept),sl_count_kept⟩) (c_count_kept:PySem.W.codeIn K cd_count_kept "count_kept"=true) (k_count_kept:PySem.W.keepIn K (.ref f_count_kept)=true)
    (a_ring_count:PySem.W.nsIn K mainGlobals "ring_count"=some (some (.ref f_ring_count))) (l_ring_count:K.lookup f_ring_count=some ⟨oc_ring_count,od_ring_count,.func (PySem.W.fnOf "ring_count" "ring_count" (defArgs s_ring_count) (defBody s_ring_count) (defScope s_ring_count) .none kV_ring_count dc_ring_count pm_ring_count an_ring_count cd_ring_count ct_ring_count),sl_ring_count⟩) (c_ring_count:PySem.W.codeIn K cd_ring_count "ring_count"=true) (k_ring_count:PySem.W.keepIn K (.ref f_ring_count)=true)
    (a__law_whole:PySem.W.nsIn K mainGlobals "_law_whole"=some (some (.ref f__law_whole))) (l__law_whole:K.lookup f__law_whole=some ⟨oc__law_whole,od__law_whole,.func (PySem.W.fnOf "_law_whole" "_law_whole" (defArgs s__law_whole) (defBody s__law_whole) (defScope s__law_whole) .none kV__law_whole dc__law_whole pm__law_whole an__law_whole cd__law_whole ct__law_whole),sl__law_whole⟩) (c__law_whole:PySem.W.codeIn K cd__law_whole "_law_whole"=true) (k__law_whole:PySem.W.keepIn K (.ref f__law_whole)=true)
    (a__law_ways:PySem.W.nsIn K mainGlobals "_law_ways"=some (some (.ref f__law_ways))) (l__law_ways:K.lookup f__law_ways=some ⟨oc__law_ways,od__law_ways,.func (PySem.W.fnOf "_law_ways" "_law_ways" (defArgs s__law_ways) (defBody s__law_ways) (defScope s__law_ways) .none kV__law_ways dc__law_ways pm__law_ways an__law_ways cd__law_ways ct__law_ways),sl__law_ways⟩) (c__law_ways:PySem.W.codeIn K cd__law_ways "_law_ways"=true) (k__law_ways:PySem.W.keepIn K (.ref f__law_ways)=true)
    (a__law_by_turns:PySem.W.nsIn K mainGlobals "_law_by_turns"=some (some (.ref f__law_by_turns))) (l__law_by_turns:K.lookup f__law_by_turns=some ⟨oc__law_by_turns,od__law_by_turns,.func (PySem.W.fnOf "_law_by_turns" "_law_by_turns" (defArgs s__law_by_turns) (defBody s__law_by_turns) (defScope s__law_by_turns) .none kV__law_by_turns dc__law_by_turns pm__law_by_turns an__law_by_turns cd__law_by_turns ct__law_by_turns),sl__law_by_turns⟩) (c__law_by_turns:PySem.W.codeIn K cd__law_by_turns "_law_by_turns"=true) (k__law_by_turns:PySem.W.keepIn K (.ref f__law_by_turns)=true)
    (a__law_great:PySem.W.nsIn K mainGlobals "_law_great"=some (some (.ref f__law_great))) (l__law_great:K.lookup f__law_great=some ⟨oc__law_great,od__law_great,.func (PySem.W.fnOf "_law_great" "_law_great" (defArgs s__law_great) (defBody s__law_great) (defScope s__law_great) .none kV__law_great dc__law_great pm__law_great an__law_great cd__law_great ct__law_great),sl__law_great⟩) (c__law_great:PySem.W.codeIn K cd__law_great "_law_great"=true) (k__law_great:PySem.W.keepIn K (.ref f__law_great)=true)
    (a__law_boards:PySem.W.nsIn K mainGlobals "_law_boards"=some (some (.ref f__law_boards))) (l__law_boards:K.lookup f__law_boards=some ⟨oc__law_boards,od__law_boards,.func (PySem.W.fnOf "_law_boards" "_law_boards" (defArgs s__law_boards) (defBody s__law_boards) (defScope s__law_boards) .none kV__law_boards dc__law_boards pm__law_boards an__law_boards cd__law_boards ct__law_boards),sl__law_boards⟩) (c__law_boards:PySem.W.codeIn K cd__law_boards "_law_boards"=true) (k__law_boards:PySem.W.keepIn K (.ref f__law_boards)=true)
    (a__law_rings:PySem.W.nsIn K mainGlobals "_law_rings"=some (some (.ref f__law_rings))) (l__law_rings:K.lookup f__law_rings=some ⟨oc__law_rings,od__law_rings,.func (PySem.W.fnOf "_law_rings" "_law_rings" (defArgs s__law_rings) (defBody s__law_rings) (defScope s__law_rings) .none kV__law_rings dc__law_rings pm__law_rings an__law_rings cd__law_rings ct__law_rings),sl__law_rings⟩) (c__law_rings:PySem.W.codeIn K cd__law_rings "_law_rings"=true) (k__law_rings:PySem.W.keepIn K (.ref f__law_rings)=true)
    (a_law:PySem.W.nsIn K mainGlobals "law"=some (some (.ref f_law))) (l_law:K.lookup f_law=some ⟨oc_law,od_law,.func (PySem.W.fnOf "law" "law" (defArgs s_law) (defBody s_law) (defScope s_law) .none kV_law dc_law pm_law an_law cd_law ct_law),sl_law⟩) (c_law:PySem.W.codeIn K cd_law "law"=true) (k_law:PySem.W.keepIn K (.ref f_law)=true)
    {t_FEWEST_PITS:Tok} (a_FEWEST_PITS:PySem.W.nsIn K mainGlobals "FEWEST_PITS"=some (some (.int 2 t_FEWEST_PITS)))
    {t_MOST_PITS:Tok} (a_MOST_PITS:PySem.W.nsIn K mainGlobals "MOST_PITS"=some (some (.int 24 t_MOST_PITS)))
    (z_bool:PySem.W.nsIn K mainGlobals "bool"=some none)
    (z_int:PySem.W.nsIn K mainGlobals "int"=some none)
    (z_isinstance:PySem.W.nsIn K mainGlobals "isinstance"=some none)
    (z_min:PySem.W.nsIn K mainGlobals "min"=some none)
    (z_range:PySem.W.nsIn K mainGlobals "range"=some none)
    (z_sum:PySem.W.nsIn K mainGlobals "sum"=some none)
    (x_tab:xTab K XN XS=true) (x_exc:xExcs K XR=true)
   :Txt K mg:=by
  refine ⟨?_, ?_, ?_, ?_, ?_, ?_, ?_, ?_, ?_, ?_, ?_, ?_, ?_, ?_, ?_, ?_, ?_, ?_, ?_, ?_, ?_, ?_, ?_, ?_,x_tab,x_exc,fun n C e=>PySem.W.mg_of X G e⟩
  · exact ⟨_,_,fun_mk (st:=s_is_whole) l_is_whole c_is_whole k_is_whole,PySem.W.mg_of X G a_is_whole⟩
  · exact ⟨_,_,fun_mk (st:=s_is_whole_from) l_is_whole_from c_is_whole_from k_is_whole_from,PySem.W.mg_of X G a_is_whole_from⟩
  · exact ⟨_,_,fun_mk (st:=s_check_count) l_check_count c_check_count k_check_count,PySem.W.mg_of X G a_check_count⟩
  · exact ⟨_,_,fun_mk (st:=s_most_seeds) l_most_seeds c_most_seeds k_most_seeds,PySem.W.mg_of X G a_most_seeds⟩
  · exact ⟨_,_,fun_mk (st:=s_check_sizes) l_check_sizes c_check_sizes k_check_sizes,PySem.W.mg_of X G a_check_sizes⟩
  · exact ⟨_,_,fun_mk (st:=s_common_divisor) l_common_divisor c_common_divisor k_common_divisor,PySem.W.mg_of X G a_common_divisor⟩
  · exact ⟨_,_,fun_mk (st:=s_count_boards) l_count_boards c_count_boards k_count_boards,PySem.W.mg_of X G a_count_boards⟩
  · exact ⟨_,_,fun_mk (st:=s_count_kept) l_count_kept c_count_kept k_count_kept,PySem.W.mg_of X G a_count_kept⟩
  · exact ⟨_,_,fun_mk (st:=s_ring_count) l_ring_count c_ring_count k_ring_count,PySem.W.mg_of X G a_ring_count⟩
  · exact ⟨_,_,fun_mk (st:=s__law_whole) l__law_whole c__law_whole k__law_whole,PySem.W.mg_of X G a__law_whole⟩
  · exact ⟨_,_,fun_mk (st:=s__law_ways) l__law_ways c__law_ways k__law_ways,PySem.W.mg_of X G a__law_ways⟩
  · exact ⟨_,_,fun_mk (st:=s__law_by_turns) l__law_by_turns c__law_by_turns k__law_by_turns,PySem.W.mg_of X G a__law_by_turns⟩
  · exact ⟨_,_,fun_mk (st:=s__law_great) l__law_great c__law_great k__law_great,PySem.W.mg_of X G a__law_great⟩
  · exact ⟨_,_,fun_mk (st:=s__law_boards) l__law_boards c__law_boards k__law_boards,PySem.W.mg_of X G a__law_boards⟩
  · exact ⟨_,_,fun_mk (st:=s__law_rings) l__law_rings c__law_rings k__law_rings,PySem.W.mg_of X G a__law_rings⟩
  · exact ⟨_,_,fun_mk (st:=s_law) l_law c_law k_law,PySem.W.mg_of X G a_law⟩
  · exact ⟨_,PySem.W.mg_of X G a_FEWEST_PITS⟩
  · exact ⟨_,PySem.W.mg_of X G a_MOST_PITS⟩
  · exact PySem.W.mg_none_of X G z_bool
  · exact PySem.W.mg_none_of X G z_int
  · exact PySem.W.mg_none_of X G z_isinstance
  · exact PySem.W.mg_none_of X G z_min
  · exact PySem.W.mg_none_of X G z_range
  · exact PySem.W.mg_none_of X G z_sum
end My
namespace PySem.W.Fast
noncomputable def tw9390957013070418944 := ()
noncomputable def tw3591555130914587104 := ()
noncomputable def tw3542287988845917856 := ()
noncomputable def tw135984407576216320 := ()
noncomputable def tw9875455660101417952 := ()
noncomputable def tw8732988206482348129 := ()
noncomputable def tw346923482120246561 := ()
noncomputable def tw1145113258249832993 := ()
noncomputable def tw568689466256457281 := ()
noncomputable def tw9262301133033288577 := ()
noncomputable def tw18222050769521162242 := ()
noncomputable def tw17198902957828343042 := ()
noncomputable def tw1941772246616237187 := ()
noncomputable def tw4036313636197817539 := ()
noncomputable def tw18223237671133642179 := ()
noncomputable def tw14743503996720552515 := ()
noncomputable def tw1851378386921742243 := ()
noncomputable def tw11900002377505852548 := ()
noncomputable def tw16654256603002153124 := ()
noncomputable def tw13080629390818873636 := ()
noncomputable def tw5206386662970986820 := ()
noncomputable def tw11145263866646221444 := ()
noncomputable def tw8512955760490717060 := ()
noncomputable def tw321530641990728901 := ()
noncomputable def tw6458008509723528389 := ()
noncomputable def tw4673471966668569925 := ()
noncomputable def tw9874020712156452197 := ()
noncomputable def tw6170405001200409989 := ()
noncomputable def tw843293623987165573 := ()
noncomputable def tw7409108477741327141 := ()
noncomputable def tw13571140336893169573 := ()
noncomputable def tw16160315998903256070 := ()
noncomputable def tw2033594270544580198 := ()
noncomputable def tw13699454489324549830 := ()
noncomputable def tw502178340490739847 := ()
noncomputable def tw16077990477086165319 := ()
noncomputable def tw378345202138013607 := ()
noncomputable def tw12259461109884524648 := ()
noncomputable def tw3133725532052331304 := ()
noncomputable def tw9787329143663058760 := ()
noncomputable def tw14972767753380448168 := ()
noncomputable def tw3900352859600224200 := ()
noncomputable def tw10681147319301140553 := ()
noncomputable def tw2155448083557643465 := ()
noncomputable def tw1243733503366445577 := ()
noncomputable def tw17942504288621950090 := ()
noncomputable def tw17473455843584238762 := ()
noncomputable def tw1134560526161833834 := ()
noncomputable def tw1277319959377430442 := ()
noncomputable def tw10577352475069393866 := ()
noncomputable def tw16606705491430287755 := ()
noncomputable def tw11193588581891253643 := ()
noncomputable def tw14584813724549038507 := ()
noncomputable def tw11110690791350957579 := ()
noncomputable def tw1913826566069611147 := ()
noncomputable def tw3604515316010015435 := ()
noncomputable def tw13669514031570989164 := ()
noncomputable def tw13193757217004421356 := ()
noncomputable def tw5574451117782775180 := ()
noncomputable def tw4395042845544822284 := ()
noncomputable def tw17305197954393798412 := ()
noncomputable def tw9324993264963586860 := ()
noncomputable def tw16092898251462495405 := ()
noncomputable def tw9448755026407435533 := ()
noncomputable def tw11118171663679567181 := ()
noncomputable def tw1683294538463318477 := ()
noncomputable def tw12529746326039724013 := ()
noncomputable def tw13438559553430877198 := ()
noncomputable def tw16324925781058008238 := ()
noncomputable def tw17664086499044426030 := ()
noncomputable def tw1934743728018338286 := ()
noncomputable def tw4153337039504970350 := ()
noncomputable def tw9050351796406671342 := ()
noncomputable def tw17293914605851595823 := ()
noncomputable def tw11104722888473487951 := ()
noncomputable def tw5478723220195443343 := ()
noncomputable def tw16764403337577474128 := ()
noncomputable def tw331151582577808496 := ()
noncomputable def tw2089255390176739536 := ()
noncomputable def tw7116546398795713840 := ()
noncomputable def tw1010624398064232880 := ()
noncomputable def tw11757513487079933648 := ()
noncomputable def tw3238580926025972496 := ()
noncomputable def tw6779173661654407088 := ()
noncomputable def tw12749678519733322993 := ()
noncomputable def tw17389900557713681937 := ()
noncomputable def tw11453555545224917937 := ()
noncomputable def tw5692679446077251922 := ()
noncomputable def tw17823189930439067314 := ()
noncomputable def tw2484452062557687091 := ()
noncomputable def tw10010568278328761651 := ()
noncomputable def tw12517408559850733971 := ()
noncomputable def tw3850248631524606771 := ()
noncomputable def tw12587245653654064372 := ()
noncomputable def tw15587238992048359764 := ()
noncomputable def tw7735472110217352820 := ()
noncomputable def tw7443201607312712372 := ()
noncomputable def tw6037026321668032693 := ()
noncomputable def tw14646400320784000277 := ()
noncomputable def tw2334797949770752629 := ()
noncomputable def tw10638440288270870229 := ()
noncomputable def tw1540767679628160917 := ()
noncomputable def tw6768659917763818421 := ()
noncomputable def tw2963440661129157078 := ()
noncomputable def tw3351655312386833942 := ()
noncomputable def tw13450089879048007254 := ()
noncomputable def tw12455411184013855350 := ()
noncomputable def tw14141270507186709174 := ()
noncomputable def tw8322853583791910614 := ()
noncomputable def tw13151588471931450230 := ()
noncomputable def tw5427132711232457335 := ()
noncomputable def tw16434929760738347160 := ()
noncomputable def tw11855373587490590168 := ()
noncomputable def tw13717114753356409368 := ()
noncomputable def tw16787836019871258232 := ()
noncomputable def tw852912681590188250 := ()
noncomputable def tw8021239781118788922 := ()
noncomputable def tw7588800022208382043 := ()
noncomputable def tw5155894720439234971 := ()
noncomputable def tw12649030922786465243 := ()
noncomputable def tw17818720468358668827 := ()
noncomputable def tw8835929247695133435 := ()
noncomputable def tw17548101043965828891 := ()
noncomputable def tw8698998821370663835 := ()
noncomputable def tw15216095167357645948 := ()
noncomputable def tw14540785754311444636 := ()
noncomputable def tw18361222875471273085 := ()
noncomputable def tw4491112612336807613 := ()
noncomputable def tw3005069349796574077 := ()
noncomputable def tw14507856589775932382 := ()
noncomputable def tw3691056027638233535 := ()
noncomputable def tw16829194930887271871 := ()
noncomputable def tw2746899256312548959 := ()
noncomputable def tw11783448218594752383 := ()
noncomputable def tw12089402238214570975 := ()
noncomputable def tw15228229381912908799 := ()
end PySem.W.Fast
open PySem PySem.W PyProof.Rows
set_option maxRecDepth 100000 in
set_option maxHeartbeats 0 in
theorem PySem.Challenge.cw_sowring_k10_rings_counted_holds : PySem.Challenge.rw_sowring_k10_rings_counted.Holds := by
  w_on; o_law; k_head; (case hw=>w_witness2)
  k_fill
  refine L2.walk_ofK (l:=PySem.Challenge.rw_sowring_k10_rings_counted) (n:=63) (k:=7) (x := "script") (CX:=L2.CX0) (sp:=My.sp_law) rfl (by decide) rfl ⟨rfl,by decide,by decide⟩ (fun w h Y=>by first | exact PySem.W.kIn_of Y | exact PySem.W.km_in_of Y) ?F ?S ?C
  case F =>
    intro w mg fa h KX G hmg
    have T:My.Txt (L2.KOf KX) mg:=by
      dsimp only [L2.KOf]
      refine' My.txt_mk KX G ?a_is_whole ?l_is_whole ?c_is_whole ?k_is_whole ?a_is_whole_from ?l_is_whole_from ?c_is_whole_from ?k_is_whole_from ?a_check_count ?l_check_count ?c_check_count ?k_check_count ?a_most_seeds ?l_most_seeds ?c_most_seeds ?k_most_seeds ?a_check_sizes ?l_check_sizes ?c_check_sizes ?k_check_sizes ?a_common_divisor ?l_common_divisor ?c_common_divisor ?k_common_divisor ?a_count_boards ?l_count_boards ?c_count_boards ?k_count_boards ?a_count_kept ?l_count_kept ?c_count_kept ?k_count_kept ?a_ring_count ?l_ring_count ?c_ring_count ?k_ring_count ?a__law_whole ?l__law_whole ?c__law_whole ?k__law_whole ?a__law_ways ?l__law_ways ?c__law_ways ?k__law_ways ?a__law_by_turns ?l__law_by_turns ?c__law_by_turns ?k__law_by_turns ?a__law_great ?l__law_great ?c__law_great ?k__law_great ?a__law_boards ?l__law_boards ?c__law_boards ?k__law_boards ?a__law_rings ?l__law_rings ?c__law_rings ?k__law_rings ?a_law ?l_law ?c_law ?k_law ?a_FEWEST_PITS ?a_MOST_PITS ?z_bool ?z_int ?z_isinstance ?z_min ?z_range ?z_sum ?x_tab ?x_exc
      (case a_is_whole=>k_is)
      (case l_is_whole=>k_is)
      (case c_is_whole=>k_is)
      (case k_is_whole=>k_is)
      (case a_is_whole_from=>k_is)
      (case l_is_whole_from=>k_is)
      (case c_is_whole_from=>k_is)
      (case k_is_whole_from=>k_is)
      (case a_check_count=>k_is)
      (case l_check_count=>k_is)
      (case c_check_count=>k_is)
      (case k_check_count=>k_is)
      (case a_most_seeds=>k_is)
      (case l_most_seeds=>k_is)
      (case c_most_seeds=>k_is)
      (case k_most_seeds=>k_is)
      (case a_check_sizes=>k_is)
      (case l_check_sizes=>k_is)
      (case c_check_sizes=>k_is)
      (case k_check_sizes=>k_is)
      (case a_common_divisor=>k_is)
      (case l_common_divisor=>k_is)
      (case c_common_divisor=>k_is)
      (case k_common_divisor=>k_is)
      (case a_count_boards=>k_is)
      (case l_count_boards=>k_is)
      (case c_count_boards=>k_is)
      (case k_count_boards=>k_is)
      (case a_count_kept=>k_is)
      (case l_count_kept=>k_is)
      (case c_count_kept=>k_is)
      (case k_count_kept=>k_is)
      (case a_ring_count=>k_is)
      (case l_ring_count=>k_is)
      (case c_ring_count=>k_is)
      (case k_ring_count=>k_is)
      (case a__law_whole=>k_is)
      (case l__law_whole=>k_is)
      (case c__law_whole=>k_is)
      (case k__law_whole=>k_is)
      (case a__law_ways=>k_is)
      (case l__law_ways=>k_is)
      (case c__law_ways=>k_is)
      (case k__law_ways=>k_is)
      (case a__law_by_turns=>k_is)
      (case l__law_by_turns=>k_is)
      (case c__law_by_turns=>k_is)
      (case k__law_by_turns=>k_is)
      (case a__law_great=>k_is)
      (case l__law_great=>k_is)
      (case c__law_great=>k_is)
      (case k__law_great=>k_is)
      (case a__law_boards=>k_is)
      (case l__law_boards=>k_is)
      (case c__law_boards=>k_is)
      (case k__law_boards=>k_is)
      (case a__law_rings=>k_is)
      (case l__law_rings=>k_is)
      (case c__law_rings=>k_is)
      (case k__law_rings=>k_is)
      (case a_law=>k_is)
      (case l_law=>k_is)
      (case c_law=>k_is)
      (case k_law=>k_is)
      (case a_FEWEST_PITS=>k_is)
      (case a_MOST_PITS=>k_is)
      (case z_bool=>k_is)
      (case z_int=>k_is)
      (case z_isinstance=>k_is)
      (case z_min=>k_is)
      (case z_range=>k_is)
      (case z_sum=>k_is)
      (case x_tab=>kernel_rfl)
      (case x_exc=>kernel_rfl)
    exact My.law_fn T hmg
  case S=>exact fun K H a ns hl hO hS=>My.law_start hl hO hS
  case C=>exact fun _ _ _ _ z=>z

