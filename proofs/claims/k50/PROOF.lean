import PyProof.Rows.All
import Wide.All
import OpenK.AllK
import Wide.FinOn
import PyProof.EqAt
import PyProof.EqKinds
import PyProof.TupleCall
import PyProof.StrBlockH
import PyProof.StrWalks
import PyProof.StrCalls
import PyProof.StrCalls2
import PyProof.PureStr
import PyProof.FString
import PyProof.StrLawsIdx
import PyProof.SetRoads
import PyProof.DictRoadsH
import Lean
import PySem.Challenge.RW_foreseehall_k50_rooms_marks_and_greatnes
open List (mem_append_right mem_append_left getElem?_eq_getElem mem_cons_of_mem append_assoc mem_cons_self length_map getElem?_map length_set size_toArray mem_of_getElem? map_cons getElem?_set_ne length_append getElem?_set_self nodup_nil append_nil getD_eq_getElem?_getD length_cons nil_append lookup_cons set_set getElem?_append_left flatten_cons getElem?_append_right all_eq_true mem_cons not_mem_nil map_map length_take replicate_succ length_singleton getElem_mem find?_cons flatMap_cons getElem?_replicate perm_append_comm length_drop any_eq_true length_nil map_inj_right filterMap_cons of_mem_zip length_replicate map_nil ext_getElem? mem_range getElem?_eq_none sum_cons)
set_option Elab.async false
set_option linter.all false
set_option maxRecDepth 100000
set_option maxHeartbeats 4000000
set_option maxRecDepth 10000
set_option maxHeartbeats 400000
abbrev Fg:=PySem.W.Frag
abbrev KZ (i:Nat):PySem.Stmt:=(PySem.Challenge.pw_foreseehall_k50_rooms_marks_and_greatnes.main.body)[i]!
namespace L2
open PySem PySem.Spec PyProof.Rows
abbrev cV:=Sum Int Str
noncomputable def kg:cV->Value->Bool
 | .inl k,v=>Value.isInt k v
 | .inr x,v=>Value.isStrOf x v
noncomputable def Cr (w:World):cV->Int
 | .inl k=>hashInt k
 | .inr x=>hashStr w x
theorem wJ:∀{k:cV} {v:Value},kg k v=true->(∃i t,k=Sum.inl i/\v=Value.int i t)\/(∃x t,k=Sum.inr x/\v=Value.str x t)
 | .inl i,v,h=>by
  obtain ⟨t,e⟩:=Value.isInt_shape (k:=i) (v:=v) h
  exact .inl ⟨i,t,rfl,e⟩
 | .inr x,v,h=>by
  obtain ⟨t,e⟩:=Value.isStrOf_shape (x:=x) (v:=v) h
  exact .inr ⟨x,t,rfl,e⟩
theorem rE (i:Int) (t:Tok):kg (.inl i) (.int i t)=true:=by simp [kg,Value.isInt]
theorem rD (x:Str) (t:Tok):kg (.inr x) (.str x t)=true:=by simp [kg,Value.isStrOf]
theorem Cq (a b:Int):decide ((Sum.inl a:cV)=Sum.inl b)=(a==b):=by
 by_cases e:a=b
 ·subst e;simp
 ·have h:¬(Sum.inl a:cV)=Sum.inl b:=fun q=>e (Sum.inl.inj q)
  rw [decide_eq_false h];exact (beq_eq_false_iff_ne.mpr e).symm
theorem Cm (a b:Str):decide ((Sum.inr a:cV)=Sum.inr b)=decide (a=b):=by
 by_cases e:a=b
 ·subst e;simp
 ·have h:¬(Sum.inr a:cV)=Sum.inr b:=fun q=>e (Sum.inr.inj q)
  rw [decide_eq_false h,decide_eq_false e]
theorem Co (a:Int) (b:Str):decide ((Sum.inl a:cV)=Sum.inr b)=false:=decide_eq_false (fun q=>nomatch q)
theorem Cn (a:Str) (b:Int):decide ((Sum.inr a:cV)=Sum.inl b)=false:=decide_eq_false (fun q=>nomatch q)
noncomputable def bp (prog:Program) (w:World):PySem.KeyKind prog w cV where
 is:=kg
 hash:=Cr w
 inj:=fun v a b ha hb=>by
  rcases wJ ha with ⟨i,t,rfl,rfl⟩ | ⟨x,t,rfl,rfl⟩
  ·rcases wJ hb with ⟨j,u,rfl,e⟩ | ⟨y,u,rfl,e⟩
   ·injection e with e1 _;rw [e1]
   ·exact nomatch e
  ·rcases wJ hb with ⟨j,u,rfl,e⟩ | ⟨y,u,rfl,e⟩
   ·exact nomatch e
   ·injection e with e1 _;rw [e1]
 byValue:=fun k v h=>by
  rcases wJ h with ⟨i,t,rfl,rfl⟩ | ⟨x,t,rfl,rfl⟩<;>rfl
 pyHash:=fun hv h=>by
  rcases wJ hv with ⟨i,t,rfl,rfl⟩ | ⟨x,t,rfl,rfl⟩
  ·exact wpAny_pyHash_int h
  ·exact wpAny_pyHash_str h
 eqBool:=fun hu hv h=>by
  rcases wJ hu with ⟨i,t,rfl,rfl⟩ | ⟨x,t,rfl,rfl⟩
  ·rcases wJ hv with ⟨j,u,rfl,rfl⟩ | ⟨y,u,rfl,rfl⟩
   ·rw [Cq] at h;exact wpAny_eqBool_int h
   ·rw [Co] at h;exact SeqAt.EqAt.int_str i t y u _ _ _ _ h
  ·rcases wJ hv with ⟨j,u,rfl,rfl⟩ | ⟨y,u,rfl,rfl⟩
   ·rw [Cn] at h;exact SeqAt.EqAt.str_int x t j u _ _ _ _ h
   ·rw [Cm] at h;exact wpAny_eqBool_str h
 «strs»:=fun k x t v h=>by
  rcases wJ h with ⟨i,u,rfl,e⟩ | ⟨y,u,rfl,e⟩
  ·exact nomatch e
  ·injection e with e1 _
   subst e1
   cases v<;>rfl
theorem mI (prog:Program) (w:World) (i:Int) (t:Tok):(bp prog w).is (.inl i) (.int i t)=true:=rE i t
theorem mH (prog:Program) (w:World) (x:Str) (t:Tok):(bp prog w).is (.inr x) (.str x t)=true:=rD x t
inductive V where
 | non | bl (b:Bool) | int (i:Int) | str (x:Str) | byt (b:Array UInt8) | flt (b:UInt64) | ref (a:Addr) | ty (n:String)
 deriving DecidableEq
noncomputable def RelV:V->Value->Prop
 | .non,u=>u=Value.none
 | .bl b,u=>u=Value.bool b
 | .int i,u=>∃t,u=Value.int i t
 | .str x,u=>∃t,u=Value.str x t
 | .byt b,u=>∃t,u=Value.bytes b t
 | .flt b,u=>∃t,u=Value.float b t
 | .ref a,u=>u=Value.ref a
 | .ty n,u=>u=Value.type n
noncomputable abbrev Vals:List V->List Value->Prop:=Paired RelV
theorem Vals.length {xs:List V} {us:List Value} (r:Vals xs us):xs.length=us.length:=Paired.length r
theorem Vals.get:∀{xs:List V} {us:List Value} {i:Nat} {x:V},Vals xs us->xs[i]?=some x->∃u,us[i]?=some u/\RelV x u
 | _,_,_,_,.nil,e=>by simp at e
 | _,_,0,_,.cons r _,e=>by simp at e;subst e;exact ⟨_,rfl,r⟩
 | _,_,i+1,x,.cons _ t,e=>by
  obtain ⟨u,h1,h2⟩:=Vals.get (i:=i) (x:=x) t (by simpa using e)
  exact ⟨u,by simpa using h1,h2⟩
theorem Vals.append:∀{xs ys:List V} {us ws:List Value},Vals xs us->Vals ys ws->Vals (xs++ys) (us++ws)
 | _,_,_,_,.nil,s=>s
 | _,_,_,_,.cons r t,s=>.cons r (Vals.append t s)
theorem Vals.take:∀{xs:List V} {us:List Value} (n:Nat),Vals xs us->Vals (xs.take n) (us.take n)
 | _,_,0,_=>.nil
 | _,_,_+1,.nil=>.nil
 | _,_,n+1,.cons r t=>.cons r (Vals.take n t)
theorem Vals.drop:∀{xs:List V} {us:List Value} (n:Nat),Vals xs us->Vals (xs.drop n) (us.drop n)
 | _,_,0,r=>r
 | _,_,_+1,.nil=>.nil
 | _,_,n+1,.cons _ t=>Vals.drop n t
noncomputable def RelO:Option V->Option Value->Prop
 | some v,some u=>RelV v u
 | none,none=>True
 | _,_=>False
noncomputable def KV {κ:Type}:List (κ×V)->List (κ×Value)->Prop:=Paired fun (p:κ×V) (q:κ×Value)=>p.1=q.1/\RelV p.2 q.2
noncomputable def kV:cV->V
 | .inl i=>.int i
 | .inr x=>.str x
inductive HO where
 | lst (xs:List V)
 | tup (xs:List V)
 | dK (kvs:List (cV×V)) | dT (kvs:List (List cV×V))
 | set (S:Int->Bool) (n:Nat)
 | ins (C dx:Addr) (fs:List (Str×V))
 | own (x:Addr)
 | xd (fs:List (Str×V))
 | met (f x:Addr)
 | rng (lo hi:Int)
 | frz (o:Obj) (u:HO)
 | tbl (ps:Array Value)
 | ext (φ:Heap->Prop)
abbrev Hp:=Addr->Option HO
noncomputable def bU (H:Hp) (a:Addr) (o:HO):Hp:=fun b=>if b=a then some o else H b
theorem gf {H:Hp} {a:Addr} {o:HO}:bU H a o a=some o:=by unfold bU;rw [if_pos rfl]
theorem d0 {H:Hp} {a b:Addr} {o:HO} (h:b≠a):bU H a o b=H b:=by unfold bU;rw [if_neg h]
theorem FF {H:Hp} {a b:Addr} {o u:HO} (h:H a=some o) (h':H b=some u) (d:o≠u):a≠b:=by
 intro e;subst e;rw [h] at h';exact d (Option.some.inj h')
theorem wZ {H:Hp} {a b:Addr} {o:HO} (h:H a=some o) (h':H b=none):a≠b:=by
 intro e;subst e;rw [h] at h';cases h'
section
variable (P:Program) (w:World)
noncomputable def ObjOk (H:Hp) (h:Heap) (a:Addr):HO->Prop
 | .lst xs=>xs.length<=sizeLine/\∃(its:List Value) (n:Nat),Vals xs its/\h.get? a=some { cls:=.type "list",data:=.seq its.toArray n }
 | .tup xs=>xs.length<=sizeLine/\∃its:List Value,Vals xs its/\IsTup h a its.toArray
 | .dK kvs=>kvs.length<=sizeLine/\(a==sysModules)=false/\∃vs,KV kvs vs/\h.DictOf (bp P w) a vs
 | .dT kvs=>kvs.length<=sizeLine/\(a==sysModules)=false/\∃xs:List (List cV×Addr×Value),
   Paired (fun (p:List cV×V) (q:List cV×Addr×Value)=>p.1=q.1/\H q.2.1=some (.tup (p.1.map kV))/\RelV p.2 q.2.2) kvs xs /\
   ∃o es ep,h.get? a=some o/\o.ExactDict/\o.data=.dict es ep/\es.toList=xs.map (entryOfKey (tupleKind (bp P w)))/\(xs.map (·.1)).Nodup
 | .set S n=>h.SetOf (intKind P w) a S n
 | .ins C dx fs=>H dx=some (.own a)/\fs.length<=1000/\dx≠a/\h.get? a=some (PySem.W.instObj C dx) /\
   ∃mA,h.Ns1 dx mA/\(∀f,RelO (fs.lookup f) (mA f))/\PySem.Within mA (fs.map (·.1))
 | .own _=>∃o,h.get? a=some o
 | .xd fs=>∃mA,h.Ns1 a mA/\∀f,RelO (fs.lookup f) (mA f)
 | .rng lo hi=>∃t u v,h.get? a=some { cls:=.type "range",data:=.fields #[.int lo t,.int hi u,.int 1 v] }
 | .frz o u=>h.get? a=some o/\ObjOk H h a u
 | .tbl ps=>h.get? a=some { cls:=.none,data:=.fields ps }
 | .met f x=>h.get? a=some (PySem.W.methodObj (.ref f) (.ref x))
 | .ext φ=>φ h/\(∃o,h.get? a=some o)/\∀h1 h2:Heap,φ h1->(∀o,h1.get? a=some o->h2.get? a=some o)->φ h2
noncomputable def HOk (H:Hp) (h:Heap):Prop:=∀a o,H a=some o->ObjOk P w H h a o
end
section
variable {P:Program} {w:World} {H H':Hp} {h h':Heap} {a:Addr} {o:HO}
theorem ObjOk.lt (x:ObjOk P w H h a o):a<h.objs.size:=by
 cases o with
 | lst xs=>obtain ⟨_,_,_,_,e⟩:=x;exact Heap.lt_size e
 | tup xs=>obtain ⟨_,_,_,p⟩:=x;exact p.lt
 | dK kvs=>obtain ⟨_,_,_,_,o,_,_,e,_⟩:=x;exact Heap.lt_size e
 | dT kvs=>obtain ⟨_,_,_,_,o,_,_,e,_⟩:=x;exact Heap.lt_size e
 | set S n=>obtain ⟨o,_,_,_,e,_⟩:=x;exact Heap.lt_size e
 | ins C dx fs=>obtain ⟨_,_,_,e,_⟩:=x;exact Heap.lt_size e
 | own y=>obtain ⟨_,e⟩:=x;exact Heap.lt_size e
 | xd fs=>obtain ⟨_,⟨_,_,_,e,_⟩,_⟩:=x;exact Heap.lt_size e
 | rng lo hi=>obtain ⟨_,_,_,e⟩:=x;exact Heap.lt_size e
 | frz ob u=>obtain ⟨e,_⟩:=x;exact Heap.lt_size e
 | tbl ps=>exact Heap.lt_size (show h.get? a=some _ from x)
 | met f y=>exact Heap.lt_size (show h.get? a=some _ from x)
 | ext φ=>obtain ⟨_,⟨_,e⟩,_⟩:=x;exact Heap.lt_size e
theorem Paired.mapP {α β:Type} {F G:α->β->Prop}:∀{l₁:List α} {l₂:List β},Paired F l₁ l₂->(∀a b,F a b->G a b)->Paired G l₁ l₂
 | _,_,.nil,_=>.nil
 | _,_,.cons r t,f=>.cons (f _ _ r) (Paired.mapP t f)
theorem ObjOk.stay (x:ObjOk P w H h a o) (k:∀b u,(b=a\/H b=some (.own a))->h.get? b=some u->h'.get? b=some u)
  (ho:∀b,H b=some (.own a)->H' b=some (.own a)) (ht:∀b xs,H b=some (.tup xs)->H' b=some (.tup xs)):ObjOk P w H' h' a o:=by
 induction o with
 | lst xs=>obtain ⟨z,its,n,r,e⟩:=x;exact ⟨z,its,n,r,k _ _ (.inl rfl) e⟩
 | tup xs=>obtain ⟨z,its,r,ob,e,c⟩:=x;exact ⟨z,its,r,ob,k _ _ (.inl rfl) e,c⟩
 | dK kvs=>obtain ⟨z,y,vs,r,ob,es,ep,e,c⟩:=x;exact ⟨z,y,vs,r,ob,es,ep,k _ _ (.inl rfl) e,c⟩
 | dT kvs=>
  obtain ⟨z,y,xs,r,ob,es,ep,e,c⟩:=x;exact ⟨z,y,xs,Paired.mapP r fun p q z=>⟨z.1,ht _ _ z.2.1,z.2.2⟩,ob,es,ep,k _ _ (.inl rfl) e,c⟩
 | set S n=>obtain ⟨ob,es,ep,t,e,c⟩:=x;exact ⟨ob,es,ep,t,k _ _ (.inl rfl) e,c⟩
 | ins C dx fs=>
  obtain ⟨d,z,ne,e,mA,⟨od,es,ep,e2,c⟩,r⟩:=x;exact ⟨ho _ d,z,ne,k _ _ (.inl rfl) e,mA,⟨od,es,ep,k _ _ (.inr d) e2,c⟩,r⟩
 | own y=>obtain ⟨ob,e⟩:=x;exact ⟨ob,k _ _ (.inl rfl) e⟩
 | xd fs=>obtain ⟨mA,⟨od,es,ep,e,c⟩,r⟩:=x;exact ⟨mA,⟨od,es,ep,k _ _ (.inl rfl) e,c⟩,r⟩
 | rng lo hi=>obtain ⟨t,u,v,e⟩:=x;exact ⟨t,u,v,k _ _ (.inl rfl) e⟩
 | frz ob u ih=>obtain ⟨e,q⟩:=x;exact ⟨k _ _ (.inl rfl) e,ih q⟩
 | tbl ps=>
  have e:h.get? a=some { cls:=.none,data:=.fields ps }:=x
  show h'.get? a=some { cls:=.none,data:=.fields ps }
  exact k a _ (.inl rfl) e
 | met f y=>
  have e:h.get? a=some (PySem.W.methodObj (.ref f) (.ref y)):=x
  show h'.get? a=some (PySem.W.methodObj (.ref f) (.ref y))
  exact k a _ (.inl rfl) e
 | ext φ=>obtain ⟨p,⟨o,e⟩,st⟩:=x;exact ⟨st _ _ p fun o q=>k _ _ (.inl rfl) q,⟨o,k _ _ (.inl rfl) e⟩,st⟩
theorem HOk.lt (x:HOk P w H h) (e:H a=some o):a<h.objs.size:=(x a o e).lt
theorem HOk.fresh (x:HOk P w H h) (e:h.objs.size<=a):H a=none:=by
 cases q:H a with
 | none=>rfl
 | some u=>exact absurd (Nat.lt_of_lt_of_le (x.lt q) e) (Nat.lt_irrefl _)
theorem HOk.kept (x:HOk P w H h) (k:∀b u,h.get? b=some u->h'.get? b=some u):HOk P w H h':=fun a o e=>
 (x a o e).stay (fun b u _ q=>k b u q) (fun _ q=>q) fun _ _ q=>q
theorem HOk.laid (x:HOk P w H h) (k:∀b u,h.get? b=some u->h'.get? b=some u) (hp:h.objs.size<=a) (new:ObjOk P w (bU H a o) h' a o):HOk P w (bU H a o) h':=fun b u e=>by
 have hn:=x.fresh hp
 by_cases hb:b=a
 ·subst hb;rw [gf] at e;cases e;exact new
 ·rw [d0 hb] at e
  exact (x b u e).stay (fun c v _ q=>k c v q) (fun c q=>by rw [d0 (wZ q hn)];exact q) fun c xs q=>by rw [d0 (wZ q hn)];exact q
end
noncomputable def Rd (H:Hp) (a:Addr) (u:HO):Prop:=H a=some u\/∃o,H a=some (.frz o u)
theorem Rd.ok {P:Program} {w:World} {H:Hp} {h:Heap} {a:Addr} {u:HO} (r:Rd H a u) (x:HOk P w H h):ObjOk P w H h a u:=by
 rcases r with r | ⟨o,r⟩
 ·exact x a u r
 ·obtain ⟨_,q⟩:=x a _ r
  exact q
noncomputable def GW:Option HO->Prop
 | some (.lst _)=>True
 | some (.dK _)=>True
 | some (.dT _)=>True
 | some (.set _ _)=>True
 | some (.ins _ _ _)=>True
 | some (.ext _)=>True
 | _=>False
section
variable {P:Program} {w:World} {H:Hp} {h h':Heap} {x e:Addr} {o':HO}
theorem HOk.write (ok:HOk P w H h) (mu:GW (H x)) (he:e=x\/H e=some (.own x)) (k:∀b u,b≠e->h.get? b=some u->h'.get? b=some u) (heo:∃u,h'.get? e=some u)
  (new:ObjOk P w (bU H x o') h' x o'):HOk P w (bU H x o') h':=fun b u q=>by
 have nown:∀c y,H c=some (.own y)->c≠x:=fun c y r z=>by subst z;rw [r] at mu;exact mu
 have ntup:∀c xs,H c=some (.tup xs)->c≠x:=fun c xs r z=>by subst z;rw [r] at mu;exact mu
 by_cases hb:b=x
 ·subst hb;rw [gf] at q;cases q;exact new
 ·rw [d0 hb] at q
  by_cases hbe:b=e
  ·have q':H b=some (.own x):=by
    rcases he with z | z
    ·exact absurd (hbe.trans z) hb
    ·rw [hbe];exact z
   rw [q] at q';cases q'
   obtain ⟨v,hv⟩:=heo;exact ⟨v,by rw [hbe];exact hv⟩
  ·refine (ok b u q).stay (fun c v hc r=>k c v ?_ r) (fun c r=>by rw [d0 (nown c b r)];exact r) fun c xs r=>by rw [d0 (ntup c xs r)];exact r
   rcases hc with rfl | hc
   ·exact hbe
   ·rintro rfl
    rcases he with z | z
    ·exact nown c b hc z
    ·rw [hc] at z;cases z;exact hb rfl
end
structure Un (fs ex:List Addr) (H H':Hp) (h h':Heap):Prop where
 keep:∀b o,h.get? b=some o->H b=none->b∉fs->b∉ex->h'.get? b=some o
 slot:∀b o,h.get? b=some o->H b=none->b∈fs->b∉ex->∃sl,h'.get? b=some { o with slots:=sl }
 free:∀b o,h.get? b=some o->H b=none->b∉ex->H' b=none
 there:∀b o,h.get? b=some o->b∉ex->∃o',h'.get? b=some o'
 tups:∀b xs,H b=some (.tup xs)->H' b=some (.tup xs)
 frzs:∀b o u,H b=some (.frz o u)->H' b=some (.frz o u)
 tbls:∀b ps,H b=some (.tbl ps)->∃more,H' b=some (.tbl (ps++more))
section
variable {fs fs' ex ex':List Addr} {H H1 H2:Hp} {h h1 h2 h':Heap} {a x e:Addr} {o:HO}
theorem Un.any (u:Un fs ex H H1 h h1) {b:Addr} {ob:Obj} (q:h.get? b=some ob) (n:H b=none) (hx:b∉ex):∃sl,h1.get? b=some { ob with slots:=sl }:=by
 by_cases hb:b∈fs
 ·exact u.slot b ob q n hb hx
 ·exact ⟨ob.slots,u.keep b ob q n hb hx⟩
theorem Un.kept (k:∀b u,h.get? b=some u->h'.get? b=some u):Un fs ex H H h h':=
 ⟨fun b ob q _ _ _=>k b ob q,fun b ob q _ _ _=>⟨ob.slots,k b ob q⟩,fun _ _ _ n _=>n,fun b ob q _=>⟨ob,k b ob q⟩,fun _ _ q=>q,fun _ _ _ q=>q,fun _ ps q=>⟨#[],by rw [q];simp⟩⟩
theorem Un.refl:Un fs ex H H h h:=Un.kept fun _ _ q=>q
theorem Un.laid (k:∀b u,h.get? b=some u->h'.get? b=some u) (hp:h.objs.size<=a) (hn:H a=none):Un fs ex H (bU H a o) h h' where
 keep:=fun b u q _ _ _=>k b u q
 slot:=fun b u q _ _ _=>⟨u.slots,k b u q⟩
 free:=fun b u q n _=>by rw [d0 (Nat.ne_of_lt (Nat.lt_of_lt_of_le (Heap.lt_size q) hp))];exact n
 there:=fun b u q _=>⟨u,k b u q⟩
 tups:=fun b xs q=>by rw [d0 (wZ q hn)];exact q
 frzs:=fun b u xs q=>by rw [d0 (wZ q hn)];exact q
 tbls:=fun b ps q=>⟨#[],by rw [d0 (wZ q hn),q];simp⟩
theorem Un.write (mu:GW (H x)) (he:e=x\/H e=some (.own x)) (k:∀b u,b≠e->h.get? b=some u->h'.get? b=some u) (heo:∃u,h'.get? e=some u):Un fs ex H (bU H x o) h h':=by
 have hx:∀b,H b=none->b≠x:=fun b n z=>by subst z;rw [n] at mu;exact mu
 have hb:∀b,H b=none->b≠e:=fun b n z=>by
  subst z;rcases he with r | r
  ·exact hx b n r
  ·rw [n] at r;cases r
 have hm:∀b u,H b=some u->¬GW (some u)->b≠x:=fun b u q nm z=>by subst z;rw [q] at mu;exact nm mu
 refine ⟨fun b u q n _ _=>k b u (hb b n) q,fun b u q n _ _=>⟨u.slots,k b u (hb b n) q⟩,fun b u q n _=>by rw [d0 (hx b n)];exact n,fun b u q _=>?_,
  fun b xs q=>by rw [d0 (hm b _ q fun z=>z)];exact q,fun b u xs q=>by rw [d0 (hm b _ q fun z=>z)];exact q,fun b ps q=>⟨#[],by rw [d0 (hm b _ q fun z=>z),q];simp⟩⟩
 by_cases hbe:b=e
 ·subst hbe;exact heo
 ·exact ⟨u,k b u hbe q⟩
end
noncomputable def HL (h:Heap) (H:Hp):List Addr:=(List.range h.objs.size).filter fun a=>(H a).isSome
noncomputable def kX (h:Heap) (H:Hp):Heap:=PySem.W.hideAll h (HL h H)
theorem rH (h:Heap) (H:Hp):(kX h H).objs.size=h.objs.size:=PySem.W.hideAll_size _ _
theorem vt {h:Heap} {H:Hp} {b:Addr} {o:Obj} (e:h.get? b=some o) (n:H b=none):(kX h H).get? b=some o:=
 PySem.W.hideAll_get _ e fun hm=>by
  have q:(H b).isSome=true:=(List.mem_filter.mp hm).2
  rw [n] at q;simp at q
theorem ya {h:Heap} {H:Hp} {b:Addr} {o:Obj} (e:(kX h H).get? b=some o):h.get? b=some o/\H b=none:=by
 have e':h.get? b=some o:=PySem.W.of_hideAll (HL h H) e
 refine ⟨e',?_⟩
 cases q:H b with
 | none=>rfl
 | some x=>
  have hm:b∈HL h H:=List.mem_filter.mpr ⟨List.mem_range.mpr (Heap.lt_size e'),by simp [q]⟩
  have z:(kX h H).get? b=none:=PySem.W.hideAll_none (HL h H) hm
  rw [z] at e;cases e
noncomputable def yZ (g h:Heap) (L:Addr):List (Addr×Obj):=(List.range h.objs.size).filterMap fun a=>if a=L\/(g.get? a).isSome=true then none else (h.get? a).map fun o=>(a,o)
noncomputable def bf (g h:Heap) (L d:Addr):List (Addr×Obj):=(yZ g h L).filter fun p=>decide (p.1≠d)
structure Mod (K:Fg) (mg:Str->Option Value) (base:Heap):Prop where
 kin:K.In base
 glob:base.Ns mainGlobals mg
 blt:∃mb,base.Ns builtinsNs mb/\∀x:Str,x ≠ "__name__"->mb x=bootBuiltins x
 nolimit:base.NoLimit
structure Cx where
 prog:Program
 w:World
 K:Fg
 mg:Str->Option Value
 base:Heap
 A:Around
 N:List Str
 s₀:Shared
 H₀:Hp
 env:Env
 outer:List Env
 stack:List Env
 ex:List Addr
 fn:Str->Bool
 calm:Bool
 pn:List (Addr×Obj)
 xe:Value->Shared->Prop
noncomputable def fN (l:List Env):List Addr:=l.filterMap (·.frame)
noncomputable abbrev Cx.fs (X:Cx):List Addr:=fN X.outer
noncomputable def De (sc:Scope) (x:Str):Prop:=sc.names.lookup x=some .local\/sc.names.lookup x=some .cell\/sc.names.lookup x=some .free
noncomputable def Loc (sc:Scope) (x:Str):Prop:=sc.names.lookup x=some .local\/sc.names.lookup x=some .cell
noncomputable def Look (env:Env) (h:Heap) (m:Str->Option Value) (x:Str) (u:Value):Prop:=
 (env.kindOf x=some .local/\m x=some u)\/((env.kindOf x=some .cell\/env.kindOf x=some .free)/\∃c,env.cells.lookup x=some c/\h.IsCell c (some u))
structure Cx.Ok (X:Cx):Prop where
 mod:Mod X.K X.mg X.base
 kind:X.env.scope.kind=.function
 glob:X.env.globals=mainGlobals
 blt:X.env.builtins=builtinsNs
 above:X.s₀.heap.objs.size<=X.env.locals
 inj:∀x y c,X.env.cells.lookup x=some c->X.env.cells.lookup y=some c->x=y
 has:∀x,(X.env.kindOf x=some .cell\/X.env.kindOf x=some .free)->∃c,X.env.cells.lookup x=some c
 cab:∀x c,X.fn x=true->X.env.cells.lookup x=some c->X.s₀.heap.objs.size<=c
 hd:X.calm=true->X.A.handled=none
 frames:X.A.frames=some X.stack
 stk:X.stack=X.outer\/(X.stack=X.env::X.outer/\X.env.frame=some X.env.locals)
 exf:∀b∈X.ex,b≠X.env.locals/\∀x c,X.env.cells.lookup x=some c->c≠b
 bs:∀b o,X.base.get? b=some o->X.s₀.heap.get? b=some o/\X.H₀ b=none
 bsz:X.base.objs.size<=X.s₀.heap.objs.size
 noex:∀b o,X.base.get? b=some o->b∉X.ex
 exfs:∀b∈X.ex,b∉X.fs
 funs:X.s₀.heap.FunFrames X.base X.outer
 frf:∀b∈X.fs,X.H₀ b=none
structure Inv (X:Cx) (pins:List (Addr×Obj)) (σ:List (Option V)) (H:Hp) (s:Shared):Prop where
 ok:X.Ok
 os:s.os=X.s₀.os
 bare:AllBare s.gens
 base:Un X.fs X.ex X.H₀ H X.s₀.heap s.heap
 loc:∃m,s.heap.Ns X.env.locals m/\∀(i:Nat) (x:Str) (v:V),X.N[i]?=some x->σ[i]?=some (some v)->De X.env.scope x->∃u,RelV v u/\Look X.env s.heap m x u
 cell:∀x c,X.env.cells.lookup x=some c->∃v,s.heap.IsCell c v
 free:H X.env.locals=none
 freeC:∀x c,X.env.cells.lookup x=some c->H c=none
 pin:∀p∈X.pn++pins,s.heap.get? p.1=some p.2/\H p.1=none/\p.1≠X.env.locals/\p.1∉X.fs/\∀v,p.2.data≠.cell v
 hok:HOk X.prog X.w H s.heap
 len:σ.length=X.N.length
section
variable {X:Cx} {pins:List (Addr×Obj)} {σ:List (Option V)} {H H':Hp} {s:Shared} {h':Heap}
theorem Cx.Ok.nofr (ok:X.Ok) {b:Addr} {o:Obj} (e:X.base.get? b=some o):b∉X.fs:=fun hb=>by
 have:=(ok.funs.mem hb).1
 rw [e] at this;cases this
theorem Inv.bs (I:Inv X pins σ H s):∀b o,X.base.get? b=some o->s.heap.get? b=some o/\H b=none:=fun b o e=>
 ⟨I.base.keep b o (I.ok.bs b o e).1 (I.ok.bs b o e).2 (I.ok.nofr e) (I.ok.noex b o e),I.base.free b o (I.ok.bs b o e).1 (I.ok.bs b o e).2 (I.ok.noex b o e)⟩
theorem Inv.bk (I:Inv X pins σ H s):∀b o,X.base.get? b=some o->s.heap.get? b=some o:=fun b o e=>(I.bs b o e).1
theorem Inv.mod (I:Inv X pins σ H s):Mod X.K X.mg X.base:=I.ok.mod
theorem Inv.kIn (I:Inv X pins σ H s):X.K.In s.heap:=I.ok.mod.kin.keeps I.bk
theorem Inv.lt (I:Inv X pins σ H s):X.env.locals<s.heap.objs.size:=let ⟨_,hn,_⟩:=I.loc;hn.lt
theorem Inv.sz (I:Inv X pins σ H s):X.s₀.heap.objs.size<=s.heap.objs.size:=Nat.le_trans I.ok.above (Nat.le_of_lt I.lt)
theorem Inv.nofs (I:Inv X pins σ H s) {a:Addr} (h:s.heap.objs.size<=a):a∉X.fs:=fun hb=>by
 obtain ⟨_,o,ho,_⟩:=I.ok.funs.mem hb;exact absurd (Nat.lt_of_lt_of_le (Heap.lt_size ho) (Nat.le_trans I.sz h)) (Nat.lt_irrefl _)
theorem Inv.cne (I:Inv X pins σ H s):∀x c,X.env.cells.lookup x=some c->c≠X.env.locals:=fun x c e z=>by
 obtain ⟨v,o,ho,hd⟩:=I.cell x c e;obtain ⟨m,⟨o',es,ep,ho',hd',_⟩,_⟩:=I.loc;rw [z,ho'] at ho;cases ho;rw [hd'] at hd;cases hd
theorem Inv.funs (I:Inv X pins σ H s):s.heap.FunFrames X.base X.outer:=by
 have all:∀(l:List Env),(∀b∈fN l,b∈X.fs)->X.s₀.heap.FunFrames X.base l->s.heap.FunFrames X.base l:=by
  intro l;induction l with
  | nil=>intro _ _;trivial
  | cons env r ih=>
   intro hs hl;obtain ⟨hk,⟨L,o,hf,hn,ho,hd⟩,hr⟩:=hl;have hL:L∈X.fs:=hs L (by unfold fN;rw [filterMap_cons,hf];exact mem_cons_self)
   obtain ⟨sl,e⟩:=I.base.slot L o ho (I.ok.frf L hL) hL fun z=>I.ok.exfs L z hL
   exact ⟨hk,⟨L,_,hf,hn,e,hd⟩,ih (fun b hb=>hs b (by unfold fN;rw [filterMap_cons,hf];exact mem_cons_of_mem _ hb)) hr⟩
 exact all X.outer (fun _ hb=>hb) I.ok.funs
theorem Inv.stack (I:Inv X pins σ H s):s.heap.FunFrames X.base X.stack:=by
 rcases I.ok.stk with e | ⟨e,hf⟩
 ·rw [e];exact I.funs
 ·rw [e]
  obtain ⟨m,hn,_⟩:=I.loc;refine .cons (by rw [I.ok.kind];decide) hf hn ?_ I.funs
  exact Heap.get?_none_of_le (Nat.le_trans I.ok.bsz I.ok.above)
theorem Inv.stkSub (I:Inv X pins σ H s):∀b∈fN X.stack,b∈X.env.locals::X.fs:=fun b hb=>by
 rcases I.ok.stk with e | ⟨e,hf⟩
 ·rw [e] at hb;exact mem_cons_of_mem _ hb
 ·rw [e] at hb
  unfold fN at hb;rw [filterMap_cons,hf] at hb;exact hb
theorem Inv.stkFree (I:Inv X pins σ H s):∀b∈fN X.stack,H b=none:=fun b hb=>by
 rcases List.mem_cons.mp (I.stkSub b hb) with e | hb
 ·rw [e];exact I.free
 ·obtain ⟨_,o,ho,_⟩:=I.ok.funs.mem hb
  exact I.base.free b o ho (I.ok.frf b hb) fun z=>I.ok.exfs b z hb
theorem Inv.step {g':Array GenState} {t':Nat} {d':Drawn} {ch:List Addr} (I:Inv X pins σ H s)
  (hch:∀b∈ch,(b∈X.ex\/X.s₀.heap.objs.size<=b)/\b≠X.env.locals/\(∀x c,X.env.cells.lookup x=some c->c≠b)/\∀p∈X.pn++pins,p.1≠b)
  (keep:∀b o,b≠X.env.locals->b∉X.fs->b∉ch->s.heap.get? b=some o->H b=none->h'.get? b=some o)
  (slot:∀b o,b≠X.env.locals->b∈X.fs->b∉ch->s.heap.get? b=some o->H b=none->∃sl,h'.get? b=some { o with slots:=sl }) (free:∀b o,b∉ch->s.heap.get? b=some o->H b=none->H' b=none)
  (there:∀b o,b∉ch->s.heap.get? b=some o->∃o',h'.get? b=some o')
  (tups:∀b xs,H b=some (.tup xs)->H' b=some (.tup xs)) (frzs:∀b o u,H b=some (.frz o u)->H' b=some (.frz o u)) (tbls:∀b ps,H b=some (.tbl ps)->∃more,H' b=some (.tbl (ps++more)))
  (ns:∀m,s.heap.Ns X.env.locals m->h'.Ns X.env.locals m) (hok:HOk X.prog X.w H' h') (hg:AllBare g') :
  Inv X pins σ H' { s with heap:=h',gens:=g',drawn:=d',toks:=t' }:=by
 have neL:∀b o,X.s₀.heap.get? b=some o->b≠X.env.locals:=fun b o e=>Nat.ne_of_lt (Nat.lt_of_lt_of_le (Heap.lt_size e) I.ok.above)
 have neC:∀b o,X.s₀.heap.get? b=some o->b∉X.ex->b∉ch:=fun b o e hx hb=>by
  rcases (hch b hb).1 with z | z
  ·exact hx z
  ·exact absurd (Nat.lt_of_lt_of_le (Heap.lt_size e) z) (Nat.lt_irrefl _)
 have cellK:∀x c,X.env.cells.lookup x=some c->∀v,s.heap.IsCell c v->h'.IsCell c v:=fun x c e v ⟨o,ho,hd⟩=>by
  have nch:c∉ch:=fun z=>(hch c z).2.2.1 x c e rfl
  by_cases hc:c∈X.fs
  ·obtain ⟨sl,q⟩:=slot c o (I.cne x c e) hc nch ho (I.freeC x c e)
   exact ⟨_,q,hd⟩
  ·exact ⟨o,keep c o (I.cne x c e) hc nch ho (I.freeC x c e),hd⟩
 refine ⟨I.ok,I.os,hg,⟨fun b o e n hb hx=>?_,fun b o e n hb hx=>?_,fun b o e n hx=>?_,fun b o e hx=>?_,fun b xs e=>tups b xs (I.base.tups b xs e),fun b o xs e=>frzs b o xs (I.base.frzs b o xs e),fun b ps e=>?_⟩,?_,fun x c e=>?_,?_,fun x c e=>?_,fun p hp=>?_,hok,I.len⟩
 ·exact keep b o (neL b o e) hb (neC b o e hx) (I.base.keep b o e n hb hx) (I.base.free b o e n hx)
 ·obtain ⟨sl,e1⟩:=I.base.slot b o e n hb hx
  obtain ⟨sl',e2⟩:=slot b _ (neL b o e) hb (neC b o e hx) e1 (I.base.free b o e n hx);exact ⟨sl',e2⟩
 ·obtain ⟨o',e1⟩:=I.base.there b o e hx
  exact free b o' (neC b o e hx) e1 (I.base.free b o e n hx)
 ·obtain ⟨o',e1⟩:=I.base.there b o e hx
  exact there b o' (neC b o e hx) e1
 ·obtain ⟨m1,e1⟩:=I.base.tbls b ps e
  obtain ⟨m2,e2⟩:=tbls b _ e1;exact ⟨m1++m2,by rw [e2,Array.append_assoc]⟩
 ·obtain ⟨m,hn,hl⟩:=I.loc
  refine ⟨m,ns m hn,fun i x v e1 e2 e3=>?_⟩
  obtain ⟨u,r,l⟩:=hl i x v e1 e2 e3;refine ⟨u,r,?_⟩
  rcases l with l | ⟨k,c,e,z⟩
  ·exact .inl l
  ·exact .inr ⟨k,c,e,cellK x c e _ z⟩
 ·obtain ⟨v,z⟩:=I.cell x c e
  exact ⟨v,cellK x c e v z⟩
 ·obtain ⟨m,⟨o,_,_,ho,_⟩,_⟩:=I.loc
  exact free _ o (fun z=>(hch _ z).2.1 rfl) ho I.free
 ·obtain ⟨v,o,ho,hd⟩:=I.cell x c e
  exact free c o (fun z=>(hch c z).2.2.1 x c e rfl) ho (I.freeC x c e)
 ·obtain ⟨e,n,ne,nf,d⟩:=I.pin p hp
  have nch:p.1∉ch:=fun z=>(hch p.1 z).2.2.2 p hp rfl
  exact ⟨keep p.1 p.2 ne nf nch e n,free p.1 p.2 nch e n,ne,nf,d⟩
theorem Inv.un {t':Nat} (I:Inv X pins σ H s) (u:Un X.fs [] H H' s.heap h') (hok:HOk X.prog X.w H' h'):Inv X pins σ H' { s with heap:=h',toks:=t' }:=by
 obtain ⟨m,⟨o,es,ep,ho,r⟩,_⟩:=id I.loc;obtain ⟨sl,hL⟩:=u.any ho I.free (by simp)
 exact I.step (g':=s.gens) (d':=s.drawn) (ch:=[]) (fun _ z=>nomatch z) (fun b o _ hb _ e n=>u.keep b o e n hb (by simp)) (fun b o _ hb _ e n=>u.slot b o e n hb (by simp)) (fun b o _ e n=>u.free b o e n (by simp)) (fun b o _ e=>u.there b o e (by simp)) u.tups u.frzs u.tbls (fun m' hm=>by
  obtain ⟨o',es',ep',ho',r'⟩:=hm;rw [ho] at ho';cases ho'
  exact ⟨_,es',ep',hL,r'⟩) hok I.bare
theorem Inv.call {g':Array GenState} {t':Nat} {d':Drawn} {ch:List Addr} (I:Inv X pins σ H s) (u:Un (fN X.stack) ch H H' s.heap h') (hok:HOk X.prog X.w H' h') (hg:AllBare g')
  (hch:∀b∈ch,(b∈X.ex\/X.s₀.heap.objs.size<=b)/\b≠X.env.locals/\(∀x c,X.env.cells.lookup x=some c->c≠b)/\∀p∈X.pn++pins,p.1≠b) :
  Inv X pins σ H' { s with heap:=h',gens:=g',drawn:=d',toks:=t' }:=by
 obtain ⟨m,⟨o,es,ep,ho,r⟩,_⟩:=id I.loc;obtain ⟨sl,hL⟩:=u.any ho I.free fun z=>(hch _ z).2.1 rfl
 exact I.step (ch:=ch) hch (fun b o hL hb hc e n=>u.keep b o e n (fun z=>(List.mem_cons.mp (I.stkSub b z)).elim hL hb) hc) (fun b o _ _ hc e n=>u.any e n hc) (fun b o hc e n=>u.free b o e n hc) (fun b o hc e=>u.there b o e hc) u.tups u.frzs u.tbls (fun m' hm=>by
  obtain ⟨o',es',ep',ho',r'⟩:=hm;rw [ho] at ho';cases ho'
  exact ⟨_,es',ep',hL,r'⟩) hok hg
theorem Inv.turned {t':Nat} {it:Addr} (I:Inv X pins σ H s) (k:∀b o,b≠it->s.heap.get? b=some o->h'.get? b=some o) (hn:H it=none) (hL:it≠X.env.locals)
  (h1:it∈X.ex\/X.s₀.heap.objs.size<=it) (h2:∀x c,X.env.cells.lookup x=some c->c≠it) (h3:∀p∈X.pn++pins,p.1≠it):Inv X pins σ H { s with heap:=h',toks:=t' }:=by
 have nit:∀b u,H b=some u->b≠it:=fun b u e z=>by rw [z,hn] at e;cases e
 refine I.step (g':=s.gens) (d':=s.drawn) (ch:=[it]) (fun b hb=>?_) (fun b o _ _ hc e _=>k b o (fun z=>hc (by simp [z])) e) (fun b o _ _ hc e _=>⟨o.slots,k b o (fun z=>hc (by simp [z])) e⟩) (fun _ _ _ _ n=>n)
  (fun b o hc e=>⟨o,k b o (fun z=>hc (by simp [z])) e⟩) (fun _ _ e=>e) (fun _ _ _ e=>e) (fun b ps e=>⟨#[],by rw [e];simp⟩) (fun m hm=>?_) (fun b u e=>?_) I.bare
 ·have e:b=it:=by simpa using hb
  subst e;exact ⟨h1,hL,h2,h3⟩
 ·obtain ⟨o,es,ep,ho,r⟩:=hm
  exact ⟨o,es,ep,k _ o (Ne.symm hL) ho,r⟩
 ·refine (I.hok b u e).stay (fun c v hc q=>k c v ?_ q) (fun _ q=>q) fun _ _ q=>q
  rcases hc with z | z
  ·rw [z];exact nit b u e
  ·exact nit c _ z
theorem Inv.tok (I:Inv X pins σ H s) (t:Nat):Inv X pins σ H { s with toks:=t }:=I.un (h':=s.heap) (t':=t) Un.refl I.hok
theorem Inv.kept {t':Nat} (I:Inv X pins σ H s) (k:∀b u,s.heap.get? b=some u->h'.get? b=some u):Inv X pins σ H { s with heap:=h',toks:=t' }:=I.un (Un.kept k) (I.hok.kept k)
theorem Inv.laid {a:Addr} {o:HO} {t':Nat} (I:Inv X pins σ H s) (k:∀b u,s.heap.get? b=some u->h'.get? b=some u) (hp:s.heap.objs.size<=a) (new:ObjOk X.prog X.w (bU H a o) h' a o) :
  Inv X pins σ (bU H a o) { s with heap:=h',toks:=t' }:=I.un (Un.laid k hp (I.hok.fresh hp)) (I.hok.laid k hp new)
theorem Inv.write {x e:Addr} {o:HO} {t':Nat} (I:Inv X pins σ H s) (mu:GW (H x)) (he:e=x\/H e=some (.own x)) (k:∀b u,b≠e->s.heap.get? b=some u->h'.get? b=some u) (heo:∃u,h'.get? e=some u)
  (new:ObjOk X.prog X.w (bU H x o) h' x o):Inv X pins σ (bU H x o) { s with heap:=h',toks:=t' }:=I.un (Un.write mu he k heo) (I.hok.write mu he k heo new)
theorem Inv.weak {σ':List (Option V)} (I:Inv X pins σ H s) (hl:σ'.length=σ.length) (w:∀(i:Nat) v,σ'[i]?=some (some v)->σ[i]?=some (some v)):Inv X pins σ' H s:=
 ⟨I.ok,I.os,I.bare,I.base,let ⟨m,hn,hl'⟩:=I.loc;⟨m,hn,fun i x v e1 e2 e3=>hl' i x v e1 (w i v e2) e3⟩,I.cell,I.free,I.freeC,I.pin,I.hok,hl.trans I.len⟩
theorem Inv.pins_of {pins':List (Addr×Obj)} (I:Inv X pins σ H s) (h:∀p∈pins',s.heap.get? p.1=some p.2/\H p.1=none/\p.1≠X.env.locals/\p.1∉X.fs/\∀v,p.2.data≠.cell v):Inv X pins' σ H s:=
 ⟨I.ok,I.os,I.bare,I.base,I.loc,I.cell,I.free,I.freeC,fun p hp=>(List.mem_append.mp hp).elim (fun z=>I.pin p (mem_append_left _ z)) (h p),I.hok,I.len⟩
theorem ID {N:List Str} (hN:N.Nodup) {i j:Nat} {x:Str} (a:N[i]?=some x) (b:N[j]?=some x):i=j:=by
 obtain ⟨h1,e1⟩:=List.getElem?_eq_some_iff.mp a
 obtain ⟨h2,e2⟩:=List.getElem?_eq_some_iff.mp b
 exact (List.getElem_inj hN).mp (e1.trans e2.symm)
theorem ka {M:Model} {A:Around} {E:Value->Shared->Prop} {i:Nat} {x:Str} {v:V} {u:Value} {Q:Unit->Shared->Prop} (I:Inv X pins σ H s) (hN:X.N.Nodup) (hi:X.N[i]?=some x) (hx:Loc X.env.scope x) (r:RelV v u)
  (h:∀s',Inv X pins (σ.set i (some v)) H s'->(∃a,Heap.SameBut a s.heap s'.heap/\(a=X.env.locals\/X.env.cells.lookup x=some a))->Q () s') (hf:X.fn x=true\/X.env.scope.names.lookup x=some .local:=by first | exact .inl rfl | exact .inr rfl | assumption):wpAny M A (storeName X.env x u) Q E s:=by
 obtain ⟨m,hn,hl⟩:=id I.loc;have hcls:(X.env.scope.kind==.class||(X.env.scope.kind==.module&&X.env.locals != X.env.globals))=false:=by rw [I.ok.kind];rfl
 have hiσ:i<σ.length:=by rw [I.len];exact (List.getElem?_eq_some_iff.mp hi).1
 have cne:=I.cne
 have tracked:∀{a:Addr} {h':Heap},(∃o,s.heap.get? a=some o/\H a=none)->Heap.SameBut a s.heap h'->HOk X.prog X.w H h':=fun {a h'} ha hs b ob e=>by
  obtain ⟨_,_,hfree⟩:=ha;refine (I.hok b ob e).stay (fun c w' hc q=>(hs.2 c ?_).trans q) (fun _ q=>q) fun _ _ q=>q
  rintro rfl
  rcases hc with rfl | hc
  ·rw [hfree] at e;cases e
  ·rw [hfree] at hc;cases hc
 rcases hx with hk | hk
 ·refine wpAny_storeName_local hk hn (fun h' hn' hs=>?_) hcls
  obtain ⟨oL,_,_,hoL,_⟩:=id hn;refine h _ ⟨I.ok,I.os,I.bare,⟨fun b o e n hb hx=>?_,fun b o e n hb hx=>?_,I.base.free,fun b o e hx=>?_,I.base.tups,I.base.frzs,I.base.tbls⟩,⟨_,hn',fun j y v' e1 e2 e3=>?_⟩,fun y c e=>?_,I.free,I.freeC,fun p hp=>?_,tracked ⟨oL,hoL,I.free⟩ hs,by simpa using I.len⟩ ⟨_,hs,.inl rfl⟩
  ·exact (hs.2 b (Nat.ne_of_lt (Nat.lt_of_lt_of_le (Heap.lt_size e) I.ok.above))).trans (I.base.keep b o e n hb hx)
  ·obtain ⟨sl,e1⟩:=I.base.slot b o e n hb hx
   exact ⟨sl,(hs.2 b (Nat.ne_of_lt (Nat.lt_of_lt_of_le (Heap.lt_size e) I.ok.above))).trans e1⟩
  ·obtain ⟨o',e1⟩:=I.base.there b o e hx
   exact ⟨o',(hs.2 b (Nat.ne_of_lt (Nat.lt_of_lt_of_le (Heap.lt_size e) I.ok.above))).trans e1⟩
  ·by_cases hj:j=i
   ·subst hj
    rw [hi] at e1;cases e1;rw [getElem?_set_self hiσ] at e2
    cases e2;exact ⟨u,r,.inl ⟨hk,by simp⟩⟩
   ·rw [getElem?_set_ne (Ne.symm hj)] at e2
    obtain ⟨u',r',q⟩:=hl j y v' e1 e2 e3
    refine ⟨u',r',?_⟩
    rcases q with ⟨k,e⟩ | ⟨k,c,e,z⟩
    ·refine .inl ⟨k,?_⟩
     have:y≠x:=fun e=>hj (ID hN e1 (e▸hi))
     simp [this,e]
    ·exact .inr ⟨k,c,e,z.sameBut hs (cne y c e)⟩
  ·obtain ⟨w',z⟩:=I.cell y c e
   exact ⟨w',z.sameBut hs (cne y c e)⟩
  ·obtain ⟨e,n,ne,nf,d⟩:=I.pin p hp
   exact ⟨(hs.2 p.1 ne).trans e,n,ne,nf,d⟩
 ·have hfn:X.fn x=true:=by
   rcases hf with z | z
   ·exact z
   ·rw [z] at hk;cases hk
  obtain ⟨c,hc⟩:=I.ok.has x (.inl hk);obtain ⟨w',z⟩:=I.cell x c hc;refine wpAny_storeName_cell I.ok.kind hk hc z (fun h' hc' hs=>?_)
  obtain ⟨oc,hoc,hocd⟩:=id z;refine h { s with heap:=h' } ⟨I.ok,I.os,I.bare,⟨fun b o e n hb hx=>?_,fun b o e n hb hx=>?_,I.base.free,fun b o e hx=>?_,I.base.tups,I.base.frzs,I.base.tbls⟩,⟨m,hn.sameBut hs (Ne.symm (cne x c hc)),fun j y v' e1 e2 e3=>?_⟩,fun y c' e=>?_,I.free,I.freeC,fun p hp=>?_,tracked ⟨oc,hoc,I.freeC x c hc⟩ hs,by simpa using I.len⟩ ⟨c,hs,.inr hc⟩
  ·exact (hs.2 b (Nat.ne_of_lt (Nat.lt_of_lt_of_le (Heap.lt_size e) (I.ok.cab x c hfn hc)))).trans (I.base.keep b o e n hb hx)
  ·obtain ⟨sl,e1⟩:=I.base.slot b o e n hb hx
   exact ⟨sl,(hs.2 b (Nat.ne_of_lt (Nat.lt_of_lt_of_le (Heap.lt_size e) (I.ok.cab x c hfn hc)))).trans e1⟩
  ·obtain ⟨o',e1⟩:=I.base.there b o e hx
   exact ⟨o',(hs.2 b (Nat.ne_of_lt (Nat.lt_of_lt_of_le (Heap.lt_size e) (I.ok.cab x c hfn hc)))).trans e1⟩
  ·by_cases hj:j=i
   ·subst hj
    rw [hi] at e1;cases e1;rw [getElem?_set_self hiσ] at e2
    cases e2;exact ⟨u,r,.inr ⟨.inl hk,c,hc,hc'⟩⟩
   ·rw [getElem?_set_ne (Ne.symm hj)] at e2
    obtain ⟨u',r',q⟩:=hl j y v' e1 e2 e3
    refine ⟨u',r',?_⟩
    rcases q with q | ⟨k,c',e,z'⟩
    ·exact .inl q
    ·refine .inr ⟨k,c',e,z'.sameBut hs ?_⟩
     rintro rfl
     exact hj (ID hN e1 (I.ok.inj _ _ _ e hc▸hi))
  ·by_cases hcc:c'=c
   ·subst hcc;exact ⟨_,hc'⟩
   ·obtain ⟨w2,z2⟩:=I.cell y c' e
    exact ⟨w2,z2.sameBut hs hcc⟩
  ·obtain ⟨e,n,ne,nf,d⟩:=I.pin p hp
   refine ⟨(hs.2 p.1 ?_).trans e,n,ne,nf,d⟩
   intro q;rw [q,hoc] at e;have q':oc=p.2:=Option.some.inj e
   exact d w' (by rw [<-q'];exact hocd)
theorem HC {M:Model} {A:Around} {E:Value->Shared->Prop} {i:Nat} {x:Str} {v:V} {u:Value} {Q:Unit->Shared->Prop} (I:Inv X pins σ H s) (hN:X.N.Nodup) (hi:X.N[i]?=some x) (hx:Loc X.env.scope x) (r:RelV v u)
  (h:∀s',Inv X pins (σ.set i (some v)) H s'->Q () s') (hf:X.fn x=true\/X.env.scope.names.lookup x=some .local:=by first | exact .inl rfl | exact .inr rfl | assumption):wpAny M A (storeName X.env x u) Q E s:=
 ka I hN hi hx r (fun s' I' _=>h s' I') hf
theorem Inv.call' {s':Shared} {ch:List Addr} (I:Inv X pins σ H s) (ho:s'.os=s.os) (u:Un (fN X.stack) ch H H' s.heap s'.heap) (hok:HOk X.prog X.w H' s'.heap) (hg:AllBare s'.gens)
  (hch:∀b∈ch,(b∈X.ex\/X.s₀.heap.objs.size<=b)/\b≠X.env.locals/\(∀x c,X.env.cells.lookup x=some c->c≠b)/\∀p∈X.pn++pins,p.1≠b):Inv X pins σ H' s':=by
 obtain ⟨h',g',d',t',o'⟩:=s'
 have e:o'=s.os:=ho
 subst e;exact I.call (g':=g') (t':=t') (d':=d') u hok hg hch
end
abbrev XK:=Value->Option Addr->Hp->Prop
abbrev St:=List (Option V)
abbrev VK:=V->Hp->Prop
abbrev TE:=St->Hp->VK->Prop
abbrev TT:=St->Hp->(Bool->Hp->Prop)->Prop
abbrev TA:=St->Hp->(List V->Hp->Prop)->Prop
structure eu where
 nx:St->Hp->Prop
 rt:VK
 bk:St->Hp->Prop:=fun _ _=>False
 ct:St->Hp->Prop:=fun _ _=>False
abbrev TS:=eu->St->Hp->Prop
noncomputable def EP (X:Cx) (pins:List (Addr×Obj)) (σ:St) (Q:VK) (u:Value) (s':Shared):Prop:=∃v H',Inv X pins σ H' s'/\RelV v u/\Q v H'
noncomputable def TP (X:Cx) (pins:List (Addr×Obj)) (σ:St) (Q:Bool->Hp->Prop) (b:Bool) (s':Shared):Prop:=∃H',Inv X pins σ H' s'/\Q b H'
noncomputable def AP (X:Cx) (pins:List (Addr×Obj)) (σ:St) (Q:List V->Hp->Prop) (us:List Value) (s':Shared):Prop:=∃vs H',Inv X pins σ H' s'/\Vals vs us/\Q vs H'
noncomputable def SP (X:Cx) (pins:List (Addr×Obj)) (D:eu) (f:Flow) (s':Shared):Prop:=
 match f with
 | .next=>∃σ' H',Inv X pins σ' H' s'/\D.nx σ' H'
 | .brk=>∃σ' H',Inv X pins σ' H' s'/\D.bk σ' H'
 | .cont=>∃σ' H',Inv X pins σ' H' s'/\D.ct σ' H'
 | .ret u=>∃v σ' H',Inv X pins σ' H' s'/\RelV v u/\D.rt v H'
noncomputable def PE (X:Cx) (e:Expr) (t:TE):Prop:=
 ∀(pins:List (Addr×Obj)) (s:Shared) (σ:St) (H:Hp) (Q:VK),Inv X pins σ H s->t σ H Q->wpAny (model X.prog X.w) X.A (eval e X.env) (EP X pins σ Q) X.xe s
noncomputable def PT (X:Cx) (e:Expr) (t:TT):Prop:=
 ∀(pins:List (Addr×Obj)) (s:Shared) (σ:St) (H:Hp) (Q:Bool->Hp->Prop),Inv X pins σ H s->t σ H Q->wpAny (model X.prog X.w) X.A (isTrue e X.env (eval e X.env)) (TP X pins σ Q) X.xe s
noncomputable def PW (X:Cx) (e:Expr) (t:TT):Prop:=
 ∀(whole:Sem Value) (pins:List (Addr×Obj)) (s:Shared) (σ:St) (H:Hp) (Q:Bool->Hp->Prop),Inv X pins σ H s->t σ H Q->wpAny (model X.prog X.w) X.A (isTrue e X.env whole) (TP X pins σ Q) X.xe s
theorem PW.pt {X:Cx} {e:Expr} {t:TT} (h:PW X e t):PT X e t:=h _
noncomputable def PA (X:Cx) (es:List Expr) (t:TA):Prop:=
 ∀(pos:Pos) (pins:List (Addr×Obj)) (s:Shared) (σ:St) (H:Hp) (Q:List V->Hp->Prop),Inv X pins σ H s->t σ H Q->wpAny (model X.prog X.w) X.A (spliced (backTo pos (starEach es X.env))) (AP X pins σ Q) X.xe s
noncomputable def PS (X:Cx) (st:Stmt) (t:TS):Prop:=
 ∀(pins:List (Addr×Obj)) (s:Shared) (σ:St) (H:Hp) (D:eu),Inv X pins σ H s->t D σ H->wpAny (model X.prog X.w) X.A (exec st X.env) (SP X pins D) X.xe s
noncomputable def PSs (X:Cx) (st:List Stmt) (t:TS):Prop:=
 ∀(pins:List (Addr×Obj)) (s:Shared) (σ:St) (H:Hp) (D:eu),Inv X pins σ H s->t D σ H->wpAny (model X.prog X.w) X.A (execs st X.env) (SP X pins D) X.xe s
theorem bF {α:Type} {t:Sem α} {Q Q':α->Shared->Prop} {M:Model} {A:Around} {E:Value->Shared->Prop} {s:Shared} (h:wpAny M A t Q E s) (hQ:∀a s,Q a s->Q' a s):wpAny M A t Q' E s:=wpAny_mono h hQ fun _ _ x=>x
section
variable {X:Cx}
noncomputable def b6 (i:Nat):TE:=fun σ H Q=>∃v,σ[i]?=some (some v)/\Q v H
noncomputable def tC (v:V):TE:=fun _ H Q=>Q v H
theorem wB {i:Nat} {x:Str} {pos:Pos} (hN:X.N[i]?=some x) (hv:De X.env.scope x) (hd:(x==("__debug__":Str))=false:=by decide) (hcd:(x==("__classdict__":Str))=false:=by decide):PE X (.Name x pos) (b6 i):=by
 intro pins s σ H Q I h;obtain ⟨v,e,h⟩:=h;obtain ⟨m,hn,hl⟩:=I.loc;obtain ⟨u,r,l⟩:=hl i x v hN e hv;have fin:EP X pins σ Q u s:=⟨v,H,I,r,h⟩
 rcases l with ⟨hk,hm⟩ | ⟨hk,c,hc,hcell⟩
 ·exact wpAny_Name (wpAny_loadName_local I.ok.kind hk hn hm fin) hd
 ·rcases hk with hk | hk
  ·exact wpAny_Name (wpAny_loadName_cell I.ok.kind hk hc hcell fin) hd
  ·exact wpAny_Name (wpAny_loadName_free I.ok.kind hk hc hcell fin hcd) hd
theorem BM {i j pos}:PE X (.Constant (.int i) j pos) (tC (.int i)):=fun _ _ _ H _ I h=>wpAny_Constant_int ⟨.int i,H,I.tok _,⟨_,rfl⟩,h⟩
theorem zM {b j pos}:PE X (.Constant (.bool b) j pos) (tC (.bl b)):=fun _ _ _ H _ I h=>Constant_bool ⟨.bl b,H,I,rfl,h⟩
theorem BL {j pos}:PE X (.Constant .none j pos) (tC .non):=fun _ _ _ H _ I h=>Constant_none ⟨.non,H,I,rfl,h⟩
theorem BJ {x j pos}:PE X (.Constant (.str x) j pos) (tC (.str x)):=fun _ _ _ H _ I h=>Calls.Constant_str ⟨.str x,H,I.tok _,⟨_,rfl⟩,h⟩
noncomputable def Gl (X:Cx) (x:Str):Prop:=X.env.kindOf x=some .globalImplicit
theorem zh {E:Value->Shared->Prop} {pins:List (Addr×Obj)} {s:Shared} {σ:St} {H:Hp} {x:Str} {u:Value} {pos:Pos} {Q:Value->Shared->Prop} (I:Inv X pins σ H s) (hg:Gl X x) (hm:X.mg x=some u) (h:Q u s)
  (hd:(x==("__debug__":Str))=false:=by decide):wpAny (model X.prog X.w) X.A (eval (.Name x pos) X.env) Q E s:=
 Calls.Name_function_global I.ok.kind hg (Calls.loadGlobal_global (by rw [I.ok.glob];exact I.mod.glob.keeps I.bk) hm h) hd
theorem wR {E:Value->Shared->Prop} {pins:List (Addr×Obj)} {s:Shared} {σ:St} {H:Hp} {x:Str} {u:Value} {pos:Pos} {Q:Value->Shared->Prop} (I:Inv X pins σ H s) (hg:Gl X x) (hm:X.mg x=none) (hv:bootBuiltins x=some u) (h:Q u s)
  (hn:x ≠ "__name__":=by decide) (hd:(x==("__debug__":Str))=false:=by decide):wpAny (model X.prog X.w) X.A (eval (.Name x pos) X.env) Q E s:=by
 obtain ⟨mb,h1,h2⟩:=I.mod.blt;exact Calls.Name_function_global I.ok.kind hg (Calls.loadGlobal_builtin (by rw [I.ok.glob];exact I.mod.glob.keeps I.bk) hm (by rw [I.ok.blt];exact h1.keeps I.bk) ((h2 x hn).trans hv) h) hd
theorem pM {x:Str} {v:V} {u:Value} {pos:Pos} (hg:Gl X x) (hm:X.mg x=some u) (r:RelV v u) (hd:(x==("__debug__":Str))=false:=by decide):PE X (.Name x pos) (tC v):=
 fun _ _ _ H _ I h=>zh I hg hm ⟨v,H,I,r,h⟩ hd
theorem pP {x:Str} {v:V} {u:Value} {pos:Pos} (hg:Gl X x) (hm:X.mg x=none) (hv:bootBuiltins x=some u) (r:RelV v u) (hn:x ≠ "__name__":=by decide) (hd:(x==("__debug__":Str))=false:=by decide):PE X (.Name x pos) (tC v):=
 fun _ _ _ H _ I h=>wR I hg hm hv ⟨v,H,I,r,h⟩ hn hd
variable {a b:Expr} {ta tb:TE} {pos:Pos}
noncomputable def PC (X:Cx) (op:CmpOp) (a b:Expr) (t:TE):Prop:=
 ∀(pins:List (Addr×Obj)) (s:Shared) (σ:St) (H:Hp) (Q:VK),Inv X pins σ H s->t σ H Q ->
  wpAny (model X.prog X.w) X.A (eval a X.env) (fun v s₁=>wpAny (model X.prog X.w) X.A (eval b X.env) (fun u s₂=>wpAny (model X.prog X.w) X.A (compareOp op v u) (EP X pins σ Q) X.xe s₂) X.xe s₁) X.xe s
noncomputable def tB (t:TE):TT:=fun σ H Q=>t σ H fun x H1=>∃c,x=.bl c/\Q c H1
theorem BN {op:CmpOp} {t:TE} (h:PC X op a b t) (h1:behindInMarks op b=false:=by first | exact nobehind _ (by decide) (by decide) | rfl):PE X (.Compare a [op] [b] pos) t:=fun pins s σ H Q I hw=>wpAny_Compare1 (h pins s σ H Q I hw) h1
theorem BC {op:CmpOp} {t:TE} (h:PC X op a b t) (h1:behindInMarks op b=false:=by first | exact nobehind _ (by decide) (by decide) | rfl):PT X (.Compare a [op] [b] pos) (tB t):=by
 intro pins s σ H Q I hw;refine wpAny_isTrue_Compare1 (bF (h pins s σ H _ I hw) fun v s1 h1=>bF h1 fun u s2 h2=>bF h2 fun c s3 ⟨x,H1,I1,r1,q1⟩=>?_) h1
 obtain ⟨d,rfl,q⟩:=q1
 cases r1;exact wpAny_truthy_bool ⟨H1,I1,q⟩
variable {tA tB':TT} {bf:List Expr}
noncomputable def KS (t u:TT):TT:=fun σ H Q=>t σ H fun c H1=>if c=true then Q true H1 else u σ H1 Q
noncomputable def EF (t:TT):TT:=fun σ H Q=>t σ H fun c H1=>Q (!c) H1
theorem BA (ha:PT X a tA):PW X (.BoolOp .Or [a] pos) tA:=by
 intro wh pins s σ H Q I h;refine isTrue_or (bF (ha pins s σ H Q I h) fun c s1 e=>?_)
 cases c with
 | false=>exact isTrue_or_nil e
 | true=>exact e
theorem Ff (ha:PT X a tA) (hb:PW X (.BoolOp .Or (b::bf) pos) tB'):PW X (.BoolOp .Or (a::b::bf) pos) (KS tA tB'):=by
 intro wh pins s σ H Q I h;refine isTrue_or (bF (ha pins s σ H _ I h) fun c s1 ⟨H1,I1,q1⟩=>?_)
 cases c with
 | true=>exact ⟨H1,I1,q1⟩
 | false=>exact hb wh pins s1 σ H1 Q I1 q1
theorem BB (ha:PT X a tA):PT X (.UnaryOp .Not a pos) (EF tA):=by
 intro pins s σ H Q I h;exact isTrue_not (ha pins s σ H (fun c H1=>Q (!c) H1) I h)
noncomputable def zA (ta tb:TE):TE:=fun σ H Q=>ta σ H fun x H1=>∃c,x=.bl c/\if c=true then tb σ H1 Q else Q (.bl false) H1
noncomputable def ED (ta tb:TE):TE:=fun σ H Q=>ta σ H fun x H1=>∃c,x=.bl c/\if c=true then Q (.bl true) H1 else tb σ H1 Q
noncomputable def zx (ta:TE):TE:=fun σ H Q=>ta σ H fun x H1=>∃c,x=.bl c/\Q (.bl (!c)) H1
theorem pe_one {op} {t:TE} (h:PE X a t):PE X (.BoolOp op [a] pos) t:=fun pins s σ H Q I hw=>BoolOp_one (h pins s σ H Q I hw)
theorem BO (ha:PE X a ta) (hb:PE X (.BoolOp .And (b::bf) pos) tb):PE X (.BoolOp .And (a::b::bf) pos) (zA ta tb):=by
 intro pins s σ H Q I h;refine BoolOp_and (bF (ha pins s σ H _ I h) fun v s1 ⟨x,H1,I1,r1,q1⟩=>?_)
 obtain ⟨c,rfl,q1⟩:=q1
 cases r1;refine wpAny_truthy_bool ?_
 cases c with
 | true=>exact hb pins s1 σ H1 Q I1 q1
 | false=>exact ⟨.bl false,H1,I1,rfl,q1⟩
theorem Fm (ha:PE X a ta) (hb:PE X (.BoolOp .Or (b::bf) pos) tb):PE X (.BoolOp .Or (a::b::bf) pos) (ED ta tb):=by
 intro pins s σ H Q I h;refine BoolOp_or (bF (ha pins s σ H _ I h) fun v s1 ⟨x,H1,I1,r1,q1⟩=>?_)
 obtain ⟨c,rfl,q1⟩:=q1
 cases r1;refine wpAny_truthy_bool ?_
 cases c with
 | false=>exact hb pins s1 σ H1 Q I1 q1
 | true=>exact ⟨.bl true,H1,I1,rfl,q1⟩
theorem BK (ha:PE X a ta):PE X (.UnaryOp .Not a pos) (zx ta):=by
 intro pins s σ H Q I h;refine UnaryOp_ (bF (ha pins s σ H _ I h) fun v s1 ⟨x,H1,I1,r1,q1⟩=>?_)
 obtain ⟨c,rfl,q1⟩:=q1
 cases r1;exact not_of (wpAny_truthy_bool ⟨.bl (!c),H1,I1,rfl,q1⟩)
noncomputable def KW (t:TT) (ta tb:TE):TE:=fun σ H Q=>t σ H fun c H1=>if c=true then ta σ H1 Q else tb σ H1 Q
theorem uQ {c:Expr} (hc:PT X c tA) (ha:PE X a ta) (hb:PE X b tb):PE X (.IfExp c a b pos) (KW tA ta tb):=by
 intro pins s σ H Q I h;refine wpAny_IfExp (bF (hc pins s σ H _ I h) fun d s1 ⟨H1,I1,q1⟩=>?_)
 cases d with
 | true=>exact ha pins s1 σ H1 Q I1 q1
 | false=>exact hb pins s1 σ H1 Q I1 q1
end
noncomputable def SqL (K:Fg) (H:Hp) (a:Addr) (xs:List V):Prop:=
 Rd H a (.lst xs) \/
  ∃(o:Obj) (its:Array Value) (n:Nat),K.lookup a=some o/\o.cls=.type "list"/\o.dict=none/\o.data=.seq its n/\its.size<=sizeLine/\Vals xs its.toList
noncomputable def SqT (K:Fg) (H:Hp) (a:Addr) (xs:List V):Prop:=
 Rd H a (.tup xs) \/
  ∃(o:Obj) (its:Array Value) (n:Nat),K.lookup a=some o/\o.cls=.type "tuple"/\o.data=.seq its n/\its.size<=sizeLine/\Vals xs its.toList
noncomputable def Ky:Value->Option V
 | .none=>some .non
 | .bool b=>some (.bl b)
 | .int i _=>some (.int i)
 | .str x _=>some (.str x)
 | .bytes b _=>some (.byt b)
 | .float b _=>some (.flt b)
 | .ref a=>some (.ref a)
 | .type n=>some (.ty n)
 | _=>none
theorem RelV.abs {x:V} {u:Value} (r:RelV x u):Ky u=some x:=by
 cases x with
 | non=>cases r;rfl
 | bl _=>cases r;rfl
 | int _=>obtain ⟨t,rfl⟩:=r;rfl
 | str _=>obtain ⟨t,rfl⟩:=r;rfl
 | byt _=>obtain ⟨t,rfl⟩:=r;rfl
 | flt _=>obtain ⟨t,rfl⟩:=r;rfl
 | ref _=>cases r;rfl
 | ty _=>cases r;rfl
theorem RelV.inj {x y:V} {u:Value} (r:RelV x u) (q:RelV y u):x=y:=Option.some.inj (r.abs.symm.trans q.abs)
theorem Vals.inj:∀{xs ys:List V} {us:List Value},Vals xs us->Vals ys us->xs=ys
 | _,_,_,.nil,.nil=>rfl
 | _,_,_,.cons r t,.cons r' t'=>by rw [r.inj r',Vals.inj t t']
section
variable {X:Cx} {pins:List (Addr×Obj)} {σ:St} {H:Hp} {s:Shared} {a:Addr} {xs ys:List V}
theorem SqL.of {K:Fg} (h:H a=some (.lst xs)):SqL K H a xs:=.inl (.inl h)
theorem SqT.of {K:Fg} (h:H a=some (.tup xs)):SqT K H a xs:=.inl (.inl h)
theorem Inv.list (I:Inv X pins σ H s) (h:SqL X.K H a xs):∃its:List Value,Vals xs its/\PlainL s.heap a its.toArray/\xs.length<=sizeLine:=by
 rcases h with h | ⟨o,its,n,hk,hc,hd,hs,hz,r⟩
 ·obtain ⟨z,its,n,r,e⟩:=h.ok I.hok
  exact ⟨its,r,⟨_,n,e,rfl,rfl,rfl⟩,z⟩
 ·refine ⟨its.toList,r,⟨o,n,I.kIn a o hk,hc,hd,by simpa using hs⟩,?_⟩
  have e:=r.length
  simp only [Array.length_toList] at e
  omega
theorem Inv.tuple (I:Inv X pins σ H s) (h:SqT X.K H a xs):∃its:List Value,Vals xs its/\IsTup s.heap a its.toArray/\xs.length<=sizeLine:=by
 rcases h with h | ⟨o,its,n,hk,hc,hs,hz,r⟩
 ·obtain ⟨z,its,r,p⟩:=h.ok I.hok
  exact ⟨its,r,p,z⟩
 ·refine ⟨its.toList,r,⟨o,I.kIn a o hk,hc,n,by simpa using hs⟩,?_⟩
  have e:=r.length
  simp only [Array.length_toList] at e
  omega
theorem Inv.list_inj (I:Inv X pins σ H s) (h:SqL X.K H a xs) (h':SqL X.K H a ys):xs=ys:=by
 obtain ⟨its,r,⟨o,n,e,_,_,d⟩,_⟩:=I.list h;obtain ⟨its',r',⟨o',n',e',_,_,d'⟩,_⟩:=I.list h'
 rw [e] at e';cases e'
 rw [d] at d';injection d' with d1 _
 have:its=its':=by simpa using congrArg Array.toList d1
 subst this;exact r.inj r'
theorem Inv.tuple_inj (I:Inv X pins σ H s) (h:SqT X.K H a xs) (h':SqT X.K H a ys):xs=ys:=by
 obtain ⟨its,r,⟨o,e,_,n,d⟩,_⟩:=I.tuple h;obtain ⟨its',r',⟨o',e',_,n',d'⟩,_⟩:=I.tuple h'
 rw [e] at e';cases e'
 rw [d] at d';injection d' with d1 _
 have:its=its':=by simpa using congrArg Array.toList d1
 subst this;exact r.inj r'
end
noncomputable abbrev Cx.wish (X:Cx) (E:Value->Shared->Prop):Cx:={ X with xe:=E }
noncomputable abbrev Cx.nox (X:Cx):Cx:=X.wish fun _ _=>False
theorem Cx.Ok.wish {X:Cx} (ok:X.Ok) (E:Value->Shared->Prop):(X.wish E).Ok:=
 ⟨ok.mod,ok.kind,ok.glob,ok.blt,ok.above,ok.inj,ok.has,ok.cab,ok.hd,ok.frames,ok.stk,ok.exf,ok.bs,ok.bsz,ok.noex,ok.exfs,ok.funs,ok.frf⟩
theorem Cx.Ok.unwish {X:Cx} {E:Value->Shared->Prop} (ok:(X.wish E).Ok):X.Ok:=
 ⟨ok.mod,ok.kind,ok.glob,ok.blt,ok.above,ok.inj,ok.has,ok.cab,ok.hd,ok.frames,ok.stk,ok.exf,ok.bs,ok.bsz,ok.noex,ok.exfs,ok.funs,ok.frf⟩
section
variable {X:Cx} {pins:List (Addr×Obj)} {σ:St} {H:Hp} {s:Shared} {E:Value->Shared->Prop}
theorem Inv.wish (I:Inv X pins σ H s) (E:Value->Shared->Prop):Inv (X.wish E) pins σ H s:=⟨I.ok.wish E,I.os,I.bare,I.base,I.loc,I.cell,I.free,I.freeC,I.pin,I.hok,I.len⟩
theorem Inv.unwish (I:Inv (X.wish E) pins σ H s):Inv X pins σ H s:=⟨I.ok.unwish,I.os,I.bare,I.base,I.loc,I.cell,I.free,I.freeC,I.pin,I.hok,I.len⟩
theorem SP.unwish {D:eu} {f:Flow} {s':Shared} (h:SP (X.wish E) pins D f s'):SP X pins D f s':=by
 cases f with
 | next=>obtain ⟨σ',H',I,q⟩:=h;exact ⟨σ',H',I.unwish,q⟩
 | brk=>obtain ⟨σ',H',I,q⟩:=h;exact ⟨σ',H',I.unwish,q⟩
 | cont=>obtain ⟨σ',H',I,q⟩:=h;exact ⟨σ',H',I.unwish,q⟩
 | ret u=>obtain ⟨v,σ',H',I,r,q⟩:=h;exact ⟨v,σ',H',I.unwish,r,q⟩
theorem PSs.nox {st:List Stmt} {t:TS} (h:PSs X.nox st t):PSs X st t:=fun pins s σ H D I hw=>
 wpAny_mono (h pins s σ H D (I.wish _) hw) (fun _ _ q=>q.unwish) fun _ _ z=>False.elim z
end
section
variable {X:Cx} {st:Stmt} {bf:List Stmt} {t u:TS} {e:Expr} {te:TE} {pos:Pos}
noncomputable def zy:TS:=fun D σ H=>D.nx σ H
noncomputable def gS (t u:TS):TS:=fun D σ H=>t { D with nx:=u D } σ H
theorem pJ:PSs X [] zy:=fun _ _ σ H _ I h=>wpAny_execs_nil ⟨σ,H,I,h⟩
theorem sM (h1:PS X st t) (h2:PSs X bf u):PSs X (st::bf) (gS t u):=by
 intro pins s σ H D I h;refine wpAny_execs_cons (bF (h1 pins s σ H { D with nx:=u D } I h) fun f s1 q=>?_)
 cases f with
 | next=>
  obtain ⟨σ',H',I',q⟩:=q;exact h2 pins s1 σ' H' D I' q
 | ret v=>exact q
 | brk=>exact q
 | cont=>exact q
theorem Aw (h1:PS X st t):PSs X [st] t:=by
 intro pins s σ H D I h;refine wpAny_execs_cons (bF (h1 pins s σ H D I h) fun f s1 q=>?_)
 cases f with
 | next=>exact wpAny_execs_nil q
 | ret v=>exact q
 | brk=>exact q
 | cont=>exact q
theorem Inv.quiet {pins:List (Addr×Obj)} {σ:St} {H:Hp} {s:Shared} (I:Inv X pins σ H s):interactive X.env=false:=by simp [interactive,I.ok.kind]
noncomputable def j9 (te:TE):TS:=fun D σ H=>te σ H fun _ H1=>D.nx σ H1
theorem Ea (he:PE X e te) (hs:swapsWith e none pos.line X.env=pure false:=by rfl):PS X (.Expr e pos) (j9 te):=by
 intro pins s σ H D I h;exact wpAny_Expr_any (bF (he pins s σ H _ I h) fun v s1 ⟨x,H1,I1,r1,q1⟩=>⟨σ,H1,I1,q1⟩) I.quiet hs
noncomputable def xf (te:TE):TS:=fun D σ H=>te σ H D.rt
theorem Hi (he:PE X e te):PS X (.Return (some e) pos) (xf te):=by
 intro pins s σ H D I h;exact wpAny_Return_some (bF (he pins s σ H _ I h) fun v s1 ⟨x,H1,I1,r1,q1⟩=>⟨x,σ,H1,I1,r1,q1⟩)
noncomputable def EH (c:TT) (t u:TS):TS:=fun D σ H=>c σ H fun b H1=>if b=true then t D σ H1 else u D σ H1
theorem Fi {c:Expr} {a b:List Stmt} {tc:TT} (hc:PT X c tc) (ha:PSs X a t) (hb:PSs X b u):PS X (.If c a b pos) (EH tc t u):=by
 intro pins s σ H D I h;refine wpAny_If (bF (hc pins s σ H _ I h) fun d s1 ⟨H1,I1,q1⟩=>?_)
 cases d with
 | true=>exact ha pins s1 σ H1 D I1 q1
 | false=>exact hb pins s1 σ H1 D I1 q1
end
abbrev TG:=V->St->Hp->(St->Hp->Prop)->Prop
abbrev Dg:=List V->St->Hp->(St->Hp->Prop)->Prop
noncomputable def PG (X:Cx) (target:Expr) (t:TG):Prop:=
 ∀(pins:List (Addr×Obj)) (s:Shared) (σ:St) (H:Hp) (v:V) (u:Value) (Q:St->Hp->Prop),Inv X pins σ H s->RelV v u->t v σ H Q ->
  wpAny (model X.prog X.w) X.A (assign target X.env u) (fun _ s'=>∃σ' H',Inv X pins σ' H' s'/\Q σ' H') X.xe s
noncomputable def Ie (X:Cx) (ts:List Expr) (t:Dg):Prop:=
 ∀(pins:List (Addr×Obj)) (s:Shared) (σ:St) (H:Hp) (vs:List V) (us:List Value) (Q:St->Hp->Prop),Inv X pins σ H s->Vals vs us->t vs σ H Q ->
  wpAny (model X.prog X.w) X.A (assignInOrder ((assignEach ts X.env).map (·.2)) us) (fun _ s'=>∃σ' H',Inv X pins σ' H' s'/\Q σ' H') X.xe s
abbrev KB:=V->V->V->Hp->(Hp->Prop)->Prop
abbrev Ic:=V->V->Hp->VK->Prop
noncomputable def LQ (X:Cx) (op:Operator) (t:Ic):Prop:=
 ∀(pins:List (Addr×Obj)) (s:Shared) (σ:St) (H:Hp) (x y:V) (v u:Value) (Q:VK),Inv X pins σ H s->RelV x v->RelV y u->t x y H Q ->
  wpAny (model X.prog X.w) X.A (inplaceOp op v u) (EP X pins σ Q) X.xe s
section
variable {X:Cx} {pos:Pos}
noncomputable def gName (i:Nat):TG:=fun v σ H Q=>Q (σ.set i (some v)) H
theorem wG {i:Nat} {x:Str} (hN:X.N.Nodup) (hi:X.N[i]?=some x) (hx:Loc X.env.scope x) (hf:X.fn x=true\/X.env.scope.names.lookup x=some .local:=by first | exact .inl rfl | exact .inr rfl | assumption):PG X (.Name x pos) (gName i):=by
 intro pins s σ H v u Q I r h;exact wpAny_assign_Name (HC I hN hi hx r (fun s' I'=>⟨_,H,I',h⟩) hf)
noncomputable def Gb:Dg:=fun vs σ H Q=>vs=[]/\Q σ H
noncomputable def vA (t:TG) (u:Dg):Dg:=fun vs σ H Q=>∃v r,vs=v::r/\t v σ H fun σ' H'=>u r σ' H' Q
theorem xQ:Ie X [] Gb:=by
 intro pins s σ H vs us Q I r h;obtain ⟨e,h⟩:=h;subst e
 cases r;exact assignInOrder_nil ⟨σ,H,I,h⟩
theorem mq {e:Expr} {es:List Expr} {t:TG} {u:Dg} (h1:PG X e t) (h2:Ie X es u)
  (hs:(assignEach (e::es) X.env).map (·.2)=assign e X.env::(assignEach es X.env).map (·.2):=by rfl):Ie X (e::es) (vA t u):=by
 intro pins s σ H vs us Q I r h;obtain ⟨v,vr,e1,h⟩:=h;subst e1
 cases r with
 | cons r rr=>
  rw [hs];refine assignInOrder_cons (bF (h1 pins s σ H _ _ _ I r h) fun _ s1 ⟨σ1,H1,I1,q1⟩=>?_)
  exact h2 pins s1 σ1 H1 _ _ Q I1 rr q1
noncomputable def Ga (K:Fg) (n:Nat) (t:Dg):TG:=fun v σ H Q=>∃a xs,v=.ref a/\SqT K H a xs/\xs.length=n/\t xs σ H Q
theorem BI {es:List Expr} {k:Nat} {t:Dg} {n:Nat} (hc:X.calm=true) (h:Ie X es t)
  (hn:(assignEach es X.env).length=n:=by rfl) (hst:(assignEach es X.env).findIdx? (·.1)=none:=by rfl):PG X (.Tuple es k pos) (Ga X.K n t):=by
 intro pins s σ H v u Q I r hw;obtain ⟨a,xs,e1,hq,hl,hw⟩:=hw;subst e1
 cases r;obtain ⟨its,rv,ht,hz⟩:=I.tuple hq;refine assign_Tuple_tuple (I.ok.hd hc) ht (by simp [hn,<-hl,rv.length]) hst fun h' hx=>?_
 have I1:Inv X pins σ H { s with heap:=h' }:=I.kept (t':=s.toks) fun b o e=>hx b o (Nat.ne_of_lt (Heap.lt_size e)) e
 exact h pins _ σ H xs _ Q I1 (by simpa using rv) hw
noncomputable def gSub (to ti:TE) (t:KB):TG:=fun v σ H Q=>to σ H fun o H1=>ti σ H1 fun i H2=>t o i v H2 fun H3=>Q σ H3
noncomputable def kE (te:TE) (g:TG):TS:=fun D σ H=>te σ H fun x H1=>g x σ H1 D.nx
theorem D1 {i:Nat} {x:Str} {e:Expr} {te:TE} {pos':Pos} (hN:X.N.Nodup) (hi:X.N[i]?=some x) (hx:Loc X.env.scope x) (he:PE X e te) (hs:swapsWith e (some (.Name x pos')) pos.line X.env=pure false:=by rfl) (hf:X.fn x=true\/X.env.scope.names.lookup x=some .local:=by first | exact .inl rfl | exact .inr rfl | assumption) :
  PS X (.Assign [.Name x pos'] e pos) (kE te (gName i)):=by
 intro pins s σ H D I h;refine wpAny_Assign_Name (bF (he pins s σ H _ I h) fun v s1 ⟨y,H1,I1,r1,q1⟩=>?_) hs
 exact HC I1 hN hi hx r1 (fun s2 I2=>⟨_,H1,I2,q1⟩) hf
noncomputable def EI (i:Nat) (te:TE) (ti:Ic):TS:=fun D σ H=>∃x,σ[i]?=some (some x)/\te σ H fun y H1=>ti x y H1 fun z H2=>D.nx (σ.set i (some z)) H2
theorem BE {i:Nat} {x:Str} {e:Expr} {te:TE} {op:Operator} {ti:Ic} {pos':Pos} (hN:X.N.Nodup) (hi:X.N[i]?=some x) (hx:Loc X.env.scope x) (he:PE X e te) (ho:LQ X op ti) (hf:X.fn x=true\/X.env.scope.names.lookup x=some .local:=by first | exact .inl rfl | exact .inr rfl | assumption) :
  PS X (.AugAssign (.Name x pos') op e pos) (EI i te ti):=by
 intro pins s σ H D I h;obtain ⟨v,e1,h⟩:=h;obtain ⟨m,hn,hl⟩:=I.loc;have vis:De X.env.scope x:=by rcases hx with k | k;exact .inl k;exact .inr (.inl k)
 obtain ⟨u,r,l⟩:=hl i x v hi e1 vis;refine wpAny_AugAssign_Name ?_
 have go:wpAny (model X.prog X.w) X.A (eval e X.env) (fun w s₂=>wpAny (model X.prog X.w) X.A (inplaceOp op u w) (fun r s₃=>wpAny (model X.prog X.w) X.A (storeName X.env x r) (fun _=>SP X pins D .next) X.xe s₃) X.xe s₂) X.xe s:=by
  refine bF (he pins s σ H _ I h) fun w s1 ⟨y,H1,I1,r1,q1⟩=>?_
  refine bF (ho pins s1 σ H1 v y u w _ I1 r r1 q1) fun z s2 ⟨zv,H2,I2,r2,q2⟩=>?_
  exact HC I2 hN hi hx r2 (fun s3 I3=>⟨_,H2,I3,q2⟩) hf
 rcases l with ⟨hk,hm⟩ | ⟨hk,c,hc,hcell⟩
 ·exact wpAny_loadName_local I.ok.kind hk hn hm go
 ·rcases hk with hk | hk
  ·exact wpAny_loadName_cell I.ok.kind hk hc hcell go
  ·rcases hx with k | k
   ·have:X.env.scope.names.lookup x=some .free:=hk
    rw [k] at this;cases this
   ·have:X.env.scope.names.lookup x=some .free:=hk
    rw [k] at this;cases this
noncomputable def Lx (f:Int->Int->Int):Ic:=fun x y H Q=>∃i j,x=.int i/\y=.int j/\Q (.int (f i j)) H
theorem Cw:LQ X .Add (Lx fun i j=>i+j):=by
 intro pins s σ H x y v u Q I r1 r2 h;obtain ⟨i,j,e1,e2,q⟩:=h;subst e1;subst e2;obtain ⟨t,rfl⟩:=r1;obtain ⟨t',rfl⟩:=r2;exact iadd_int ⟨.int _,H,I.tok _,⟨_,rfl⟩,q⟩
end
section
variable {X:Cx} {pos:Pos}
noncomputable def tJ (c:TT) (tb:TS):TS:=fun D σ H=>∃W:Nat->St->Hp->Prop,(∃m,W m σ H)/\∀m σ H,W m σ H ->
 c σ H fun b H1=>if b=true then ∃N:St->Hp->Prop,(∀σ' H',N σ' H'->∃m',m'<m/\W m' σ' H')/\tb { D with nx:=N,ct:=N,bk:=D.nx } σ H1 else D.nx σ H1
theorem uH {c:Expr} {body:List Stmt} {tc:TT} {tb:TS} (hp:PassesOwn (model X.prog X.w) X.A X.env X.xe) (hc:PT X c tc) (hb:PSs X body tb):PS X (.While c body [] pos) (tJ tc tb):=by
 intro pins s σ H D I h;obtain ⟨W,⟨m0,w0⟩,turn⟩:=h;refine wpAny_While (codeAny_whileLoop (fun n s'=>∃σ' H',Inv X pins σ' H' s'/\W n σ' H') ?_ m0 ⟨σ,H,I,w0⟩)
 rintro n s1 ⟨σ1,H1,I1,w1⟩
 refine wpAny_passesOwn hp (bF (hc pins s1 σ1 H1 _ I1 (turn n σ1 H1 w1)) fun b s2 ⟨H2,I2,q2⟩=>?_)
 cases b with
 | true=>
  obtain ⟨N,hN,q2⟩:=q2;rw [if_pos rfl];refine wpAny_passesOwn hp (bF (hb pins s2 σ1 H2 _ I2 q2) fun f s3 q3=>?_)
  cases f with
  | next=>
   obtain ⟨σ3,H3,I3,n3⟩:=q3;obtain ⟨m',hm,w3⟩:=hN σ3 H3 n3;exact ⟨m',hm,σ3,H3,I3,w3⟩
  | cont=>
   obtain ⟨σ3,H3,I3,n3⟩:=q3;obtain ⟨m',hm,w3⟩:=hN σ3 H3 n3;exact ⟨m',hm,σ3,H3,I3,w3⟩
  | brk=>exact q3
  | ret v=>exact q3
 | false=>
  rw [if_neg Bool.false_ne_true];exact wpAny_execs_nil ⟨σ1,H2,I2,q2⟩
end
structure It where
 go:Nat->Hp->Prop
 yld:Nat->Hp->V->Hp->Prop
 stop:Nat->Hp->Prop
noncomputable def gP (X:Cx) (pins:List (Addr×Obj)) (H:Hp) (b:Addr):Prop:=
 H b=none/\b≠X.env.locals/\b∉X.fs/\(b∈X.ex\/X.s₀.heap.objs.size<=b)/\(∀x c,X.env.cells.lookup x=some c->c≠b)/\∀p∈X.pn++pins,p.1≠b
theorem Inv.fpOk {X:Cx} {pins:List (Addr×Obj)} {σ:St} {H H':Hp} {s:Shared} {b:Addr} (I:Inv X pins σ H s) (hb:s.heap.objs.size<=b) (hn:H' b=none):gP X pins H' b:=by
 refine ⟨hn,Nat.ne_of_gt (Nat.lt_of_lt_of_le I.lt hb),I.nofs hb,.inr (Nat.le_trans I.sz hb),fun x c e z=>?_,fun p hp z=>?_⟩
 ·obtain ⟨v,q⟩:=I.cell x c e
  exact absurd (Nat.lt_of_lt_of_le q.lt (by rw [z];exact hb)) (Nat.lt_irrefl _)
 ·exact absurd (Nat.lt_of_lt_of_le (Heap.lt_size (I.pin p hp).1) (by rw [z];exact hb)) (Nat.lt_irrefl _)
structure wy (P:Program) (w:World) (K:Fg) (tg:Expr) (J:It) (fp:List Addr) (it:Addr) (tn:Nat->Heap->Prop):Prop where
 mem:it∈fp
 obj:∀i h,tn i h->∀b∈fp,∃o,h.get? b=some o/\∀v,o.data≠.cell v
 keep:∀i h h',tn i h->(∀b∈fp,∀o,h.get? b=some o->h'.get? b=some o)->tn i h'
 item:∀(X:Cx),X.prog=P->X.w=w->X.K=K->X.calm=true->∀(i:Nat) (pins:List (Addr×Obj)) (s:Shared) (σ:St) (H:Hp) (E:Value->Shared->Prop),Inv X pins σ H s->(∀b∈fp,gP X pins H b)->tn i s.heap->J.go i H ->
  wpAny (model P w) X.A (pyNext (.ref it)) (fun r s1=>∃u,r=some u /\
   wpAny (model P w) X.A (letOwnedTupleGo tg (.ref it) u) (fun _ s2=>∃x H',Inv X pins σ H' s2/\RelV x u/\J.yld i H x H'/\tn (i+1) s2.heap/\∀b∈fp,H' b=none) E s1) E s
 done:∀(X:Cx),X.prog=P->X.w=w->X.K=K->X.calm=true->∀(i:Nat) (pins:List (Addr×Obj)) (s:Shared) (σ:St) (H:Hp) (E:Value->Shared->Prop),Inv X pins σ H s->(∀b∈fp,gP X pins H b)->tn i s.heap->J.stop i H ->
  wpAny (model P w) X.A (pyNext (.ref it)) (fun r s1=>r=none/\Inv X pins σ H s1) E s
 self:∀(A:Around) (i:Nat) (s:Shared) (Q:Value->Shared->Prop) (E:Value->Shared->Prop),tn i s.heap->Q (.ref it) s->wpAny (model P w) A (pyIter (.ref it)) Q E s
abbrev TI:=St->Hp->(It->Hp->Prop)->Prop
noncomputable def LR (X:Cx) (pins:List (Addr×Obj)) (σ:St) (tg:Expr) (R:It->Hp->Prop) (itv:Value) (s2:Shared):Prop:=
 ∃(it:Addr) (fp:List Addr) (tn:Nat->Heap->Prop) (J:It) (H':Hp),itv=.ref it/\Inv X pins σ H' s2/\wy X.prog X.w X.K tg J fp it tn/\tn 0 s2.heap/\(∀b∈fp,gP X pins H' b)/\R J H'
noncomputable def PI (X:Cx) (tg iter:Expr) (wi:TI):Prop:=
 ∀(pins:List (Addr×Obj)) (s:Shared) (σ:St) (H:Hp) (R:It->Hp->Prop),Inv X pins σ H s->wi σ H R ->
  wpAny (model X.prog X.w) X.A (eval iter X.env) (fun v s1=>wpAny (model X.prog X.w) X.A (pyIter v) (LR X pins σ tg R) X.xe s1) X.xe s
theorem qe {M:Model} {A:Around} {E:Value->Shared->Prop} {s:Shared} {tg:Expr} {it:Addr} {u:Value} {o:Obj} {n:String} {vs:Array Value} {Q:Unit->Shared->Prop} (ho:s.heap.get? it=some o) (hc:o.cls=.type n) (hd:o.data=.fields vs)
  (hn:["enumerate", "zip", "dict_itemiterator", "dict_reverseitemiterator", "odict_iterator", "itertools.zip_longest", "itertools.pairwise"].contains n=false) (hQ:Q () s):wpAny M A (letOwnedTupleGo tg (.ref it) u) Q E s:=by
 unfold letOwnedTupleGo
 cases tg<;>first
  | exact wpAny_pure hQ
  | (cases u<;>first
      | exact wpAny_pure hQ
      | (refine wpAny_bind (wpAny_load ho ?_)
         rw [hc,hd];show wpAny M A (if (["enumerate", "zip", "dict_itemiterator", "dict_reverseitemiterator", "odict_iterator", "itertools.zip_longest", "itertools.pairwise"].contains n&&vs[0]?==some (rawInt _))=true then _ else _) Q E s
         rw [if_neg (by intro h;rw [hn,Bool.false_and] at h;cases h)]
         exact wpAny_pure hQ))
noncomputable def Dk (K:Fg) (a:Addr):It:=
 ⟨fun i H=>∃xs x,SqL K H a xs/\xs[i]?=some x,fun i H x H'=>H'=H/\∀xs,SqL K H a xs->xs[i]?=some x,fun i H=>∃xs,SqL K H a xs/\xs.length<=i⟩
noncomputable def Ih (K:Fg) (a:Addr):It:=
 ⟨fun i H=>∃xs x,SqT K H a xs/\xs[i]?=some x,fun i H x H'=>H'=H/\∀xs,SqT K H a xs->xs[i]?=some x,fun i H=>∃xs,SqT K H a xs/\xs.length<=i⟩
noncomputable def zc (lo:Int) (n:Nat):It:=⟨fun i _=>i<n,fun i H x H'=>H'=H/\x=.int (lo+i),fun i _=>n<=i⟩
theorem qG {P:Program} {w:World} {K:Fg} {tg:Expr} (a it:Addr):wy P w K tg (Dk K a) [it] it (fun i h=>h.IsListIter it a i) where
 mem:=by simp
 obj:=fun i h st b hb=>by
  have e:b=it:=by simpa using hb
  subst e;obtain ⟨o,e,c,d⟩:=st;exact ⟨o,e,fun v z=>by rw [d] at z;cases z⟩
 keep:=fun i h h' st k=>st.at fun o e=>k it (by simp) o e
 item:=by
  intro X hP hw hK hc i pins s σ H E I hf st hg;subst hP hw hK;obtain ⟨xs,x,hq,hx⟩:=hg;obtain ⟨its,rv,p,hz⟩:=I.list hq;obtain ⟨u,hu,ru⟩:=rv.get hx;obtain ⟨f0,f1,f2,f3,f4,f5⟩:=hf it (by simp)
  refine wpAny_pyNext_list_item st p.isList (x:=u) (by simpa using hu) fun h' st' sb=>?_
  have I1:Inv X pins σ H { s with heap:=h' }:=I.turned (t':=s.toks) (fun b o hb e=>(sb.2 b hb).trans e) f0 f1 f3 f4 f5
  obtain ⟨o,e,c,d⟩:=id st'
  exact ⟨u,rfl,qe (s:={ s with heap:=h' }) e c d (by decide) ⟨x,H,I1,ru,⟨rfl,fun ys hy=>by rw [I.list_inj hy hq];exact hx⟩,st',fun b hb=>(hf b hb).1⟩⟩
 done:=by
  intro X hP hw hK hc i pins s σ H E I hf st hg;subst hP hw hK;obtain ⟨xs,hq,hx⟩:=hg;obtain ⟨its,rv,p,hz⟩:=I.list hq;obtain ⟨f0,f1,f2,f3,f4,f5⟩:=hf it (by simp)
  have hl:=rv.length
  exact wpAny_pyNext_list_end (I.ok.hd hc) st p.isList (by simp;omega) fun h' eb=>⟨rfl,I.turned (t':=s.toks) (fun b o hb e=>eb b o hb e) f0 f1 f3 f4 f5⟩
 self:=fun _ _ _ _ _ st h=>wpAny_pyIter_listiter st h
theorem nN {P:Program} {w:World} {K:Fg} {tg:Expr} (a it:Addr):wy P w K tg (Ih K a) [it] it (fun i h=>h.IsTupleIter it a i) where
 mem:=by simp
 obj:=fun i h st b hb=>by
  have e:b=it:=by simpa using hb
  subst e;obtain ⟨o,e,c,d⟩:=st;exact ⟨o,e,fun v z=>by rw [d] at z;cases z⟩
 keep:=fun i h h' st k=>st.at fun o e=>k it (by simp) o e
 item:=by
  intro X hP hw hK hc i pins s σ H E I hf st hg;subst hP hw hK;obtain ⟨xs,x,hq,hx⟩:=hg;obtain ⟨its,rv,p,hz⟩:=I.tuple hq;obtain ⟨u,hu,ru⟩:=rv.get hx;obtain ⟨f0,f1,f2,f3,f4,f5⟩:=hf it (by simp)
  refine wpAny_pyNext_tuple_item st (show s.heap.IsTuple a its.toArray from p) (x:=u) (by simpa using hu) fun h' st' sb=>?_
  have I1:Inv X pins σ H { s with heap:=h' }:=I.turned (t':=s.toks) (fun b o hb e=>(sb.2 b hb).trans e) f0 f1 f3 f4 f5
  obtain ⟨o,e,c,d⟩:=id st'
  exact ⟨u,rfl,qe (s:={ s with heap:=h' }) e c d (by decide) ⟨x,H,I1,ru,⟨rfl,fun ys hy=>by rw [I.tuple_inj hy hq];exact hx⟩,st',fun b hb=>(hf b hb).1⟩⟩
 done:=by
  intro X hP hw hK hc i pins s σ H E I hf st hg;subst hP hw hK;obtain ⟨xs,hq,hx⟩:=hg;obtain ⟨its,rv,p,hz⟩:=I.tuple hq;obtain ⟨f0,f1,f2,f3,f4,f5⟩:=hf it (by simp)
  have hl:=rv.length
  exact wpAny_pyNext_tuple_end (I.ok.hd hc) st (show s.heap.IsTuple a its.toArray from p) (by simp;omega) fun h' eb=>⟨rfl,I.turned (t':=s.toks) (fun b o hb e=>eb b o hb e) f0 f1 f3 f4 f5⟩
 self:=fun _ _ _ _ _ st h=>wpAny_pyIter_tupleiter st h
theorem Jf {P:Program} {w:World} {K:Fg} {tg:Expr} (it:Addr) (lo:Int) (n:Nat):wy P w K tg (zc lo n) [it] it (fun i h=>IsRangeIter h it (lo+(i:Nat)*1) ((n:Int)-(i:Nat)) 1) where
 mem:=by simp
 obj:=fun i h st b hb=>by
  have e:b=it:=by simpa using hb
  subst e;exact ⟨_,st,fun v z=>by
   have z':Data.fields _=Data.cell v:=z
   cases z'⟩
 keep:=fun i h h' st k=>k it (by simp) _ st
 item:=by
  intro X hP hw hK hc i pins s σ H E I hf st hg;subst hP hw hK;obtain ⟨f0,f1,f2,f3,f4,f5⟩:=hf it (by simp)
  have W:=Walks.range (prog:=X.prog) (w:=X.w) (I.ok.hd hc) it lo 1 n
  refine W.item i s _ _ hg st fun v h' tk hv st' kk=>?_
  obtain ⟨t,rfl⟩:=hv;have I1:Inv X pins σ H { s with heap:=h',toks:=tk }:=I.turned (fun b o hb e=>kk b o (by simpa using hb) e) f0 f1 f3 f4 f5
  refine ⟨_,rfl,qe (s:={ s with heap:=h',toks:=tk }) (n := "range_iterator") st' rfl rfl (by decide) ⟨.int (lo+i),H,I1,⟨t,?_⟩,⟨rfl,rfl⟩,st',fun b hb=>(hf b hb).1⟩⟩
  rw [Int.mul_one]
 done:=by
  intro X hP hw hK hc i pins s σ H E I hf st hg;subst hP hw hK;obtain ⟨f0,f1,f2,f3,f4,f5⟩:=hf it (by simp)
  exact wpAny_pyNext_range_end (I.ok.hd hc) st (by have:n<=i:=hg;omega) fun h' eb=>⟨rfl,I.turned (t':=s.toks) (fun b o hb e=>eb b o hb e) f0 f1 f3 f4 f5⟩
 self:=fun _ _ _ _ _ st h=>wpAny_pyIter_rangeiter st h
section
variable {X:Cx} {tg:Expr}
noncomputable def jm (K:Fg) (tl:TE):TI:=fun σ H R=>tl σ H fun x H1=>∃a,x=.ref a/\(∃xs,SqL K H1 a xs)/\R (Dk K a) H1
noncomputable def FZ (K:Fg) (tl:TE):TI:=fun σ H R=>tl σ H fun x H1=>∃a,x=.ref a/\(∃xs,SqT K H1 a xs)/\R (Ih K a) H1
theorem Hu {l:Expr} {tl:TE} (hl:PE X l tl):PI X tg l (jm X.K tl):=by
 intro pins s σ H R I h;refine bF (hl pins s σ H _ I h) fun v s1 ⟨x,H1,I1,r1,q1⟩=>?_
 obtain ⟨a,e,⟨xs,hq⟩,q⟩:=q1;subst e
 cases r1;obtain ⟨its,rv,p,hz⟩:=I1.list hq;refine wpAny_pyIter_list p.isList ?_
 refine ⟨s1.heap.objs.size,[s1.heap.objs.size],_,_,H1,rfl,I1.kept (t':=s1.toks) fun b o e=>Heap.get?_push_of_some _ e,qG a _,⟨_,Heap.get?_push_size _ rfl,rfl,rfl⟩,fun b hb=>?_,q⟩
 have e:b=s1.heap.objs.size:=by simpa using hb
 subst e;exact I1.fpOk (Nat.le_refl _) (I1.hok.fresh (Nat.le_refl _))
theorem BH {l:Expr} {tl:TE} (hl:PE X l tl):PI X tg l (FZ X.K tl):=by
 intro pins s σ H R I h;refine bF (hl pins s σ H _ I h) fun v s1 ⟨x,H1,I1,r1,q1⟩=>?_
 obtain ⟨a,e,⟨xs,hq⟩,q⟩:=q1;subst e
 cases r1;obtain ⟨its,rv,p,hz⟩:=I1.tuple hq;refine wpAny_pyIter_tuple (show s1.heap.IsTuple a its.toArray from p) ?_
 refine ⟨s1.heap.objs.size,[s1.heap.objs.size],_,_,H1,rfl,I1.kept (t':=s1.toks) fun b o e=>Heap.get?_push_of_some _ e,nN a _,⟨_,Heap.get?_push_size _ rfl,rfl,rfl⟩,fun b hb=>?_,q⟩
 have e:b=s1.heap.objs.size:=by simpa using hb
 subst e;exact I1.fpOk (Nat.le_refl _) (I1.hok.fresh (Nat.le_refl _))
theorem ml {pins:List (Addr×Obj)} {σ:St} {H:Hp} {s:Shared} {R:It->Hp->Prop} {E:Value->Shared->Prop} {lo hi:Int} {t u v:Tok} {tk:Nat} (I:Inv X pins σ H s) (h1:-(2 ^ 62)<=lo) (h2:lo<2 ^ 62) (h3:-(2 ^ 62)<=hi) (h4:hi<2 ^ 62)
  (q:R (zc lo (hi-lo).toNat) H):wpAny (model X.prog X.w) X.A (pyIter (.ref s.heap.objs.size)) (LR X pins σ tg R) E { s with heap:=s.heap.push { cls:=.type "range",data:=.fields #[.int lo t,.int hi u,.int 1 v] },toks:=tk }:=by
 refine wpAny_pyIter_range (IsRange.new ..) (small_one h1 h2 h3 h4) ?_
 have I1:Inv X pins σ H { s with heap:=s.heap.push { cls:=.type "range",data:=.fields #[.int lo t,.int hi u,.int 1 v] },toks:=tk }:=I.kept fun b o e=>Heap.get?_push_of_some _ e
 refine ⟨(s.heap.push { cls:=.type "range",data:=.fields #[.int lo t,.int hi u,.int 1 v] }).objs.size,[(s.heap.push { cls:=.type "range",data:=.fields #[.int lo t,.int hi u,.int 1 v] }).objs.size],_,_,H,rfl,
  I1.kept (t':=tk) fun b o e=>Heap.get?_push_of_some _ e,Jf _ lo (hi-lo).toNat,?_,fun b hb=>?_,q⟩
 ·have e1:lo+((0:Nat):Int)*1=lo:=by simp
  have e2:(((hi-lo).toNat:Nat):Int)-((0:Nat):Int)=Builtin.Range.rangeSize lo hi 1:=by rw [rangeSize_one];split<;>omega
  show IsRangeIter _ _ (lo+((0:Nat):Int)*1) ((((hi-lo).toNat:Nat):Int)-((0:Nat):Int)) 1
  rw [e1,e2];exact Heap.get?_push_size _ rfl
 ·have e:b=(s.heap.push { cls:=.type "range",data:=.fields #[.int lo t,.int hi u,.int 1 v] }).objs.size:=by simpa using hb
  subst e;exact I1.fpOk (Nat.le_refl _) (I1.hok.fresh (Nat.le_refl _))
noncomputable def vq (ta:TA):TI:=fun σ H R=>ta σ H fun vs H1=>∃j:Int,vs=[.int j]/\-(2 ^ 62)<=j/\j<2 ^ 62/\R (zc 0 j.toNat) H1
noncomputable def zV (ta:TA):TI:=fun σ H R=>ta σ H fun vs H1=>∃i j:Int,vs=[.int i,.int j]/\(-(2 ^ 62)<=i/\i<2 ^ 62/\-(2 ^ 62)<=j/\j<2 ^ 62)/\R (zc i (j-i).toNat) H1
theorem qZ {a:Expr} {ta:TA} {p pos:Pos} (hg:Gl X "range") (hm:X.mg "range"=none) (ha:PA X [a] ta) (hs:starEach [a] X.env=[(false,eval a X.env)]:=by rfl):PI X tg (.Call (.Name "range" p) [a] [] pos) (vq ta):=by
 intro pins s σ H R I h;refine Call_ (wR I hg hm boot_range (PyProof.Rows.callWith_type1 (bF (ha pos pins s σ H _ I h) fun us s1 ⟨vs,H1,I1,r1,q1⟩=>?_) hs rfl))
 obtain ⟨j,e,q1,q2,q⟩:=q1;subst e
 cases r1 with
 | cons r rr=>
  cases rr;obtain ⟨t,rfl⟩:=r;exact call_range_1 (ml I1 (by omega) (by omega) q1 q2 (by simpa using q))
theorem qY {a b:Expr} {ta:TA} {p pos:Pos} (hg:Gl X "range") (hm:X.mg "range"=none) (ha:PA X [a,b] ta) (hs:starEach [a,b] X.env=[(false,eval a X.env),(false,eval b X.env)]:=by rfl) (hs2:starEach [b] X.env=[(false,eval b X.env)]:=by rfl) :
  PI X tg (.Call (.Name "range" p) [a,b] [] pos) (zV ta):=by
 intro pins s σ H R I h;refine Call_ (wR I hg hm boot_range (PyProof.Rows.callWith_type1 (bF (ha pos pins s σ H _ I h) fun us s1 ⟨vs,H1,I1,r1,q1⟩=>?_) (by rw [hs,hs2]) (by rw [hs2];rfl)))
 obtain ⟨i,j,e,⟨q1,q2,q3,q4⟩,q⟩:=q1;subst e
 cases r1 with
 | cons r rr=>
  cases rr with
  | cons r' rr=>
   cases rr;obtain ⟨t,rfl⟩:=r;obtain ⟨t',rfl⟩:=r'
   exact call_range_2 (ml I1 q1 q2 q3 q4 q)
noncomputable def xi (wi:TI) (g:TG) (tb:TS):TS:=fun D σ H=>wi σ H fun J H1=>∃W:Nat->Nat->St->Hp->Prop,(∃m,W 0 m σ H1)/\∀i m σ H,W i m σ H ->
 (J.stop i H/\D.nx σ H)\/(J.go i H/\∃N:St->Hp->Prop,(∀σ' H',N σ' H'->∃m',m'<m/\W (i+1) m' σ' H')/\∀x H',J.yld i H x H'->g x σ H' fun σ2 H2=>tb { D with nx:=N,ct:=N,bk:=D.nx } σ2 H2)
noncomputable def gX (fp:List Addr) (h:Heap):List (Addr×Obj):=fp.filterMap fun b=>(h.get? b).map fun o=>(b,o)
theorem DF {fp:List Addr} {h:Heap} {b:Addr} {o:Obj} (hb:b∈fp) (e:h.get? b=some o):(b,o)∈gX fp h:=List.mem_filterMap.mpr ⟨b,hb,by rw [e];rfl⟩
theorem rq {fp:List Addr} {h:Heap} {p:Addr×Obj} (hp:p∈gX fp h):p.1∈fp/\h.get? p.1=some p.2:=by
 obtain ⟨b,hb,e⟩:=List.mem_filterMap.mp hp
 cases q:h.get? b with
 | none=>rw [q] at e;cases e
 | some o=>
  rw [q] at e;have e':(b,o)=p:=Option.some.inj e
  subst e'
  exact ⟨hb,q⟩
theorem Inv.pinned {pins:List (Addr×Obj)} {σ:St} {H:Hp} {s:Shared} {fp:List Addr} (I:Inv X pins σ H s) (hf:∀b∈fp,gP X pins H b) (ho:∀b∈fp,∃o,s.heap.get? b=some o/\∀v,o.data≠.cell v):Inv X (pins++gX fp s.heap) σ H s:=
 I.pins_of fun p hp=>(List.mem_append.mp hp).elim (fun z=>I.pin p (mem_append_right _ z)) fun z=>by
  obtain ⟨hb,e⟩:=rq z;obtain ⟨f0,f1,f2,_⟩:=hf p.1 hb;obtain ⟨o,e',d⟩:=ho p.1 hb;rw [e] at e';cases e'
  exact ⟨e,f0,f1,f2,d⟩
theorem Inv.unpinned {pins pl:List (Addr×Obj)} {σ:St} {H:Hp} {s:Shared} (I:Inv X (pins++pl) σ H s):Inv X pins σ H s:=I.pins_of fun p hp=>I.pin p (mem_append_right _ (mem_append_left _ hp))
theorem Iu {iter:Expr} {body:List Stmt} {wi:TI} {g:TG} {tb:TS} {pos:Pos} (hp:PassesOwn (model X.prog X.w) X.A X.env X.xe) (hc:X.calm=true) (hi:PI X tg iter wi) (hg:PG X tg g) (hb:PSs X body tb)
  (hs:∀x,foldedSetIterable iter X.env x=pure x:=by intro _;rfl):PS X (.For tg iter body [] pos) (xi wi g tb):=by
 intro pins s σ H D I h;refine wpAny_For (bF (hi pins s σ H _ I h) fun v s1 h1=>bF h1 fun itv s2 h2=>?_) hs
 obtain ⟨it,fp,tn,J,H2,e,I2,T,st2,f2,W,⟨m0,w0⟩,turn⟩:=h2;subst e;have stat:∀{H':Hp},(∀b∈fp,H' b=none)->∀b∈fp,gP X pins H' b:=fun hn b hb=>⟨hn b hb,(f2 b hb).2⟩
 refine codeAny_forLoop_any (fun n s'=>∃i σ' H',Inv X pins σ' H' s'/\tn i s'.heap/\(∀b∈fp,H' b=none)/\W i n σ' H') ?_ m0 ⟨0,σ,H2,I2,st2,fun b hb=>(f2 b hb).1,w0⟩
 rintro n s3 ⟨i,σ3,H3,I3,st3,fr3,w3⟩
 rcases turn i n σ3 H3 w3 with ⟨stop,qn⟩ | ⟨go,N,hN,step⟩
 ·refine wpAny_passesOwn hp (bF (T.done X rfl rfl rfl hc i pins s3 σ3 H3 X.xe I3 (stat fr3) st3 stop) fun r s4 ⟨hr,I4⟩=>?_)
  subst hr;exact wpAny_execs_nil ⟨σ3,H3,I4,qn⟩
 ·refine wpAny_passesOwn hp (bF (T.item X rfl rfl rfl hc i pins s3 σ3 H3 X.xe I3 (stat fr3) st3 go) fun r s4 ⟨u,hr,h4⟩=>?_)
  subst hr;refine wpAny_passesOwn hp (bF h4 fun _ s5 ⟨x,H5,I5,r5,y5,st5,fr5⟩=>?_)
  have I5':=I5.pinned (stat fr5) (T.obj _ _ st5)
  refine wpAny_passesOwn hp (bF (hg _ s5 σ3 H5 x u _ I5' r5 (step x H5 y5)) fun _ s6 ⟨σ6,H6,I6,q6⟩=>?_)
  refine wpAny_passesOwn hp (bF (hb _ s6 σ6 H6 _ I6 q6) fun f s7 q7=>?_)
  have again:∀{σ7:St} {H7:Hp},Inv X (pins++gX fp s5.heap) σ7 H7 s7->N σ7 H7->∃m,m<n/\∃i σ' H',Inv X pins σ' H' s7/\tn i s7.heap/\(∀b∈fp,H' b=none)/\W i m σ' H':=fun {σ7 H7} I7 n7=>by
   obtain ⟨m',hm,w7⟩:=hN σ7 H7 n7;refine ⟨m',hm,i+1,σ7,H7,I7.unpinned,T.keep _ _ _ st5 fun b hb o e=>(I7.pin (b,o) (mem_append_right _ (mem_append_right _ (DF hb e)))).1,fun b hb=>?_,w7⟩
   obtain ⟨o,e,d⟩:=T.obj _ _ st5 b hb;exact (I7.pin (b,o) (mem_append_right _ (mem_append_right _ (DF hb e)))).2.1
  cases f with
  | next=>obtain ⟨σ7,H7,I7,n7⟩:=q7;exact again I7 n7
  | cont=>obtain ⟨σ7,H7,I7,n7⟩:=q7;exact again I7 n7
  | brk=>obtain ⟨σ7,H7,I7,q7⟩:=q7;exact ⟨σ7,H7,I7.unpinned,q7⟩
  | ret v=>obtain ⟨x7,σ7,H7,I7,r7,q7⟩:=q7;exact ⟨x7,σ7,H7,I7.unpinned,r7,q7⟩
end
theorem vC {K:Fg} {a:Addr} {xs:List V} {g:TG} {tb:TS} {D:eu} {σ:St} {H:Hp} (Pv:Nat->St->Hp->Prop) (h0:Pv 0 σ H) (hl:∀i σ H,i<=xs.length->Pv i σ H->SqL K H a xs)
  (hs:∀i x σ H,xs[i]?=some x->Pv i σ H->g x σ H fun σ2 H2=>tb { D with nx:=Pv (i+1),ct:=Pv (i+1),bk:=D.nx } σ2 H2) (hd:∀σ H,Pv xs.length σ H->D.nx σ H) :
  ∃W:Nat->Nat->St->Hp->Prop,(∃m,W 0 m σ H)/\∀i m σ H,W i m σ H ->
   ((Dk K a).stop i H/\D.nx σ H)\/((Dk K a).go i H/\∃N:St->Hp->Prop,(∀σ' H',N σ' H'->∃m',m'<m/\W (i+1) m' σ' H')/\∀x H',(Dk K a).yld i H x H'->g x σ H' fun σ2 H2=>tb { D with nx:=N,ct:=N,bk:=D.nx } σ2 H2):=by
 refine ⟨fun i m σ H=>m=xs.length-i/\i<=xs.length/\Pv i σ H,⟨xs.length,by simp,Nat.zero_le _,h0⟩,?_⟩
 rintro i m σ H ⟨rfl,hi,p⟩
 have q:=hl i σ H hi p
 by_cases hlt:i<xs.length
 ·refine .inr ⟨⟨xs,xs[i],q,by simp [hlt]⟩,Pv (i+1),fun σ' H' p'=>⟨xs.length-(i+1),by omega,rfl,hlt,p'⟩,fun x H' y=>?_⟩
  obtain ⟨e,y⟩:=y;subst e;exact hs i x σ _ (y xs q) p
 ·have e:i=xs.length:=by omega
  subst e;exact .inl ⟨⟨xs,q,Nat.le_refl _⟩,hd σ H p⟩
abbrev R2:=V->V->Hp->VK->Prop
noncomputable def OpR (X:Cx) (f:Value->Value->Sem Value) (r:R2):Prop:=
 ∀(pins:List (Addr×Obj)) (s:Shared) (σ:St) (H:Hp) (x y:V) (v u:Value) (Q:VK),Inv X pins σ H s->RelV x v->RelV y u->r x y H Q ->
  wpAny (model X.prog X.w) X.A (f v u) (EP X pins σ Q) X.xe s
noncomputable def LL (X:Cx) (f:Value->Sem Value) (r:V->Hp->VK->Prop):Prop:=
 ∀(pins:List (Addr×Obj)) (s:Shared) (σ:St) (H:Hp) (x:V) (v:Value) (Q:VK),Inv X pins σ H s->RelV x v->r x H Q ->
  wpAny (model X.prog X.w) X.A (f v) (EP X pins σ Q) X.xe s
noncomputable def CallR (X:Cx) (f:Value) (r:List V->Hp->VK->Prop):Prop:=
 ∀(pins:List (Addr×Obj)) (s:Shared) (σ:St) (H:Hp) (xs:List V) (us:List Value) (Q:VK),Inv X pins σ H s->Vals xs us->r xs H Q ->
  wpAny (model X.prog X.w) X.A (call f us) (EP X pins σ Q) X.xe s
noncomputable def KA (X:Cx) (r:V->Hp->(Bool->Hp->Prop)->Prop):Prop:=
 ∀(pins:List (Addr×Obj)) (s:Shared) (σ:St) (H:Hp) (x:V) (v:Value) (Q:Bool->Hp->Prop),Inv X pins σ H s->RelV x v->r x H Q ->
  wpAny (model X.prog X.w) X.A (truthy v) (TP X pins σ Q) X.xe s
noncomputable def xg (r:R2) (ta tb:TE):TE:=fun σ H Q=>ta σ H fun x H1=>tb σ H1 fun y H2=>r x y H2 Q
noncomputable def KP (r:V->Hp->VK->Prop) (ta:TE):TE:=fun σ H Q=>ta σ H fun x H1=>r x H1 Q
noncomputable def rI (C:Int->Int->Prop) (g:Int->Int->V):R2:=fun x y H Q=>∃i j,x=.int i/\y=.int j/\C i j/\Q (g i j) H
noncomputable def pG (g:Int->Int->V):R2:=fun x y H Q=>∃i j,x=.int i/\y=.int j/\Q (g i j) H
section
variable {X:Cx} {a b c:Expr} {ta tb tc:TE} {pos:Pos}
theorem C9 (ha:PE X a ta) (hb:PE X b tb) {pins:List (Addr×Obj)} {s:Shared} {σ:St} {H:Hp} {R:V->V->Hp->Prop} (I:Inv X pins σ H s)
  (h:ta σ H fun x H1=>tb σ H1 fun y H2=>R x y H2) {Q:Value->Shared->Prop} {f:Value->Value->Sem Value}
  (hf:∀v u s2 x y H2,Inv X pins σ H2 s2->RelV x v->RelV y u->R x y H2->wpAny (model X.prog X.w) X.A (f v u) Q X.xe s2) :
  wpAny (model X.prog X.w) X.A (eval a X.env) (fun v s₁=>wpAny (model X.prog X.w) X.A (eval b X.env) (fun u s₂=>wpAny (model X.prog X.w) X.A (f v u) Q X.xe s₂) X.xe s₁) X.xe s:=by
 refine bF (ha pins s σ H _ I h) fun v s1 ⟨x,H1,I1,r1,q1⟩=>?_
 refine bF (hb pins s1 σ H1 _ I1 q1) fun u s2 ⟨y,H2,I2,r2,q2⟩=>?_
 exact hf v u s2 x y H2 I2 r1 r2 q2
theorem fH {op:Operator} {r:R2} (ho:OpR X (binaryOp op) r) (ha:PE X a ta) (hb:PE X b tb):PE X (.BinOp a op b pos) (xg r ta tb):=by
 intro pins s σ H Q I h;exact wpAny_BinOp (C9 ha hb I h fun v u s2 x y H2 I2 rx ry q=>ho pins s2 σ H2 x y v u Q I2 rx ry q)
theorem Fl {op:UnaryOp} {r:V->Hp->VK->Prop} (ho:LL X (unaryOp op) r) (ha:PE X a ta):PE X (.UnaryOp op a pos) (KP r ta):=by
 intro pins s σ H Q I h;exact UnaryOp_ (bF (ha pins s σ H _ I h) fun v s1 ⟨x,H1,I1,r1,q1⟩=>ho pins s1 σ H1 x v Q I1 r1 q1)
theorem H0 {f:Value->Value->Sem Value} {C:Int->Int->Prop} {g:Int->Int->Int}
  (rule:∀(i j:Int) (t u:Tok) (s:Shared) (Q:Value->Shared->Prop) (E:Value->Shared->Prop),C i j->Q (.int (g i j) s.toks) { s with toks:=s.toks+1 }->wpAny (model X.prog X.w) X.A (f (.int i t) (.int j u)) Q E s) :
  OpR X f (rI C fun i j=>.int (g i j)):=by
 intro pins s σ H x y v u Q I rx ry h;obtain ⟨i,j,rfl,rfl,hc,q⟩:=h;obtain ⟨t,rfl⟩:=rx;obtain ⟨t',rfl⟩:=ry;exact rule i j t t' s _ _ hc ⟨.int (g i j),H,I.tok _,⟨_,rfl⟩,q⟩
theorem Fv {f:Value->Value->Sem Value} {g:Int->Int->Int}
  (rule:∀(i j:Int) (t u:Tok) (s:Shared) (Q:Value->Shared->Prop) (E:Value->Shared->Prop),Q (.int (g i j) s.toks) { s with toks:=s.toks+1 }->wpAny (model X.prog X.w) X.A (f (.int i t) (.int j u)) Q E s) :
  OpR X f (pG fun i j=>.int (g i j)):=by
 intro pins s σ H x y v u Q I rx ry h;obtain ⟨i,j,rfl,rfl,q⟩:=h;obtain ⟨t,rfl⟩:=rx;obtain ⟨t',rfl⟩:=ry;exact rule i j t t' s _ _ ⟨.int (g i j),H,I.tok _,⟨_,rfl⟩,q⟩
theorem xZ {f:Value->Value->Sem Value} {g:Int->Int->Bool}
  (rule:∀(i j:Int) (t u:Tok) (s:Shared) (Q:Value->Shared->Prop) (E:Value->Shared->Prop),Q (.bool (g i j)) s->wpAny (model X.prog X.w) X.A (f (.int i t) (.int j u)) Q E s) :
  OpR X f (pG fun i j=>.bl (g i j)):=by
 intro pins s σ H x y v u Q I rx ry h;obtain ⟨i,j,rfl,rfl,q⟩:=h;obtain ⟨t,rfl⟩:=rx;obtain ⟨t',rfl⟩:=ry;exact rule i j t t' s _ _ ⟨.bl (g i j),H,I,rfl,q⟩
noncomputable def KJ (i j:Int):Prop:=0<j/\j<1073741824
noncomputable def KI (i j:Int):Prop:=0<=j/\j<=1000000/\i.natAbs<2 ^ 64
noncomputable def CMul (i j:Int):Prop:=(-(2 ^ 64)<i/\i<2 ^ 64)\/(-(2 ^ 64)<j/\j<2 ^ 64)
theorem CMul.ok {i j:Int} (h:CMul i j):IntMulOk i j:=by
 rcases h with ⟨h1,h2⟩ | ⟨h1,h2⟩
 ·exact .of_left (intBits_le_64 h1 h2)
 ·exact .of_right (intBits_le_64 h1 h2)
theorem B8:OpR X (binaryOp .Add) (pG fun i j=>.int (i+j)):=Fv fun _ _ _ _ _ _ _ q=>add_int q
theorem BW:OpR X (binaryOp .Sub) (pG fun i j=>.int (i-j)):=Fv fun _ _ _ _ _ _ _ q=>sub_int q
theorem B0:OpR X (binaryOp .Mult) (rI CMul fun i j=>.int (i*j)):=H0 fun _ _ _ _ _ _ _ hc q=>mul_int q hc.ok
theorem xX:OpR X (binaryOp .FloorDiv) (rI KJ fun i j=>.int (i / j)):=H0 fun i j _ _ _ _ _ hc q=>by
 have h1:(0:Int)<j:=hc.1
 have h2:j<1073741824:=hc.2
 exact floordiv_int (by omega) (by rw [Int.fdiv_eq_ediv_of_nonneg i (by omega)];exact q) (.inl (PyProof.noPylong_small (by omega)))
theorem B1:OpR X (binaryOp .Mod) (rI (fun _ j=>0<j) fun i j=>.int (i % j)):=H0 fun i j _ _ _ _ _ hc q=>by
 have h1:(0:Int)<j:=hc
 exact mod_int' (by omega) (by rw [Int.fmod_eq_emod_of_nonneg i (by omega)];exact q)
theorem BY:OpR X (binaryOp .Pow) (rI KI fun i j=>.int (i ^ j.toNat)):=H0 fun _ _ _ _ _ _ _ hc q=>pow_int_small hc.1 hc.2.1 hc.2.2 q
end
noncomputable def scal:V->V->Bool
 | .non,.non=>true | .non,.int _=>true | .int _,.non=>true | .non,.bl _=>true | .bl _,.non=>true | .non,.str _=>true | .str _,.non=>true
 | .int _,.int _=>true | .bl _,.bl _=>true | .str _,.str _=>true | .byt _,.byt _=>true
 | .int _,.str _=>true | .str _,.int _=>true | .bl _,.str _=>true | .str _,.bl _=>true
 | _,_=>false
section
variable {X:Cx} {a b c:Expr} {ta tb tc:TE} {pos:Pos}
theorem D6 {pins:List (Addr×Obj)} {σ:St} {H:Hp} {s:Shared} {Q:VK} {k k':Bool} (I:Inv X pins σ H s) (q:Q (.bl k) H) (e:k=k'):EP X pins σ Q (.bool k') s:=by
 subst e;exact ⟨.bl k,H,I,rfl,q⟩
theorem op_lt:OpR X (compareOp .Lt) (pG fun i j=>.bl (decide (i<j))):=xZ fun _ _ _ _ _ _ _ q=>lt_int q
theorem Fq:OpR X (compareOp .LtE) (pG fun i j=>.bl (decide (i<=j))):=xZ fun _ _ _ _ _ _ _ q=>le_int q
theorem Fu:OpR X (compareOp .Gt) (pG fun i j=>.bl (decide (j<i))):=xZ fun _ _ _ _ _ _ _ q=>gt_int q
theorem op_ge:OpR X (compareOp .GtE) (pG fun i j=>.bl (decide (j<=i))):=xZ fun _ _ _ _ _ _ _ q=>ge_int q
theorem rl:OpR X (compareOp .Lt) (fun x y H Q=>∃i j,x=.str i/\y=.str j/\Q (.bl (decide (i.cps.toList<j.cps.toList))) H):=by
 intro pins s σ H x y v u Q I rx ry h;obtain ⟨i,j,rfl,rfl,q⟩:=h;obtain ⟨t,rfl⟩:=rx;obtain ⟨t',rfl⟩:=ry;exact lt_str (D6 I q rfl)
theorem B3:OpR X (compareOp .Is) (fun x y H Q=>y=.non/\Q (.bl (decide (x=.non))) H):=by
 intro pins s σ H x y v u Q I rx ry h;obtain ⟨rfl,q⟩:=h
 cases ry;refine is_none_gen (D6 I q ?_)
 cases x<;>first
  | (cases rx;rfl)
  | (obtain ⟨t,rfl⟩:=rx;rfl)
theorem xW:OpR X (compareOp .IsNot) (fun x y H Q=>y=.non/\Q (.bl (!decide (x=.non))) H):=by
 intro pins s σ H x y v u Q I rx ry h;obtain ⟨rfl,q⟩:=h
 cases ry;refine isnot_none_gen (D6 I q ?_)
 cases x<;>first
  | (cases rx;rfl)
  | (obtain ⟨t,rfl⟩:=rx;rfl)
theorem OpR.or {f:Value->Value->Sem Value} {r r':R2} (h:OpR X f r) (h':OpR X f r'):OpR X f (fun x y H Q=>r x y H Q\/r' x y H Q):=by
 intro pins s σ H x y v u Q I rx ry q;rcases q with q | q
 ·exact h pins s σ H x y v u Q I rx ry q
 ·exact h' pins s σ H x y v u Q I rx ry q
theorem xS {op:CmpOp} {r:R2} (ho:OpR X (compareOp op) r) (ha:PE X a ta) (hb:PE X b tb) (hm:behindInMarks op b=false):PE X (.Compare a [op] [b] pos) (xg r ta tb):=by
 intro pins s σ H Q I h;exact wpAny_Compare1 (C9 ha hb I h fun v u s2 x y H2 I2 rx ry q=>ho pins s2 σ H2 x y v u Q I2 rx ry q) hm
noncomputable def tK (t:TE):TT:=fun σ H Q=>t σ H fun x H'=>∃k,x=.bl k/\Q k H'
theorem xH {op:CmpOp} {r:R2} (ho:OpR X (compareOp op) r) (ha:PE X a ta) (hb:PE X b tb) (hm:behindInMarks op b=false):PT X (.Compare a [op] [b] pos) (tK (xg r ta tb)):=by
 intro pins s σ H Q I h;refine wpAny_isTrue_Compare1 (bF (ha pins s σ H _ I h) fun v s1 ⟨x,H1,I1,r1,q1⟩=>bF (hb pins s1 σ H1 _ I1 q1) fun u s2 ⟨y,H2,I2,r2,q2⟩=>
  bF (ho pins s2 σ H2 x y v u _ I2 r1 r2 q2) fun c s3 ⟨z,H3,I3,r3,k,e,q3⟩=>?_) hm
 subst e
 cases r3;exact wpAny_truthy_bool ⟨H3,I3,q3⟩
noncomputable def nP (r r':R2) (ta tb tc:TE):TE:=fun σ H Q=>ta σ H fun x H1=>tb σ H1 fun y H2=>r x y H2 fun z H3=>∃k,z=.bl k /\
 (if k=true then tc σ H3 fun w' H4=>r' y w' H4 Q else Q (.bl false) H3)
theorem uU {op op':CmpOp} {r r':R2} (ho:OpR X (compareOp op) r) (ho':OpR X (compareOp op') r') (ha:PE X a ta) (hb:PE X b tb) (hc:PE X c tc)
  (hm:lastMarks [op,op'] [b,c]=false:=by with_unfolding_all rfl):PE X (.Compare a [op,op'] [b,c] pos) (nP r r' ta tb tc):=by
 intro pins s σ H Q I h;refine Compare_chain (bF (ha pins s σ H _ I h) fun v s1 ⟨x,H1,I1,r1,q1⟩=>chain_link (bF (hb pins s1 σ H1 _ I1 q1) fun u s2 ⟨y,H2,I2,r2,q2⟩=>
  bF (ho pins s2 σ H2 x y v u _ I2 r1 r2 q2) fun d s3 ⟨z,H3,I3,r3,k,e,q3⟩=>?_)) hm
 subst e
 cases r3;refine wpAny_truthy_bool ?_
 cases k with
 | false=>exact ite_ff ⟨.bl false,H3,I3,rfl,q3⟩
 | true=>exact ite_tt (chain_last (bF (hc pins s3 σ H3 _ I3 q3) fun w' s4 ⟨z',H4,I4,r4,q4⟩=>ho' pins s4 σ H4 y z' u w' Q I4 r2 r4 q4))
theorem uG {op op':CmpOp} {r r':R2} (ho:OpR X (compareOp op) r) (ho':OpR X (compareOp op') r') (ha:PE X a ta) (hb:PE X b tb) (hc:PE X c tc)
  (hm:lastMarks [op,op'] [b,c]=false:=by with_unfolding_all rfl):PT X (.Compare a [op,op'] [b,c] pos) (tK (nP r r' ta tb tc)):=by
 intro pins s σ H Q I h;refine isTrue_chain (bF (ha pins s σ H _ I h) fun v s1 ⟨x,H1,I1,r1,q1⟩=>test_link (bF (hb pins s1 σ H1 _ I1 q1) fun u s2 ⟨y,H2,I2,r2,q2⟩=>
  bF (ho pins s2 σ H2 x y v u _ I2 r1 r2 q2) fun d s3 ⟨z,H3,I3,r3,k,e,q3⟩=>?_)) hm
 subst e
 cases r3;refine wpAny_truthy_bool ?_
 cases k with
 | false=>
  obtain ⟨k',e',q'⟩:=q3
  cases e'
  exact ite_ff ⟨H3,I3,q'⟩
 | true=>
  refine ite_tt (test_last (bF (hc pins s3 σ H3 _ I3 q3) fun w' s4 ⟨z',H4,I4,r4,q4⟩=>bF (ho' pins s4 σ H4 y z' u w' _ I4 r2 r4 q4) fun d' s5 ⟨z2,H5,I5,r5,k2,e2,q5⟩=>?_))
  subst e2
  cases r5;exact wpAny_truthy_bool ⟨H5,I5,q5⟩
noncomputable def Df (K:Fg) (x:V) (H:Hp) (k:Bool):Prop:=
 match x with
 | .non=>k=false
 | .bl b=>k=b
 | .int i=>k=(i != 0)
 | .str y=>y.length<=sizeLine/\k=((y.length:Int) != 0)
 | .byt y=>y.size<=sizeLine/\k=((y.size:Int) != 0)
 | .ref p=>(∃xs,SqL K H p xs/\k=!xs.isEmpty)\/(∃xs,SqT K H p xs/\k=!xs.isEmpty)\/∃kvs,H p=some (.dK kvs)/\k=!kvs.isEmpty
 | _=>False
theorem ou {κ:Type} {kvs:List (κ×V)} {vs:List (κ×Value)} (r:KV kvs vs):(!vs.isEmpty)=!kvs.isEmpty:=by
 cases r<;>rfl
theorem jl {xs:List V} {its:List Value} (r:Vals xs its):(!its.toArray.isEmpty)=!xs.isEmpty:=by
 cases r<;>simp
theorem Dr:(sizeLine:Nat)<2 ^ 63:=by rw [sizeLine_eq];decide
theorem AN:KA X (fun x H Q=>∃k,Df X.K x H k/\Q k H):=by
 intro pins s σ H x v Q I rx h;obtain ⟨k,e,q⟩:=h;have hl:=Dr
 have hs:sizeLine=16777216:=sizeLine_eq
 cases x with
 | non=>
  cases rx;have e':k=false:=e
  subst e'
  exact truthy_none ⟨H,I,q⟩
 | bl b=>
  cases rx;have e':k=b:=e
  subst e'
  exact wpAny_truthy_bool ⟨H,I,q⟩
 | int i=>
  obtain ⟨t,rfl⟩:=rx;have e':k=(i != 0):=e
  subst e'
  exact PySem.P.truthy_int ⟨H,I,q⟩
 | str y=>
  obtain ⟨t,rfl⟩:=rx;obtain ⟨hy,e'⟩:y.length<=sizeLine/\k=((y.length:Int) != 0):=e
  subst e'
  exact PySem.P.truthy_str (by omega) ⟨H,I.tok _,q⟩
 | byt y=>
  obtain ⟨t,rfl⟩:=rx;obtain ⟨hy,e'⟩:y.size<=sizeLine/\k=((y.size:Int) != 0):=e
  subst e'
  exact PySem.W.truthy_bytes (by omega) ⟨H,I.tok _,q⟩
 | ref p=>
  cases rx;have e':(∃xs,SqL X.K H p xs/\k=!xs.isEmpty)\/(∃xs,SqT X.K H p xs/\k=!xs.isEmpty)\/∃kvs,H p=some (.dK kvs)/\k=!kvs.isEmpty:=e
  rcases e' with ⟨xs,hx,e'⟩ | ⟨xs,hx,e'⟩ | ⟨kvs,hx,e'⟩
  ·subst e'
   obtain ⟨its,r,pl,hz⟩:=I.list hx;have hlen:=r.length
   exact wpAny_truthy_list pl.isList (by simp only [size_toArray];omega) ⟨H,I.tok _,by rw [jl r];exact q⟩
  ·subst e'
   obtain ⟨its,r,pl,hz⟩:=I.tuple hx;have hlen:=r.length
   exact truthy_tuple pl (by simp only [size_toArray];omega) ⟨H,I.tok _,by rw [jl r];exact q⟩
  ·subst e'
   obtain ⟨hz,hS,vs,r,m⟩:kvs.length<=sizeLine/\(p==sysModules)=false/\∃vs,KV kvs vs/\s.heap.DictOf (bp X.prog X.w) p vs:=I.hok p _ hx
   have hlen:kvs.length=vs.length:=Paired.length r
   exact wpAny_truthy_dict hS m (by omega) ⟨H,I.tok _,by rw [ou r];exact q⟩
 | _=>exact (show False from e).elim
theorem uF (ha:PE X a ta) (he:∀whole,isTrue a X.env whole=(do let v <-whole;standAt a.pos;holding [v] (truthy v))) :
  PT X a (fun σ H Q=>ta σ H fun x H'=>∃k,Df X.K x H' k/\Q k H'):=by
 intro pins s σ H Q I h;exact isTrue_plain (bF (ha pins s σ H _ I h) fun v s1 ⟨x,H1,I1,r1,q1⟩=>AN pins s1 σ H1 x v Q I1 r1 q1) (he _)
theorem vals1 {x:V} {us:List Value} (r:Vals [x] us):∃u,us=[u]/\RelV x u:=by
 cases r with
 | cons r1 r2=>cases r2;exact ⟨_,rfl,r1⟩
theorem sj:CallR X (.type "int") (fun xs H Q=>(∃i,xs=[.int i]/\Q (.int i) H)\/∃k,xs=[.bl k]/\Q (.int (if k then 1 else 0)) H):=by
 intro pins s σ H xs us Q I r h;rcases h with ⟨i,rfl,q⟩ | ⟨k,rfl,q⟩
 ·obtain ⟨u,rfl,t,rfl⟩:=vals1 r
  exact call_int_int ⟨.int i,H,I,⟨_,rfl⟩,q⟩
 ·obtain ⟨u,rfl,r1⟩:=vals1 r
  cases r1;exact call_int_bool ⟨.int (if k then 1 else 0),H,I.tok _,⟨_,rfl⟩,q⟩
end
structure ObjM (h:Heap) (x dx C:Addr) (mA:Str->Option Value):Prop where
 obj:h.get? x=some (PySem.W.instObj C dx)
 ns:h.Ns1 dx mA
 ne:dx≠x
theorem rC {h:Heap} {dx:Addr} {mA:Str->Option Value} (n:h.Ns1 dx mA):∃od,h.get? dx=some od/\∀name,PySem.W.lookIn name od=some (mA name):=by
 obtain ⟨o,es,ep,ho,hd,hk,_,hm⟩:=n;refine ⟨o,ho,fun name=>?_⟩
 have e:=hm name
 unfold nsFind findBy at e;rw [<-Array.find?_toList] at e;unfold PySem.W.lookIn;rw [hd];dsimp only;split
 ·rename_i y q
  rw [q] at e;exact congrArg some e
 ·rename_i q
  rw [q] at e;have a:es.toList.any (·.refKey)=false:=by
   rw [List.any_eq_false];intro y hy;obtain ⟨z,t,hkey⟩:=hk y (Array.mem_toList_iff.mp hy);simp [DictEntry.refKey,hkey]
  have a':¬es.toList.any (·.refKey)=true:=by rw [a];exact Bool.false_ne_true
  rw [if_neg a'];exact congrArg some e
theorem ObjM.look {h:Heap} {x dx C:Addr} {mA:Str->Option Value} (I:ObjM h x dx C mA):∃od,PySem.W.InstAt h x (PySem.W.instObj C dx) C (some od)/\∀name,PySem.W.lookIn name od=some (mA name):=
 let ⟨od,ho,hl⟩:=rC I.ns
 ⟨od,⟨I.obj,rfl,rfl,ho⟩,hl⟩
theorem RelO.some_of {v:V} {o:Option Value} (r:RelO (some v) o):∃u,o=some u/\RelV v u:=by
 cases o with
 | none=>exact (show False from r).elim
 | some u=>exact ⟨u,rfl,r⟩
section
variable {P:Program} {w:World} {H H':Hp} {h h':Heap} {a C dx:Addr} {fs fs':List (Str×V)}
theorem yj (hok:HOk P w H h) (e:H a=some (.ins C dx fs)):∃mA,ObjM h a dx C mA/\(∀f,RelO (fs.lookup f) (mA f))/\PySem.Within mA (fs.map (·.1))/\fs.length<=1000/\H dx=some (.own a):=by
 obtain ⟨d,z,ne,ob,mA,n,r,q⟩:=(show ObjOk P w H h a (.ins C dx fs) from hok a _ e);exact ⟨mA,⟨ob,n,ne⟩,r,q,z,d⟩
end
structure Cls (K:Fg) (C:Addr):Prop where
 pg:PySem.W.plainGet K C Str.empty=true
 hd:PySem.W.hasDictIn K C=true
 po:PySem.W.plainOver K C=true
 sa:PySem.W.findIn K (.ref C) "__setattr__"=some (some (.builtin "object.__setattr__"))
theorem Cls.get {K:Fg} {C:Addr} (c:Cls K C) (f:Str):PySem.W.plainGet K C f=true:=c.pg
structure Con (K:Fg) (C:Addr) (f:Str) (v:V) (u:Value):Prop where
 at_:PySem.W.findIn K (.ref C) f=some (some u)
 rel:RelV v u
 get:PySem.W.specialIn K u "__get__"=some none
 cp:PySem.W.copiedNames.contains f=false
section
variable {X:Cx} {pins:List (Addr×Obj)} {σ:St} {H:Hp} {s:Shared} {A:Around} {E:Value->Shared->Prop} {Q:Value->Shared->Prop} {c:Value} {b:Bool}
inductive iS (K:Fg) (H:Hp):V->Value->Prop where
 | non:iS K H .non (.type "NoneType")
 | bl (x:Bool):iS K H (.bl x) (.type "bool")
 | int (i:Int):iS K H (.int i) (.type "int")
 | str (x:Str):iS K H (.str x) (.type "str")
 | flt (x:UInt64):iS K H (.flt x) (.type "float")
 | lst {a:Addr} {xs:List V} (e:H a=some (.lst xs)):iS K H (.ref a) (.type "list")
 | frz {a:Addr} {o:Obj} {xs:List V} (e:H a=some (.frz o (.lst xs))):iS K H (.ref a) (.type "list")
 | tup {a:Addr} {xs:List V} (e:H a=some (.tup xs)):iS K H (.ref a) (.type "tuple")
 | dK {a:Addr} {kvs:List (cV×V)} (e:H a=some (.dK kvs)):iS K H (.ref a) (.type "dict")
 | dT {a:Addr} {kvs:List (List cV×V)} (e:H a=some (.dT kvs)):iS K H (.ref a) (.type "dict")
 | ins {a C dx:Addr} {fs:List (Str×V)} (e:H a=some (.ins C dx fs)) (cl:Cls K C) (ha:PySem.W.findIn K (.ref C) "__class__"=some (some (.builtin "object.__class__")))
   (hn:PySem.W.specialIn K (.builtin "object.__class__") "__get__"=some (some (.builtin "getset_descriptor.__get__"))) (htk:PySem.W.takesIn K (.builtin "object.__class__")=some true)
   (hm:PySem.W.mroIn K C (.type "object")=some true):iS K H (.ref a) (.ref C)
theorem Ay {x:V} {u t:Value} (I:Inv X pins σ H s) (rx:RelV x u) (ty:iS X.K H x t) (e:PySem.W.kitOne X.K t c=some b) (h:∀tk,Q (.bool b) { s with toks:=tk }) :
  wpAny (model X.prog X.w) A (call (.builtin "isinstance") [u,c]) Q E s:=by
 cases ty with
 | non=>cases (show u=Value.none from rx);exact PySem.W.kia_one PySem.W.kitx_none I.kIn True.intro e nofun h
 | bl y=>cases (show u=Value.bool y from rx);exact PySem.W.kia_one PySem.W.kitx_bool I.kIn True.intro e nofun h
 | int i=>obtain ⟨t,q⟩:=(show ∃t,u=Value.int i t from rx);cases q;exact PySem.W.kia_one PySem.W.kitx_int I.kIn True.intro e nofun h
 | str y=>obtain ⟨t,q⟩:=(show ∃t,u=Value.str y t from rx);cases q;exact PySem.W.kia_one PySem.W.kitx_str I.kIn True.intro e nofun h
 | flt y=>obtain ⟨t,q⟩:=(show ∃t,u=Value.float y t from rx);cases q;exact PySem.W.kia_one PySem.W.kitx_float I.kIn True.intro e nofun h
 | @lst a xs ea=>
  cases (show u=Value.ref a from rx)
  obtain ⟨_,_,n,_,h1⟩:=(show ObjOk X.prog X.w H s.heap a (.lst xs) from I.hok a _ ea);exact PySem.W.kia_one PySem.W.kitx_list I.kIn ⟨_,h1,rfl⟩ e nofun h
 | @frz a ob xs ea=>
  cases (show u=Value.ref a from rx)
  obtain ⟨_,_,_,n,_,h1⟩:=(show ObjOk X.prog X.w H s.heap a (.frz ob (.lst xs)) from I.hok a _ ea);exact PySem.W.kia_one PySem.W.kitx_list I.kIn ⟨_,h1,rfl⟩ e nofun h
 | @tup a xs ea=>
  cases (show u=Value.ref a from rx)
  obtain ⟨_,_,_,p⟩:=(show ObjOk X.prog X.w H s.heap a (.tup xs) from I.hok a _ ea);obtain ⟨o,h1,h2,_⟩:=p;exact PySem.W.kia_one PySem.W.kitx_tuple I.kIn ⟨o,h1,h2⟩ e nofun h
 | @dK a kvs ea=>
  cases (show u=Value.ref a from rx)
  obtain ⟨_,_,vs,_,p⟩:=(show ObjOk X.prog X.w H s.heap a (.dK kvs) from I.hok a _ ea);obtain ⟨o,es,ep,h1,h2,_⟩:=p;exact PySem.W.kia_one PySem.W.kitx_dict I.kIn ⟨o,h1,h2.1⟩ e nofun h
 | @dT a kvs ea=>
  cases (show u=Value.ref a from rx)
  obtain ⟨_,_,xs,_,o,es,ep,h1,h2,_⟩:=(show ObjOk X.prog X.w H s.heap a (.dT kvs) from I.hok a _ ea);exact PySem.W.kia_one PySem.W.kitx_dict I.kIn ⟨o,h1,h2.1⟩ e nofun h
 | @ins a C dx fs ea cl ha hn htk hm=>
  cases (show u=Value.ref a from rx)
  obtain ⟨mA,O,_⟩:=yj I.hok ea;obtain ⟨od,J,_⟩:=O.look;exact PySem.W.kia_one (PySem.W.kitx_own (cl.get _) cl.hd ha hn htk hm) I.kIn J e nofun h
end
structure Room (k:Nat) (A:Around):Prop where
 hd:A.handled=none
 dp:A.depth+3*k+5<recursionLimit
 un:A.units+16*k+200<cLine
 gd:A.guards=some []
theorem Room.mono {j k:Nat} {A:Around} (r:Room k A) (h:j<=k):Room j A:=⟨r.hd,by have:=r.dp;omega,by have:=r.un;omega,r.gd⟩
theorem Room.deeper {k:Nat} {A:Around} (r:Room (k+1) A) (env:Env):Room k (A.deeper env):=
 ⟨r.hd,by have:=r.dp;show A.depth+1+3*k+5<_;omega,by have:=r.un;show A.units+3+16*k+200<_;omega,r.gd⟩
theorem Room.depth {k:Nat} {A:Around} (r:Room k A):A.depth<recursionLimit:=by have:=r.dp;omega
theorem Room.units {k:Nat} {A:Around} (r:Room k A):A.units+64<cLine:=by have:=r.un;omega
noncomputable def lO:TA:=fun _ H Q=>Q [] H
noncomputable def dW (ta:TE) (tr:TA):TA:=fun σ H Q=>ta σ H fun x H1=>tr σ H1 fun xs H2=>Q (x::xs) H2
section
variable {X:Cx} {e:Expr} {es:List Expr} {te:TE} {t:TA} {pos:Pos}
theorem wU:PA X [] lO:=fun _ _ _ _ H Q I h=>Calls.spliced_nil ⟨[],H,I,.nil,h⟩
theorem nF (ha:PE X e te) (hr:PA X es t) (hs:starEach (e::es) X.env=(false,eval e X.env)::starEach es X.env:=by rfl):PA X (e::es) (dW te t):=by
 intro pos pins s σ H Q I h;rw [hs];show wpAny _ _ (spliced ((false,eval e X.env)::backTo pos (starEach es X.env))) _ _ s
 refine Calls.spliced_cons (bF (ha pins s σ H _ I h) fun u s1 ⟨x,H1,I1,r1,q1⟩=>?_)
 exact bF (hr pos pins s1 σ H1 _ I1 q1) fun us s2 ⟨xs,H2,I2,r2,q2⟩=>⟨x::xs,H2,I2,.cons r1 r2,q2⟩
noncomputable def AO (t:TA):TE:=fun σ H Q=>t σ H fun xs H1=>xs.length<=sizeLine/\∀p,H1 p=none->Q (.ref p) (bU H1 p (.tup xs))
noncomputable def EG (t:TA):TE:=fun σ H Q=>t σ H fun xs H1=>xs.length<=sizeLine/\∀p,H1 p=none->Q (.ref p) (bU H1 p (.lst xs))
theorem uN {x1} (h:PA X es t):PE X (.Tuple es x1 pos) (AO t):=by
 intro pins s σ H Q I hq;refine wpAny_Tuple_spliced (bF (h pos pins s σ H _ I hq) fun us s1 ⟨xs,H1,I1,r,z,q⟩=>⟨by rw [<-r.length];exact z,?_⟩)
 have hf:H1 s1.heap.objs.size=none:=I1.hok.fresh (Nat.le_refl _)
 refine ⟨.ref s1.heap.objs.size,bU H1 s1.heap.objs.size (.tup xs),I1.laid (t':=s1.toks) (fun b u e=>Heap.get?_push_of_some _ e) (Nat.le_refl _) ?_,rfl,q _ hf⟩
 exact ⟨z,us,r,⟨_,Heap.get?_push_size _ rfl,rfl,_,rfl⟩⟩
theorem uP (h:PA X es t):PE X (.List es pos) (EG t):=by
 intro pins s σ H Q I hq;refine wpAny_List_spliced (bF (h pos pins s σ H _ I hq) fun us s1 ⟨xs,H1,I1,r,z,q⟩=>⟨by rw [<-r.length];exact z,?_⟩)
 have hf:H1 s1.heap.objs.size=none:=I1.hok.fresh (Nat.le_refl _)
 refine ⟨.ref s1.heap.objs.size,bU H1 s1.heap.objs.size (.lst xs),I1.laid (t':=s1.toks) (fun b u e=>Heap.get?_push_of_some _ e) (Nat.le_refl _) ?_,rfl,q _ hf⟩
 exact ⟨z,us,0,r,Heap.get?_push_size _ rfl⟩
end
abbrev Sp:=List V->Hp->VK->XK->Prop
abbrev sC:=List Env->Hp->Shared->XK->Value->Shared->Prop
structure oY (P:Program) (w:World) (K:Fg) (mg:Str->Option Value) (base:Heap) (A:Around) (outer:List Env) (s:Shared) (H:Hp):Prop where
 frames:A.frames=some outer
 mod:Mod K mg base
 bs:∀b o,base.get? b=some o->s.heap.get? b=some o/\H b=none
 bsz:base.objs.size<=s.heap.objs.size
 funs:s.heap.FunFrames base outer
 frf:∀b∈fN outer,H b=none
 hok:HOk P w H s.heap
 bare:AllBare s.gens
noncomputable def CE (outer:List Env) (P:Program) (w:World) (H:Hp) (s:Shared) (Q:VK) (u:Value) (s':Shared):Prop:=
 ∃v H',s'.os=s.os/\AllBare s'.gens/\Un (fN outer) [] H H' s.heap s'.heap/\HOk P w H' s'.heap/\RelV v u/\Q v H'
noncomputable def CR (CX:sC) (outer:List Env) (P:Program) (w:World) (H:Hp) (s:Shared) (Q:VK) (E:XK) (r:Result) (s':Shared):Prop:=
 match r with
 | .ok (.ret u)=>CE outer P w H s Q u s'
 | .ok _=>False
 | .error e=>CX outer H s E e s'
structure dk (P:Program) (w:World) (K:Fg) (mg:Str->Option Value) (base:Heap) (CX:sC) (k:Nat) (f:Addr) (fd:FuncData) (ps:List Str) (sp:Sp):Prop where
 len:∀vs H Q E,sp vs H Q E->vs.length=ps.length
 run:∀(A:Around) (outer:List Env) (s:Shared) (H:Hp) (args:Args) (us:List Value) (vs:List V) (Q:VK) (E:XK),Room k A->oY P w K mg base A outer s H->BindsTo s fd args (ps.zip us)->Vals vs us->sp vs H Q E ->
  codeAny (model P w) A (.call (.ref f) args) (CR CX outer P w H s Q E) s
section
variable {X:Cx} {pins:List (Addr×Obj)} {σ:St} {H:Hp} {s s':Shared}
theorem Inv.env0 (I:Inv X pins σ H s):oY X.prog X.w X.K X.mg X.base X.A X.stack s H:=
 ⟨I.ok.frames,I.ok.mod,I.bs,Nat.le_trans I.ok.bsz I.sz,I.stack,I.stkFree,I.hok,I.bare⟩
theorem Inv.after {Q:VK} {u:Value} (I:Inv X pins σ H s) (h:CE X.stack X.prog X.w H s Q u s'):EP X pins σ Q u s':=by
 obtain ⟨v,H',os,bare,un,hok,r,q⟩:=h;obtain ⟨hh,g,d,t,os'⟩:=s'
 obtain rfl:os'=s.os:=os
 exact ⟨v,H',I.call (h':=hh) (g':=g) (d':=d) (t':=t) (ch:=[]) un hok bare (fun b z=>absurd z (by simp)),r,q⟩
end
noncomputable def lP (sp:Sp) (dvs:List V) (E:XK) (t:TA):TE:=fun σ H Q=>t σ H fun vs H1=>sp (vs++dvs) H1 Q E
noncomputable def Binds (K:Fg) (fd:FuncData) (ps:List Str) (ds:List Value):Prop:=
 ∀(s:Shared) (us:List Value),K.In s.heap->(us++ds).length=ps.length->BindsTo s fd ⟨us,[]⟩ (ps.zip (us++ds))
theorem Binds.all {K:Fg} {fd:FuncData} {ps:List Str} (h:∀us:List Value,us.length=ps.length->bindArgs fd ⟨us,[]⟩=pure (ps.zip us)):Binds K fd ps []:=fun s us _ hl=>by
 rw [append_nil] at hl ⊢;exact .of_eq (h us hl)
noncomputable def lx (CX:sC) (X:Cx) (E:XK):Prop:=∀(pins:List (Addr×Obj)) (σ:St) (H:Hp) (s:Shared) (e:Value) (s':Shared),Inv X pins σ H s->CX X.stack H s E e s'->X.xe e s'
section
variable {X:Cx} {CX:sC} {k:Nat} {f C:Addr} {fd:FuncData} {ps:List Str} {sp:Sp} {dvs:List V} {ds:List Value} {E:XK} {x m:Str} {p pos apos:Pos} {e o:Expr} {es:List Expr} {ta:TE} {t:TA}
theorem A6 {pins:List (Addr×Obj)} {σ:St} {H:Hp} {s:Shared} {Q:VK} {us:List Value} {vs:List V} (F:dk X.prog X.w X.K X.mg X.base CX k f fd ps sp) (hr:Room k X.A) (hb:Binds X.K fd ps ds) (hd:Vals dvs ds) (hx:lx CX X E)
  (I:Inv X pins σ H s) (r:Vals vs us) (h:sp (vs++dvs) H Q E):wpAny (model X.prog X.w) X.A (call (.ref f) us) (EP X pins σ Q) X.xe s:=by
 have r2:Vals (vs++dvs) (us++ds):=r.append hd
 have hl:(us++ds).length=ps.length:=by rw [<-r2.length];exact F.len _ _ _ _ h
 refine wpAny_call (codeAny_mono (F.run X.A X.stack s H ⟨us,[]⟩ (us++ds) (vs++dvs) Q E hr I.env0 (hb s us I.kIn hl) r2 h) fun r s' hq=>?_)
 cases r with
 | error e=>exact hx pins σ H s e s' I hq
 | ok fl=>
  cases fl with
  | ret u=>exact I.after hq
  | next=>exact False.elim hq
  | brk=>exact False.elim hq
  | cont=>exact False.elim hq
theorem pO (F:dk X.prog X.w X.K X.mg X.base CX k f fd ps sp) (hr:Room k X.A) (hg:Gl X x) (hm:X.mg x=some (.ref f)) (hk:PySem.W.keepIn X.K (.ref f)=true) (hb:Binds X.K fd ps ds) (hd:Vals dvs ds) (hx:lx CX X E)
  (ha:PA X (e::es) t) (hdb:(x==("__debug__":Str))=false:=by decide) (he:starEach (e::es) X.env=(false,eval e X.env)::starEach es X.env:=by rfl) (hpl:(backTo pos (starEach es X.env)).any (·.1)=false:=by rfl) :
  PE X (.Call (.Name x p) (e::es) [] pos) (lP sp dvs E t):=by
 intro pins s σ H Q I h;refine wpAny_Call_Name_kw (zh I hg hm ?_ hdb)
 refine PySem.W.callWith_K (h₀:=X.base) I.ok.mod.kin hk (bF (ha pos pins s σ H _ I h) fun us s1 ⟨vs,H1,I1,r,q⟩=>⟨I1.kIn,?_⟩) he hpl
 exact A6 F hr hb hd hx I1 r q
end
structure cK (N P:List Str) (sc:Scope):Prop where
 kind:sc.kind=.function
 co:sc.isCoroutine=false
 gen:sc.isGenerator=false
 nd:N.Nodup
 pre:N.take P.length=P
 par:∀x∈P,sc.names.lookup x=some .local\/sc.names.lookup x=some .cell
 nofree:∀y∈sc.names,y.2≠.free
theorem kA {kindOf:Str->Option NameKind} {x:Str}:∀{binds:List (Str×Value)} {m:Str->Option Value},(∀v,(x,v)∉binds)->bindL kindOf binds m x=m x
 | [],_,_=>rfl
 | (n,v)::r,m,h=>by
  unfold bindL;rw [kA fun w hw=>h w (mem_cons_of_mem _ hw)]
  split
  ·have:x≠n:=by rintro rfl;exact h v mem_cons_self
   simp [this]
  ·rfl
theorem kC {kindOf:Str->Option NameKind} {x:Str}:∀{binds:List (Str×Value)} {m:Str->Option Value},(∀v,(x,v)∉binds)->bindC kindOf binds m x=m x
 | [],_,_=>rfl
 | (n,v)::r,m,h=>by
  unfold bindC;rw [kC fun w hw=>h w (mem_cons_of_mem _ hw)]
  split
  ·rfl
  ·have:x≠n:=by rintro rfl;exact h v mem_cons_self
   simp [this]
theorem kB {kindOf:Str->Option NameKind} {x:Str} {v:Value}:∀{P:List Str} {vs:List Value} {i:Nat} {m:Str->Option Value},P.Nodup->P[i]?=some x->vs[i]?=some v->kindOf x=some .local ->
  bindL kindOf (P.zip vs) m x=some v
 | [],_,_,_,_,h,_,_=>by simp at h
 | _::_,[],_,_,_,_,h,_=>by simp at h
 | p::P,w::vs,0,m,nd,h1,h2,hk=>by
  simp at h1 h2;subst h1;subst h2;show bindL kindOf ((p,w)::P.zip vs) m p=_
  unfold bindL;rw [kA fun v hv=>(List.nodup_cons.mp nd).1 (of_mem_zip hv).1,if_pos hk]
  simp
 | p::P,w::vs,i+1,m,nd,h1,h2,hk=>by
  show bindL kindOf ((p,w)::P.zip vs) m x=_
  unfold bindL;exact kB (i:=i) (List.nodup_cons.mp nd).2 (by simpa using h1) (by simpa using h2) hk
theorem kD {kindOf:Str->Option NameKind} {x:Str} {v:Value}:∀{P:List Str} {vs:List Value} {i:Nat} {m:Str->Option Value},P.Nodup->P[i]?=some x->vs[i]?=some v->kindOf x≠some .local ->
  bindC kindOf (P.zip vs) m x=some v
 | [],_,_,_,_,h,_,_=>by simp at h
 | _::_,[],_,_,_,_,h,_=>by simp at h
 | p::P,w::vs,0,m,nd,h1,h2,hk=>by
  simp at h1 h2;subst h1;subst h2;show bindC kindOf ((p,w)::P.zip vs) m p=_
  unfold bindC;rw [kC fun v hv=>(List.nodup_cons.mp nd).1 (of_mem_zip hv).1,if_neg hk]
  simp
 | p::P,w::vs,i+1,m,nd,h1,h2,hk=>by
  show bindC kindOf ((p,w)::P.zip vs) m x=_
  unfold bindC;exact kD (i:=i) (List.nodup_cons.mp nd).2 (by simpa using h1) (by simpa using h2) hk
noncomputable def start (N:List Str) (vs:List V):St:=vs.map some++List.replicate (N.length-vs.length) none
noncomputable def fg (CX:sC) (P:Program) (w:World) (K:Fg) (mg:Str->Option Value) (base:Heap) (N:List Str) (qual:Str) (scope:Scope) (f:Addr) (cd:Value) (A:Around) (outer:List Env) (s:Shared) (H:Hp) (E:XK):Cx where
 prog:=P
 w:=w
 K:=K
 mg:=mg
 base:=base
 A:=A.deeper (envOfC qual scope s.heap.objs.size f cd)
 N:=N
 s₀:=s
 H₀:=H
 env:=envOfC qual scope s.heap.objs.size f cd
 outer:=outer
 stack:=envOfC qual scope s.heap.objs.size f cd::outer
 ex:=[]
 calm:=true
 fn:=fun _=>true
 pn:=[]
 xe:=fun e s'=>wpAny (model P w) (A.deeper (envOfC qual scope s.heap.objs.size f cd)) (leaving (envOfC qual scope s.heap.objs.size f cd) e) (fun _ s''=>CX outer H s E e s'') (fun e' s''=>CX outer H s E e' s'') s'
theorem nz {sc:Scope} {n:Nat} {x:Str} (h:sc.names.lookup x=some .cell):∃c,(cellsFrom n sc.names []).lookup x=some c:=by
 have q:=PySem.W.cellsFrom_some sc.names n [] (.inl h)
 exact Option.isSome_iff_exists.mp q
theorem kj {CX:sC} {P:Program} {w:World} {K:Fg} {mg:Str->Option Value} {base:Heap} {N ps:List Str} {qual:Str} {scope:Scope} {f:Addr} {cd:Value} {A:Around} {outer:List Env} {s s1:Shared} {H:Hp} {E:XK} {us:List Value} {vs:List V}
  (S:cK N ps scope) (hd:A.handled=none) (e0:oY P w K mg base A outer s H) (hl:vs.length=ps.length) (r:Vals vs us)
  (x:InCallC s s.heap.objs.size (bindL (envOfC qual scope s.heap.objs.size f cd).kindOf (ps.zip us) fun _=>none) (cellsFrom (s.heap.objs.size+1) scope.names []) (bindC (envOfC qual scope s.heap.objs.size f cd).kindOf (ps.zip us) fun _=>none) s1) :
  Inv (fg CX P w K mg base N qual scope f cd A outer s H E) [] (start N vs) H s1:=by
 have hpl:ps.length<=N.length:=by have:=congrArg List.length S.pre;rw [length_take] at this;omega
 obtain ⟨h1,tk,rfl,hk⟩:=x.done;have noA:∀b:Addr,b∉(fg CX P w K mg base N qual scope f cd A outer s H E).ex:=fun b z=>absurd (show b∈([]:List Addr) from z) (by simp)
 refine ⟨⟨e0.mod,S.kind,rfl,rfl,Nat.le_refl _,fun y z c h1 h2=>?_,fun y hy=>?_,fun y c _ h=>?_,fun _=>hd,Around.frames_deeper e0.frames,.inr ⟨rfl,rfl⟩,fun b z=>absurd z (noA b),e0.bs,e0.bsz,fun b _ _=>noA b,fun b z=>absurd z (noA b),e0.funs,e0.frf⟩,
  rfl,e0.bare,Un.kept hk,⟨_,x.toInCall.ns,fun i y v h1 h2 h3=>?_⟩,fun y c h=>⟨_,x.cell y c h⟩,e0.hok.fresh (Nat.le_refl _),fun y c h=>?_,fun p hp=>absurd (show p∈([]:List (Addr×Obj)) from hp) (by simp),e0.hok.kept hk,?_⟩
 ·exact name_of_addr x.apart (PySem.mem_of_lookup h1) (PySem.mem_of_lookup h2)
 ·have hy:scope.names.lookup y=some .cell\/scope.names.lookup y=some .free:=hy
  rcases hy with hy | hy
  ·exact nz hy
  ·exact absurd rfl (S.nofree _ (PySem.mem_of_lookup hy))
 ·exact Nat.le_of_lt (x.above y c (PySem.mem_of_lookup h))
 ·have hi:i<vs.length:=by
   unfold start at h2;by_cases hi:i<vs.length
   ·exact hi
   ·rw [getElem?_append_right (by simpa using hi)] at h2
    rw [getElem?_replicate] at h2;split at h2<;>cases h2
  have ha:vs[i]?=some v:=by
   unfold start at h2;rw [getElem?_append_left (by simpa using hi),getElem?_map] at h2
   cases e:vs[i]? with
   | none=>rw [e] at h2;cases h2
   | some a=>rw [e] at h2;cases h2;rfl
  obtain ⟨u,hu,rv⟩:=r.get ha;have hp:ps[i]?=some y:=by
   rw [<-S.pre,List.getElem?_take_of_lt (by omega)];exact h1
  have ndP:ps.Nodup:=by rw [<-S.pre];exact S.nd.sublist (List.take_sublist _ _)
  refine ⟨u,rv,?_⟩
  rcases S.par y (mem_of_getElem? hp) with k | k
  ·exact .inl ⟨k,kB ndP hp hu k⟩
  ·obtain ⟨c,e⟩:=nz (n:=s.heap.objs.size+1) k
   refine .inr ⟨.inl k,c,e,?_⟩
   have q:=x.cell y c e
   rw [kD ndP hp hu (by show scope.names.lookup y≠_;rw [k];decide)] at q
   exact q
 ·exact e0.hok.fresh (Nat.le_of_lt (x.above y c (PySem.mem_of_lookup h)))
 ·unfold start
  show _=N.length
  rw [length_append,length_map,length_replicate];omega
theorem Ac {CX:sC} {P:Program} {w:World} {K:Fg} {mg:Str->Option Value} {base:Heap} {k:Nat} {f:Addr} {name qual:Str} {params:Arguments} {body:List Stmt} {scope:Scope} {dV kV doc pm cdv ct oc:Value} {an od:Option Addr}
  {osl:Array (Option Value)} {N ps:List Str} {sp:Sp} (lk:K.lookup f=some ⟨oc,od,.func (PySem.W.fnOf name qual params body scope dV kV doc pm an cdv ct),osl⟩) (hcd:PySem.W.codeIn K cdv qual=true) (S:cK N ps scope)
  (len:∀vs H Q E,sp vs H Q E->vs.length=ps.length)
  (hbody:∀(A:Around) (outer:List Env) (s:Shared) (H:Hp) (vs:List V) (Q:VK) (E:XK),Room k (A.deeper (envOfC qual scope s.heap.objs.size f cdv))->sp vs H Q E ->
   ∃t,PSs (fg CX P w K mg base N qual scope f cdv A outer s H E) body t/\t { nx:=fun _ H'=>Q .non H',rt:=Q } (start N vs) H) :
  dk P w K mg base CX (k+1) f (PySem.W.fnOf name qual params body scope dV kV doc pm an cdv ct) ps sp:=by
 refine ⟨len,fun A outer s H args us vs Q E hr e0 hb r hsp=>?_⟩
 have hl:=len _ _ _ _ hsp
 have KX:K.In s.heap:=e0.mod.kin.keeps fun b o e=>(e0.bs b o e).1
 have lim:s.heap.NoLimit:=e0.mod.nolimit.keeps fun b o e=>(e0.bs b o e).1
 have hkind:∀y∈ps.zip us,scope.names.lookup y.1=some .local\/(scope.names.lookup y.1=some .cell/\((cellsFrom (s.heap.objs.size+1) scope.names []).lookup y.1).isSome=true):=fun ⟨n,v⟩ hy=>by
  rcases S.par n (of_mem_zip hy).1 with q | q
  ·exact .inl q
  ·exact .inr ⟨q,PySem.W.cellsFrom_some _ _ _ (.inl q)⟩
 refine codeAny_call_function hr.depth (KX _ _ lk) rfl S.co S.gen rfl (PySem.W.codeRec_of KX hcd) (hb _ _ _ _ ?_)
 refine wpAny_newFunctionEnv_cells S.kind hkind fun env he s1 x=>?_
 subst he;refine ⟨lim.keeps x.toInCall.keep,codeAny_func ?_⟩
 obtain ⟨t,ht,hq⟩:=hbody A outer s H vs Q E (hr.deeper _) hsp;have I:Inv (fg CX P w K mg base N qual scope f cdv A outer s H E) [] (start N vs) H s1:=kj S hr.hd e0 hl r x
 refine wpAny_mono (ht [] s1 (start N vs) H _ I hq) (fun fl s' hs=>?_) fun e s' hs=>hs
 have fin:∀{σ':St} {H':Hp} {v:V} {u:Value},Inv (fg CX P w K mg base N qual scope f cdv A outer s H E) [] σ' H' s'->RelV v u->Q v H'->CE outer P w H s Q u s':=
  fun {σ' H' v u} J rv q=>⟨v,H',J.os,J.bare,J.base,J.hok,rv,q⟩
 cases fl with
 | ret u=>
  obtain ⟨v,σ',H',J,rv,q⟩:=hs;exact fin J rv q
 | next=>
  obtain ⟨σ',H',J,q⟩:=hs;exact fin (v:=V.non) (u:=Value.none) J rfl q
 | brk=>
  obtain ⟨_,_,_,q⟩:=hs;exact False.elim q
 | cont=>
  obtain ⟨_,_,_,q⟩:=hs;exact False.elim q
section
variable {X:Cx} {x:Str} {p pos:Pos} {e:Expr} {es:List Expr} {t:TA} {id T:String} {r:List V->Hp->VK->Prop}
noncomputable def zz (r:List V->Hp->VK->Prop) (t:TA):TE:=fun σ H Q=>t σ H fun vs H1=>r vs H1 Q
theorem Dx (hc:CallR X (.builtin id) r) (hg:Gl X x) (hm:X.mg x=none) (hv:bootBuiltins x=some (.builtin id)) (ha:PA X (e::es) t) (hn:x ≠ "__name__":=by decide) (hdb:(x==("__debug__":Str))=false:=by decide)
  (he:starEach (e::es) X.env=(false,eval e X.env)::starEach es X.env:=by rfl) (hpl:(backTo pos (starEach es X.env)).any (·.1)=false:=by rfl):PE X (.Call (.Name x p) (e::es) [] pos) (zz r t):=by
 intro pins s σ H Q I h;refine wpAny_Call_Name_kw (wR I hg hm hv ?_ hn hdb)
 exact PyProof.Rows.callWith_builtin1 (bF (ha pos pins s σ H _ I h) fun us s1 ⟨vs,H1,I1,r1,q1⟩=>hc pins s1 σ H1 vs us Q I1 r1 q1) he hpl
theorem IZ (hc:CallR X (.type T) r) (hg:Gl X x) (hm:X.mg x=none) (hv:bootBuiltins x=some (.type T)) (ha:PA X (e::es) t) (hn:x ≠ "__name__":=by decide) (hdb:(x==("__debug__":Str))=false:=by decide)
  (he:starEach (e::es) X.env=(false,eval e X.env)::starEach es X.env:=by rfl) (hpl:(backTo pos (starEach es X.env)).any (·.1)=false:=by rfl):PE X (.Call (.Name x p) (e::es) [] pos) (zz r t):=by
 intro pins s σ H Q I h;refine wpAny_Call_Name_kw (wR I hg hm hv ?_ hn hdb)
 exact PyProof.Rows.callWith_type1 (bF (ha pos pins s σ H _ I h) fun us s1 ⟨vs,H1,I1,r1,q1⟩=>hc pins s1 σ H1 vs us Q I1 r1 q1) he hpl
end
end L2
namespace HT
open PySem PyProof.Rows
section
variable {prog:Program} {w:World} {A:Around} {E:Value->Shared->Prop} {s:Shared}
theorem cat_tup {t b:Addr} {vs ws:List Value} {Q:Value->Shared->Prop} (ht:IsTup s.heap t vs.toArray) (hb:IsTup s.heap b ws.toArray) (hv:vs≠[])
  (h1:ws=[]->Q (.ref t) s) (h2:ws≠[]->Q (.ref s.heap.objs.size) { s with heap:=s.heap.push { cls:=.type "tuple",data:=.seq (vs++ws).toArray } })
  (hsz:vs.length+ws.length<=sizeLine):wpAny (model prog w) A (binaryOp .Add (.ref t) (.ref b)) Q E s:=by
 obtain ⟨⟨cls,dd,data,sl⟩,ho,hc,n,hd⟩:=id ht;obtain ⟨⟨cls2,dd2,data2,sl2⟩,ho2,hc2,n2,hd2⟩:=id hb;simp only at hc hd hc2 hd2
 subst hc hd hc2 hd2;have e:vs.toArray++ws.toArray=(vs++ws).toArray:=by simp
 by_cases hw:ws=[]
 ·exact concat_meets ⟨_,ho,rfl⟩ ⟨_,ho2,rfl⟩ noFill_tuple_add seq_tuple_add PySem.F.slot_tuple_add PySem.F.entry_tuple_add (PySem.F.args_tuple_add_2 _ _)
   (tuple_addW1 t b vs.toArray ws.toArray n n2 dd dd2 sl sl2 (by simpa using hv) (by simp [hw])) ⟨ho,ho2,h1 hw⟩
 ·refine concat_meets ⟨_,ho,rfl⟩ ⟨_,ho2,rfl⟩ noFill_tuple_add seq_tuple_add PySem.F.slot_tuple_add PySem.F.entry_tuple_add (PySem.F.args_tuple_add_2 _ _)
   (tuple_addW2 t b vs.toArray ws.toArray n n2 dd dd2 sl sl2 (by simpa using hv) (by simpa using hw) (by rw [size_toArray,size_toArray];exact hsz)) ⟨ho,ho2,?_⟩
  rw [e];exact h2 hw
noncomputable def sIx (n d:Nat):Option Int->Nat
 | none=>d
 | some v=>if v<0 then (v+(n:Int)).toNat else min v.toNat n
theorem sIx_none (n d:Nat):sIx n d none=d:=rfl
theorem sIx_nat (n d k:Nat):sIx n d (some (k:Int))=min k n:=by
 show (if (k:Int)<0 then ((k:Int)+(n:Int)).toNat else min (k:Int).toNat n)=min k n
 rw [if_neg (by omega),Int.toNat_natCast]
theorem AZ (n d:Nat) (hd:d<=n) (o:Option Int):sIx n d o<=n:=by
 cases o with
 | none=>exact hd
 | some v=>
  show (if v<0 then (v+(n:Int)).toNat else min v.toNat n)<=n
  by_cases hv:v<0
  ·rw [if_pos hv];omega
  ·rw [if_neg hv];exact Nat.min_le_right _ _
theorem qu (v:Int) (n d:Nat):(if v<0 then max (v+(n:Int)) 0 else min v (n:Int))=((sIx n d (some v):Nat):Int):=by
 show (if v<0 then max (v+(n:Int)) 0 else min v (n:Int))=(((if v<0 then (v+(n:Int)).toNat else min v.toNat n):Nat):Int)
 by_cases hv:v<0
 ·simp only [if_pos hv];omega
 ·simp only [if_neg hv];omega
theorem oV (lo hi:Option Int) (n:Nat):Builtin.Slice.sliceAdjust lo hi 1 (n:Int)=(((sIx n 0 lo:Nat):Int),((sIx n n hi:Nat):Int)):=by
 have h1:¬((1:Int)<0):=by omega
 unfold Builtin.Slice.sliceAdjust;simp only [h1,if_false]
 refine Prod.ext ?_ ?_
 ·cases lo with
  | none=>rfl
  | some v=>exact qu v n 0
 ·cases hi with
  | none=>rfl
  | some v=>exact qu v n n
theorem nW (i j:Nat):Builtin.Slice.slicePlaces (i:Int) (j:Int) 1=j-i:=by
 unfold Builtin.Slice.slicePlaces;have h1:(1:Int)>0:=by omega
 simp only [h1,if_true,Int.ediv_one]
 split<;>omega
theorem jc {v:Value} {o:Option Int} {Q:Option Int->Shared->Prop} (p:IsPart v o) (h:Q o s):wpAny (model prog w) A (Builtin.Slice.slicePartIndex v) Q E s:=by
 cases p with
 | none=>exact slicePart_none h
 | int i t=>exact slicePart_int h
theorem gT {sl:Addr} {vl vu:Value} {lo hi:Option Int} {n:Nat} {Q:Int×Int×Nat->Shared->Prop} (hs:s.heap.IsSliceOf sl vl vu .none) (pl:IsPart vl lo) (pu:IsPart vu hi)
  (h:Q (((sIx n 0 lo:Nat):Int),1,sIx n n hi-sIx n 0 lo) s):wpAny (model prog w) A (Builtin.Slice.sliceApplied (.ref sl) (pure (n:Int))) Q E s:=by
 obtain ⟨os,hos,hcs,hds⟩:=id hs;unfold Builtin.Slice.sliceApplied Builtin.Slice.sliceFields;refine wpAny_bind (wpAny_bind (wpAny_field hos hds (x:=vl) rfl (wpAny_bind (wpAny_field hos hds (x:=vu) rfl (wpAny_bind (wpAny_field hos hds (x:=.none) rfl (wpAny_pure ?_)))))))
 refine wpAny_bind (slicePart_none ?_)
 show wpAny _ _ (if ((1:Int)==0)=true then _ else _) _ _ s
 rw [if_neg (by decide)]
 refine wpAny_bind (jc pl (wpAny_bind (jc pu (wpAny_bind (wpAny_pure ?_)))))
 show wpAny _ _ (match Builtin.Slice.sliceAdjust lo hi 1 (n:Int) with | (lo,hi)=>pure (lo,(1:Int),Builtin.Slice.slicePlaces lo hi 1)) _ _ s
 rw [oV lo hi n];show wpAny _ _ (pure (((sIx n 0 lo:Nat):Int),(1:Int),Builtin.Slice.slicePlaces ((sIx n 0 lo:Nat):Int) ((sIx n n hi:Nat):Int) 1)) _ _ s
 rw [nW];exact wpAny_pure h
theorem uK (xs:Array Value) (i k:Nat):((List.range k).filterMap fun (m:Nat)=>xs[((i:Int)+(m:Int)*1).toNat]?).toArray=((xs.toList.drop i).take k).toArray:=by
 have e:(fun (m:Nat)=>xs[((i:Int)+(m:Int)*1).toNat]?)=fun m=>xs[i+m]?:=by
  funext m
  have:((i:Int)+(m:Int)*1).toNat=i+m:=by omega
  rw [this]
 rw [e];have:=pick_run xs i k
 rw [List.filterMap_map] at this;have e2:((fun x=>xs[x]?)∘fun x=>i+x)=fun m=>xs[i+m]?:=rfl
 rw [e2] at this;rw [this]
theorem getItem_tuple_cut {t sl:Addr} {items:Array Value} {vl vu:Value} {lo hi:Option Int} {Q:Value->Shared->Prop} (ht:IsTup s.heap t items) (hs:s.heap.IsSliceOf sl vl vu .none) (pl:IsPart vl lo) (pu:IsPart vu hi)
  (hw:¬(sIx items.size 0 lo=0/\sIx items.size items.size hi=items.size))
  (h:Q (.ref s.heap.objs.size) { s with heap:=s.heap.push { cls:=.type "tuple",data:=.seq ((items.toList.drop (sIx items.size 0 lo)).take (sIx items.size items.size hi-sIx items.size 0 lo)).toArray } })
  (hsz:items.size<=sizeLine):wpAny (model prog w) A (getItem (.ref t) (.ref sl)) Q E s:=by
 have htake:sizeOk (.seq ((items.toList.drop (sIx items.size 0 lo)).take (sIx items.size items.size hi-sIx items.size 0 lo)).toArray):=by
  show ((items.toList.drop (sIx items.size 0 lo)).take (sIx items.size items.size hi-sIx items.size 0 lo)).toArray.size<=sizeLine
  rw [size_toArray,length_take,length_drop,Array.length_toList];omega
 have hj:sIx items.size items.size hi<=items.size:=AZ _ _ (Nat.le_refl _) hi
 obtain ⟨os,hos,hcs,hds⟩:=id hs;have hTs:s.TypeIs (.ref sl) "slice":=⟨os,hos,hcs⟩
 unfold getItem;try with_reducible refine wpAny_holding ?_
 first | refine wpAny_bind (wpAny_pure ?_) | skip
 refine wpAny_bind (wpAny_sequenceKey ht.typeIs (by decide) ?_)
 refine wpAny_bind (wpAny_callSpecial?_slot (name:=Str.ofString "__getitem__") ht.typeIs PyProof.Rows.slot_tuple_getitem
  (wpAny_call_entry PyProof.Rows.slot_tuple_getitem ht.typeIs entry_tuple_getitem ?_ (args_tuple_getitem _ _)))
 show wpAny _ _ (Builtin.Tuple.tupleItemsOf (.ref t) >>= _) _ _ s
 refine wpAny_bind (tupleItemsOf_ ht ?_)
 refine wpAny_bind (wpAny_typeOf hTs ?_)
 rw [if_pos (by decide)]
 refine wpAny_bind (gT hs pl pu ?_)
 have hno:¬((((sIx items.size 0 lo:Nat):Int)==0&&(1:Int)==1&&(sIx items.size items.size hi-sIx items.size 0 lo)==items.size)=true):=by
  intro q;rw [Bool.and_eq_true,Bool.and_eq_true] at q;have q1:((sIx items.size 0 lo:Nat):Int)=0:=eq_of_beq q.1.1
  have q2:sIx items.size items.size hi-sIx items.size 0 lo=items.size:=eq_of_beq q.2
  exact hw ⟨by omega,by omega⟩
 show wpAny _ _ (if (((sIx items.size 0 lo:Nat):Int)==0&&(1:Int)==1&&(sIx items.size items.size hi-sIx items.size 0 lo)==items.size)=true then _ else _) _ _ s
 rw [if_neg hno,uK];first
  | exact wpAny_bind (m:=Builtin.Tuple.tupleExact _) (wpAny_newObj_type (wpAny_pure ⟨_,rfl,wpAny_pure h⟩) htake)
  | exact wpAny_bind (m:=Builtin.Tuple.tupleExact _) (wpAny_newObj_type (wpAny_bind (wpAny_pure (wpAny_pure ⟨_,rfl,wpAny_pure h⟩))) htake)
  | exact wpAny_bind (wpAny_bind (m:=Builtin.Tuple.tupleExact _) (wpAny_newObj_type (wpAny_pure (wpAny_pure ⟨_,rfl,wpAny_pure h⟩)) htake))
  | exact wpAny_bind (wpAny_bind (m:=Builtin.Tuple.tupleExact _) (wpAny_newObj_type (wpAny_pure ⟨_,rfl,wpAny_pure h⟩) htake))
end
end HT
namespace L2
open PySem PySem.Spec PyProof.Rows
abbrev TO:=St->Hp->(Option Int->Hp->Prop)->Prop
noncomputable def PO (X:Cx) (e:Option Expr) (t:TO):Prop:=
 ∀(pins:List (Addr×Obj)) (s:Shared) (σ:St) (H:Hp) (Q:Option Int->Hp->Prop),Inv X pins σ H s->t σ H Q ->
  wpAny (model X.prog X.w) X.A (evalPart e X.env) (fun u s'=>∃o H',Inv X pins σ H' s'/\IsPart u o/\Q o H') X.xe s
noncomputable def pf:TO:=fun _ H Q=>Q none H
noncomputable def zw (t:TE):TO:=fun σ H Q=>t σ H fun x H1=>∃i,x=.int i/\Q (some i) H1
section
variable {X:Cx} {e:Expr} {te:TE} {lo hi:Option Expr} {tl th:TO} {pos p2:Pos}
theorem xM:PO X none pf:=by
 intro pins s σ H Q I h;rw [evalPart_none];exact wpAny_pure ⟨none,H,I,.none,h⟩
theorem xK (h:PE X e te):PO X (some e) (zw te):=by
 intro pins s σ H Q I hw;rw [evalPart_some];refine bF (h pins s σ H _ I hw) fun u s1 ⟨x,H1,I1,r1,q1⟩=>?_
 obtain ⟨i,rfl,q⟩:=q1;obtain ⟨t,rfl⟩:=r1;exact ⟨some i,H1,I1,.int i t,q⟩
noncomputable def LO (X:Cx) (r:V->Option Int->Option Int->Hp->VK->Prop):Prop:=
 ∀(pins:List (Addr×Obj)) (s:Shared) (σ:St) (H:Hp) (x:V) (v vl vu:Value) (lo hi:Option Int) (sl:Addr) (Q:VK),Inv X pins σ H s->RelV x v->s.heap.IsSliceOf sl vl vu .none->IsPart vl lo->IsPart vu hi->r x lo hi H Q ->
  ∃T id,typeLookup (.type T) "__getitem__"=pure (some (.builtin id))/\s.TypeIs v T/\wpAny (model X.prog X.w) X.A (getItem v (.ref sl)) (EP X pins σ Q) X.xe s
noncomputable def KR (r:V->Option Int->Option Int->Hp->VK->Prop) (te:TE) (tl th:TO):TE:=fun σ H Q=>te σ H fun x H1=>tl σ H1 fun l H2=>th σ H2 fun u H3=>r x l u H3 Q
theorem uO {r:V->Option Int->Option Int->Hp->VK->Prop} (hr:LO X r) (he:PE X e te) (hl:PO X lo tl) (hu:PO X hi th):PE X (.Subscript e (.Slice lo hi none p2) pos) (KR r te tl th):=by
 intro pins s σ H Q I h;refine Subscript_ (bF (he pins s σ H _ I h) fun v s1 ⟨x,H1,I1,r1,q1⟩=>?_)
 refine wpAny_Slice (bF (hl pins s1 σ H1 _ I1 q1) fun vl s2 ⟨l,H2,I2,pl,q2⟩=>bF (hu pins s2 σ H2 _ I2 q2) fun vu s3 ⟨u,H3,I3,pu,q3⟩=>?_)
 rw [evalPart_none];refine wpAny_pure ?_
 have I4:Inv X pins σ H3 { s3 with heap:=s3.heap.push { cls:=.type "slice",data:=.fields #[vl,vu,.none] } }:=I3.kept (t':=s3.toks) fun b ob q=>Heap.get?_push_of_some _ q
 obtain ⟨T,id,hT,ht,hg⟩:=hr pins { s3 with heap:=s3.heap.push { cls:=.type "slice",data:=.fields #[vl,vu,.none] } } σ H3 x v vl vu l u s3.heap.objs.size Q I4 r1 (Heap.IsSliceOf.new ..) pl pu q3
 show wpAny (model X.prog X.w) X.A (subscriptTail e (.Slice lo hi none p2) v (.ref s3.heap.objs.size)) (EP X pins σ Q) X.xe { s3 with heap:=s3.heap.push { cls:=.type "slice",data:=.fields #[vl,vu,.none] } }
 exact tail_any (ops:=[.ref s3.heap.objs.size,v]) ht hT hg (by with_unfolding_all rfl)
noncomputable def r9 (xs:List V) (lo hi:Option Int):List V:=(xs.drop (HT.sIx xs.length 0 lo)).take (HT.sIx xs.length xs.length hi-HT.sIx xs.length 0 lo)
theorem nq (xs:List V) (lo hi:Option Int):(r9 xs lo hi).length<=xs.length:=by
 unfold r9;rw [length_take,length_drop];omega
noncomputable def Bs (K:Fg):V->Option Int->Option Int->Hp->VK->Prop:=fun x lo hi H Q=>∃a xs,x=.ref a/\SqT K H a xs /\
 ¬(HT.sIx xs.length 0 lo=0/\HT.sIx xs.length xs.length hi=xs.length)/\∀p,H p=none->Q (.ref p) (bU H p (.tup (r9 xs lo hi)))
theorem AV:LO X (Bs X.K):=by
 intro pins s σ H x v vl vu lo hi sl Q I rx hs pl pu h;obtain ⟨a,xs,rfl,hx,hw,q⟩:=h
 cases rx;obtain ⟨its,r,ht,hz⟩:=I.tuple hx;have hlen:its.toArray.size=xs.length:=by rw [size_toArray];exact r.length.symm
 refine ⟨"tuple",_,PyProof.Rows.slot_tuple_getitem.lookup,ht.typeIs,?_⟩
 refine HT.getItem_tuple_cut ht hs pl pu (by rw [hlen];exact hw) ?_ (by rw [hlen];exact hz)
 rw [hlen];refine ⟨.ref s.heap.objs.size,_,I.laid (t':=s.toks) (o:=.tup (r9 xs lo hi)) (fun b ob q=>Heap.get?_push_of_some _ q) (Nat.le_refl _) ?_,rfl,q _ (I.hok.fresh (Nat.le_refl _))⟩
 exact ⟨Nat.le_trans (nq xs lo hi) hz,_,(r.drop (HT.sIx xs.length 0 lo)).take (HT.sIx xs.length xs.length hi-HT.sIx xs.length 0 lo),IsTup.new _ _⟩
noncomputable def uA (K:Fg):R2:=fun x y H Q=>∃a b xs ys,x=.ref a/\y=.ref b/\SqT K H a xs/\SqT K H b ys/\xs≠[]/\xs.length+ys.length<=sizeLine /\
 (ys=[]->Q (.ref a) H)/\(ys≠[]->∀p,H p=none->Q (.ref p) (bU H p (.tup (xs++ys))))
theorem Vals.nil_iff {xs:List V} {us:List Value} (r:Vals xs us):us=[]↔xs=[]:=by
 cases r with
 | nil=>simp
 | cons _ _=>simp
theorem xY:OpR X (binaryOp .Add) (uA X.K):=by
 intro pins s σ H x y v u Q I rx ry h;obtain ⟨a,b,xs,ys,rfl,rfl,ha,hb,hx,hz,q1,q2⟩:=h
 cases rx
 cases ry;obtain ⟨its,r1,p1,_⟩:=I.tuple ha;obtain ⟨its2,r2,p2,_⟩:=I.tuple hb;refine HT.cat_tup p1 p2 (fun z=>hx (r1.nil_iff.mp z)) (fun z=>⟨.ref a,H,I,rfl,q1 (r2.nil_iff.mp z)⟩) (fun z=>?_) (by rw [<-r1.length,<-r2.length];exact hz)
 refine ⟨.ref s.heap.objs.size,_,I.laid (t':=s.toks) (o:=.tup (xs++ys)) (fun b ob q=>Heap.get?_push_of_some _ q) (Nat.le_refl _) ?_,rfl,q2 (fun w=>z (r2.nil_iff.mpr w)) _ (I.hok.fresh (Nat.le_refl _))⟩
 exact ⟨by rw [length_append];exact hz,_,r1.append r2,IsTup.new _ _⟩
end
noncomputable def gH (n:Nat) (i:Int):Option Nat:=if 0<=i then (if i<n then some i.toNat else none) else if -(n:Int)<=i then some (i+n).toNat else none
noncomputable def fY {α:Type} (xs:List α) (i:Int):Option α:=(gH xs.length i).bind fun j=>xs[j]?
theorem yg {n:Nat} {i:Int} {j:Nat} (h:gH n i=some j):seqIndex? i n=some j/\j<n/\-(n:Int)<=i/\i<n:=by
 unfold gH at h;by_cases h0:0<=i
 ·rw [if_pos h0] at h
  by_cases h1:i<n
  ·rw [if_pos h1] at h
   have e:i.toNat=j:=Option.some.inj h
   exact ⟨by rw [seqIndex_of h0 h1,e],by omega,by omega,h1⟩
  ·rw [if_neg h1] at h;cases h
 ·rw [if_neg h0] at h
  by_cases h1:-(n:Int)<=i
  ·rw [if_pos h1] at h
   have e:(i+n).toNat=j:=Option.some.inj h
   exact ⟨by rw [seqIndex_neg (by omega) h1,e],by omega,h1,by omega⟩
  ·rw [if_neg h1] at h;cases h
theorem IM {α:Type} {xs:List α} {i:Int} {v:α} (h:fY xs i=some v):∃j,seqIndex? i xs.length=some j/\xs[j]?=some v/\j<xs.length/\-(xs.length:Int)<=i/\i<xs.length:=by
 unfold fY at h
 cases e:gH xs.length i with
 | none=>rw [e] at h;cases h
 | some j=>
  rw [e] at h;obtain ⟨h1,h2,h3,h4⟩:=yg e;exact ⟨j,h1,h,h2,h3,h4⟩
noncomputable def iW (b:Expr):Prop:=∀o i,subscripted b false o i=operate [o,i] (getItem o i)
noncomputable def IxR (X:Cx) (r:R2):Prop:=
 ∀(value slice:Expr) (pins:List (Addr×Obj)) (s:Shared) (σ:St) (H:Hp) (x y:V) (v u:Value) (Q:VK),Inv X pins σ H s->RelV x v->RelV y u->r x y H Q ->
  subscripted slice false v u=operate [v,u] (getItem v u)->wpAny (model X.prog X.w) X.A (subscriptTail value slice v u) (EP X pins σ Q) X.xe s
noncomputable def Mp (X:Cx) (id:String) (r:V->List V->Hp->VK->Prop):Prop:=
 ∀(pins:List (Addr×Obj)) (s:Shared) (σ:St) (H:Hp) (x:V) (xs:List V) (v:Value) (us:List Value) (Q:VK),Inv X pins σ H s->RelV x v->Vals xs us->r x xs H Q ->
  wpAny (model X.prog X.w) X.A (call (.builtin id) (v::us)) (EP X pins σ Q) X.xe s
section
variable {X:Cx} {a b:Expr} {ta tb:TE} {pos:Pos}
theorem IxR.or {r r':R2} (h:IxR X r) (h':IxR X r'):IxR X (fun x y H Q=>r x y H Q\/r' x y H Q):=by
 intro value slice pins s σ H x y v u Q I rx ry q hs;rcases q with q | q
 ·exact h value slice pins s σ H x y v u Q I rx ry q hs
 ·exact h' value slice pins s σ H x y v u Q I rx ry q hs
theorem Fo {r:R2} (hr:IxR X r) (ha:PE X a ta) (hb:PE X b tb) (hs:iW b):PE X (.Subscript a b pos) (xg r ta tb):=by
 intro pins s σ H Q I h;exact Subscript_ (C9 ha hb I h fun v u s2 x y H2 I2 rx ry q=>hr a b pins s2 σ H2 x y v u Q I2 rx ry q (hs _ _))
noncomputable def Fb (K:Fg):R2:=fun x y H Q=>∃p xs i v,x=.ref p/\y=.int i/\SqL K H p xs/\fY xs i=some v/\Q v H
noncomputable def E8 (K:Fg):R2:=fun x y H Q=>∃p xs i v,x=.ref p/\y=.int i/\SqT K H p xs/\fY xs i=some v/\Q v H
noncomputable def E9:R2:=fun x y H Q=>∃z i c,x=.str z/\y=.int i/\z.length<=sizeLine/\fY z.cps.toList i=some c/\Q (.str ⟨#[c]⟩) H
theorem ix_list:IxR X (Fb X.K):=by
 intro value slice pins s σ H x y v u Q I rx ry h hs;obtain ⟨p,xs,i,z,rfl,rfl,hq,he,q⟩:=h
 cases rx;obtain ⟨t,rfl⟩:=ry;obtain ⟨its,r,pl,hz⟩:=I.list hq;obtain ⟨j,h1,h2,h3,h4,h5⟩:=IM he;obtain ⟨w,ew,rw'⟩:=r.get h2;have hl:=r.length
 have hn:=Dr
 have fin:EP X pins σ Q w s:=⟨z,H,I,rw',q⟩
 by_cases h0:0<=i
 ·have hj:i.toNat=j:=by
   rw [seqIndex_of h0 h5] at h1;exact Option.some.inj h1
  exact item_listR pl.isList h0 (by omega) (by rw [hj];simpa using ew) fin hs
 ·have hj:(i+(its.toArray.size:Int)).toNat=j:=by
   rw [seqIndex_neg (by omega) h4] at h1
   rw [size_toArray,<-hl];exact Option.some.inj h1
  exact subscriptTail_builtinR (x:=w) pl.isList.typeIs slot_list_getitem.lookup
   (wpAny_getItem_list_neg (Q:=fun r s'=>r=w/\EP X pins σ Q r s') pl.isList (by omega) (by rw [size_toArray]<;>omega) (by omega) (by rw [hj];simpa using ew) ⟨rfl,fin⟩) hs
theorem ix_tup:IxR X (E8 X.K):=by
 intro value slice pins s σ H x y v u Q I rx ry h hs;obtain ⟨p,xs,i,z,rfl,rfl,hq,he,q⟩:=h
 cases rx;obtain ⟨t,rfl⟩:=ry;obtain ⟨its,r,pl,hz⟩:=I.tuple hq;obtain ⟨j,h1,h2,h3,h4,h5⟩:=IM he;obtain ⟨w,ew,rw'⟩:=r.get h2;have hl:=r.length
 have hn:=Dr
 have fin:EP X pins σ Q w s:=⟨z,H,I,rw',q⟩
 exact subscriptTail_builtinR (x:=w) pl.typeIs slot_tuple_getitem.lookup
  (getItem_tuple (j:=j) (Q:=fun r s'=>r=w/\EP X pins σ Q r s') pl (by omega) (by omega) (by rw [size_toArray,<-hl];exact h1) (by simpa using ew) ⟨rfl,fin⟩) hs
theorem Cs:IxR X E9:=by
 intro value slice pins s σ H x y v u Q I rx ry h hs;obtain ⟨z,i,c,rfl,rfl,hz,he,q⟩:=h;obtain ⟨t,rfl⟩:=rx;obtain ⟨t',rfl⟩:=ry;obtain ⟨j,h1,h2,h3,h4,h5⟩:=IM he;have hl:z.cps.toList.length=z.length:=by simp [Str.length]
 rw [hl] at h1 h4 h5
 have hn:=Dr
 exact tail_any (typeIs_str s z t) slot_str_getitem.lookup (getItem_str (c:=c) (by
  have e1:decide (i < -(2 ^ 63:Int))=false:=decide_eq_false (by omega)
  have e2:decide (i≥2 ^ 63)=false:=decide_eq_false (by omega)
  rw [e1,e2,Bool.or_false]) (by rw [h1];simpa using h2) ⟨.str ⟨#[c]⟩,H,I.tok _,⟨_,rfl⟩,q⟩) hs
noncomputable def Ln (K:Fg):R2:=fun x y H Q=>Fb K x y H Q\/E8 K x y H Q\/E9 x y H Q
theorem Ct:IxR X (Ln X.K):=ix_list.or (ix_tup.or Cs)
theorem call_len_seq:CallR X (.builtin "len") (fun xs H Q=>∃p ys,xs=[.ref p]/\(SqL X.K H p ys\/SqT X.K H p ys)/\Q (.int ys.length) H):=by
 intro pins s σ H xs us Q I r h;obtain ⟨p,ys,rfl,hq,q⟩:=h;obtain ⟨u,rfl,rx⟩:=vals1 r
 cases rx;have hn:=Dr
 rcases hq with hq | hq
 ·obtain ⟨its,r',pl,hz⟩:=I.list hq
  have hlen:=r'.length
  exact Calls.call_len_list pl.isList (by simp only [size_toArray]<;>omega) ⟨.int ys.length,H,I.tok _,⟨s.toks+1,by rw [size_toArray,hlen]⟩,q⟩
 ·obtain ⟨its,r',pl,hz⟩:=I.tuple hq
  have hlen:=r'.length
  exact len_tuple pl (by simp only [size_toArray]<;>omega) ⟨.int ys.length,H,I.tok _,⟨s.toks+1,by rw [size_toArray,hlen]⟩,q⟩
theorem lr:CallR X (.builtin "len") (fun xs H Q=>∃z,xs=[.str z]/\z.length<=sizeLine/\Q (.int z.length) H):=by
 intro pins s σ H xs us Q I r h;obtain ⟨z,rfl,hz,q⟩:=h;obtain ⟨u,rfl,t,rfl⟩:=vals1 r;have hn:=Dr
 exact len_str (by omega) ⟨.int z.length,H,I.tok _,⟨_,rfl⟩,q⟩
theorem CallR.or {f:Value} {r r':List V->Hp->VK->Prop} (h:CallR X f r) (h':CallR X f r'):CallR X f (fun xs H Q=>r xs H Q\/r' xs H Q):=by
 intro pins s σ H xs us Q I rs q;rcases q with q | q
 ·exact h pins s σ H xs us Q I rs q
 ·exact h' pins s σ H xs us Q I rs q
theorem lq:CallR X (.type "list") (fun xs H Q=>∃p ys,xs=[.ref p]/\(SqL X.K H p ys\/SqT X.K H p ys)/\∀l,H l=none->Q (.ref l) (bU H l (.lst ys))):=by
 intro pins s σ H xs us Q I r h;obtain ⟨p,ys,rfl,hq,q⟩:=h;obtain ⟨u,rfl,rx⟩:=vals1 r
 cases rx;have fin:∀(its:List Value),Vals ys its->ys.length<=sizeLine->∀(h':Heap) (c':Nat),(∀b o',s.heap.get? b=some o'->h'.get? b=some o') ->
   h'.get? s.heap.objs.size=some { cls:=.type "list",dict:=none,data:=.seq its.toArray c',slots:=#[] }->EP X pins σ Q (.ref s.heap.objs.size) { s with heap:=h' }:=fun its r' hz h' c' kp e=>
  ⟨.ref s.heap.objs.size,_,I.laid (t':=s.toks) kp (Nat.le_refl _) (show ObjOk X.prog X.w _ h' _ (.lst ys) from ⟨hz,its,c',r',e⟩),rfl,q _ (I.hok.fresh (Nat.le_refl _))⟩
 rcases hq with hq | hq
 ·obtain ⟨its,r',pl,hz⟩:=I.list hq
  have hlen:=r'.length
  obtain ⟨o,ho,hc,n,hd⟩:=pl.isList;exact call_list_seq p (.inl rfl) ho hc hd (fun h' c' kp e=>fin its r' hz h' c' kp e) (by simp only [size_toArray]<;>omega)
 ·obtain ⟨its,r',pl,hz⟩:=I.tuple hq
  have hlen:=r'.length
  obtain ⟨o,ho,hc,n,hd⟩:=pl;exact call_list_seq p (.inr rfl) ho hc hd (fun h' c' kp e=>fin its r' hz h' c' kp e) (by simp only [size_toArray]<;>omega)
theorem j0:CallR X (.type "tuple") (fun xs H Q=>∃p ys,xs=[.ref p]/\((SqL X.K H p ys/\∀l,H l=none->Q (.ref l) (bU H l (.tup ys)))\/(SqT X.K H p ys/\Q (.ref p) H))):=by
 intro pins s σ H xs us Q I r h;obtain ⟨p,ys,rfl,h⟩:=h;obtain ⟨u,rfl,rx⟩:=vals1 r
 cases rx;rcases h with ⟨hq,q⟩ | ⟨hq,q⟩
 ·obtain ⟨its,r',pl,hz⟩:=I.list hq
  have hlen:=r'.length
  refine call_tuple_list pl.isList (fun h' kp=>?_) (by simp only [size_toArray]<;>omega)
  have I1:Inv X pins σ H { s with heap:=h' }:=I.kept (t':=s.toks) kp
  have I2:Inv X pins σ (bU H h'.objs.size (.tup ys)) { s with heap:=h'.push { cls:=.type "tuple",data:=.seq its.toArray } }:=
   I1.laid (t':=s.toks) (fun b o e=>Heap.get?_push_of_some _ e) (Nat.le_refl _) (show ObjOk X.prog X.w _ _ _ (.tup ys) from ⟨hz,its,r',IsTup.new _ _⟩)
  exact ⟨.ref h'.objs.size,_,I2,rfl,q _ (I1.hok.fresh (Nat.le_refl _))⟩
 ·obtain ⟨its,r',pl,hz⟩:=I.tuple hq
  exact call_tuple_same pl ⟨.ref p,H,I,rfl,q⟩
noncomputable def KO (K:Fg) (T:String) (x:V) (H:Hp):Prop:=match x with
 | .str _=>T = "str"
 | .int _=>T = "int"
 | .ref p=>(T = "list"/\∃xs,SqL K H p xs)\/(T = "tuple"/\∃o,K.lookup p=some o/\o.cls=.type "tuple"/\o.dict=none) \/
   (T = "dict"/\((∃kvs,H p=some (.dK kvs))\/∃kvs,H p=some (.dT kvs)))\/(T = "set"/\∃S n,H p=some (.set S n))
 | _=>False
theorem AK {pins:List (Addr×Obj)} {σ:St} {H:Hp} {s:Shared} {T:String} {x:V} {v:Value} (I:Inv X pins σ H s) (r:RelV x v) (ty:KO X.K T x H) :
  s.TypeIs v T/\∀a,v=.ref a->∃ob,s.heap.get? a=some ob/\ob.dict=none:=by
 cases x with
 | str z=>
  obtain ⟨t,rfl⟩:=r
  cases (show T = "str" from ty)
  exact ⟨typeIs_str s z t,fun _ e=>nomatch e⟩
 | int i=>
  obtain ⟨t,rfl⟩:=r
  cases (show T = "int" from ty)
  exact ⟨typeIs_int s i t,fun _ e=>nomatch e⟩
 | ref p=>
  cases r;rcases ty with ⟨rfl,xs,hq⟩ | ⟨rfl,o,hk,hc,hd⟩ | ⟨rfl,hk⟩ | ⟨rfl,S,n,hk⟩
  ·obtain ⟨its,_,pl,_⟩:=I.list hq
   refine ⟨pl.isList.typeIs,fun a e=>?_⟩
   cases e;obtain ⟨o,n,e,c,hd,_⟩:=pl;exact ⟨o,e,hd⟩
  ·refine ⟨⟨o,I.kIn p o hk,hc⟩,fun a e=>?_⟩
   cases e;exact ⟨o,I.kIn _ o hk,hd⟩
  ·have z:∃o,s.heap.get? p=some o/\o.ExactDict:=by
    rcases hk with ⟨kvs,hk⟩ | ⟨kvs,hk⟩
    ·obtain ⟨_,_,_,_,o,_,_,e,ex,_⟩:=I.hok p _ hk
     exact ⟨o,e,ex⟩
    ·obtain ⟨_,_,_,_,o,_,_,e,ex,_⟩:=I.hok p _ hk
     exact ⟨o,e,ex⟩
   obtain ⟨o,e,ex⟩:=z;refine ⟨⟨o,e,ex.1⟩,fun a e2=>?_⟩
   cases e2;exact ⟨o,e,ex.2.1⟩
  ·obtain ⟨o,_,_,_,e,ex,_⟩:=I.hok p _ hk
   refine ⟨⟨o,e,ex.1⟩,fun a e2=>?_⟩
   cases e2;exact ⟨o,e,ex.2.1⟩
 | _=>exact False.elim ty
noncomputable def JG (K:Fg) (T:String) (r:V->List V->Hp->VK->Prop) (to:TE) (t:TA):TE:=fun σ H Q=>to σ H fun x H1=>KO K T x H1/\t σ H1 fun xs H2=>r x xs H2 Q
variable {o e:Expr} {es:List Expr} {to:TE} {t:TA} {name:Str} {apos cpos:Pos} {T id:String} {r:V->List V->Hp->VK->Prop}
theorem zL (pa:PlainAttrs T) (slot:Slot T name id) (hty:typeOf (.builtin id)=pure (.type "method_descriptor")) (hm:Mp X id r) (ho:PE X o to) (ha:PA X (e::es) t)
  (hbase:attributeBase o name X.env (eval o X.env)=eval o X.env:=by rfl)
  (hfew:((backTo cpos (starEach (e::es) X.env)).all (fun x=>!x.1)&&(backToKw cpos (keywordEach [] X.env)).all (fun x=>x.1.isSome)
   && decide ((e::es).length+([]:List Keyword).length+(if ([]:List Keyword).isEmpty then 0 else 1)<30))=true:=by rfl)
  (hline:(apos.endLine==cpos.line)=true:=by rfl) (hs:starEach (e::es) X.env=(false,eval e X.env)::starEach es X.env:=by rfl) (hplain:(backTo cpos (starEach es X.env)).any (·.1)=false:=by rfl) :
  PE X (.Call (.Attribute o name apos) (e::es) [] cpos) (JG X.K T r to t):=by
 intro pins s σ H Q I h;refine wpAny_Call_method_late hbase hfew hline rfl (bF (ho pins s σ H _ I h) fun v s1 ⟨x,H1,I1,r1,ty,q1⟩=>?_)
 obtain ⟨h1,h2⟩:=AK I1 r1 ty;refine ⟨T,id,pa,slot,hty,h1,h2,?_⟩
 have hA:=ha cpos pins s1 σ H1 _ I1 q1
 rw [hs] at hA ⊢;refine Calls.callWith_builtin (by show (false||(backTo cpos (starEach es X.env)).any (·.1))=false;rw [hplain]<;>rfl) (Calls.evalArgs_plain ?_)
 exact bF hA fun us s2 ⟨vs,H2,I2,r2,q2⟩=>hm pins s2 σ H2 x vs v us Q I2 r1 r2 q2
end
noncomputable def LU (X:Cx) (id:String) (r:V->List V->Hp->VK->Prop):Prop:=
 ∀(pins:List (Addr×Obj)) (s:Shared) (σ:St) (H:Hp) (x:V) (xs:List V) (v:Value) (us:List Value) (Q:VK),Inv X pins σ H s->RelV x v->Vals xs us->r x xs H Q ->
  wpAny (model X.prog X.w) X.A (call (.builtin id) (v::us)) (EP X pins σ Q) X.xe s
theorem Vals.one:∀{x:V} {us:List Value},Vals [x] us->∃u,us=[u]/\RelV x u
 | _,_,.cons r .nil=>⟨_,rfl,r⟩
theorem Vals.rep {xs:List V} {us:List Value} (h:Vals xs us):∀k:Nat,Vals (List.replicate k xs).flatten (List.replicate k us).flatten
 | 0=>.nil
 | k+1=>by
  rw [replicate_succ,replicate_succ,flatten_cons,flatten_cons];exact Vals.append h (Vals.rep h k)
theorem foldl_rep (its:List Value):∀(k:Nat) (acc:List Value),
  List.foldl (fun x1 x2=>x1++x2) acc.toArray (List.replicate k its.toArray)=(acc++(List.replicate k its).flatten).toArray
 | 0,acc=>by simp
 | k+1,acc=>by
  have e:acc.toArray++its.toArray=(acc++its).toArray:=by simp
  have e2:(acc++its)++(List.replicate k its).flatten=acc++(List.replicate (k+1) its).flatten:=by
   rw [replicate_succ,flatten_cons,append_assoc]
  rw [<-e2,<-foldl_rep its k (acc++its),<-e,replicate_succ,List.foldl_cons]
section
variable {X:Cx} {pins:List (Addr×Obj)} {σ:St} {H:Hp} {s:Shared} {l b:Addr} {xs ys zs:List V}
theorem Inv.lset {its its':List Value} {n:Nat} {f:Array Value->Array Value} {t':Nat} (I:Inv X pins σ H s) (hH:H l=some (.lst xs))
  (e:s.heap.get? l=some { cls:=.type "list",data:=.seq its.toArray n }) (hf:f its.toArray=its'.toArray) (hv:Vals ys its') (hz:ys.length<=sizeLine) :
  Inv X pins σ (bU H l (.lst ys)) { s with heap:=s.heap.update l (Obj.mapSeq f),toks:=t' }:=by
 have q:=PySem.IsL.update e f
 rw [hf] at q;refine I.write (x:=l) (e:=l) (by rw [hH];exact trivial) (.inl rfl) (fun b' u hb hu=>(Heap.get?_update_other s.heap (Obj.mapSeq f) (Ne.symm hb)).trans hu) ⟨_,q⟩ ?_
 exact ⟨hz,its',_,hv,q⟩
theorem Inv.lnew {its:List Value} {t':Nat} (I:Inv X pins σ H s) (hv:Vals ys its) (hz:ys.length<=sizeLine) :
  Inv X pins σ (bU H s.heap.objs.size (.lst ys)) { s with heap:=s.heap.push { cls:=.type "list",data:=.seq its.toArray },toks:=t' }:=
 I.laid (fun _ _ q=>Heap.get?_push_of_some _ q) (Nat.le_refl _) ⟨hz,its,0,hv,Heap.get?_push_size _ rfl⟩
theorem Inv.fresh (I:Inv X pins σ H s):H s.heap.objs.size=none:=I.hok.fresh (Nat.le_refl _)
theorem Inv.lstM (I:Inv X pins σ H s) (hH:H l=some (.lst xs)):xs.length<=sizeLine/\∃(its:List Value) (n:Nat),Vals xs its/\xs.length=its.length/\s.heap.get? l=some { cls:=.type "list",data:=.seq its.toArray n }:=by
 obtain ⟨z,its,n,r,e⟩:=I.hok l _ hH;exact ⟨z,its,n,r,r.length,e⟩
theorem mE {n:Nat} (h:n<=sizeLine):Builtin.List.listTooLong n=false:=by
 unfold Builtin.List.listTooLong;exact decide_eq_false (by omega)
end
section
variable {X:Cx}
noncomputable def pH:V->List V->Hp->VK->Prop:=fun x vs H Q=>∃l xs y,x=.ref l/\vs=[y]/\H l=some (.lst xs)/\xs.length<sizeLine/\Q .non (bU H l (.lst (xs++[y])))
theorem IX:LU X "list.append" pH:=by
 intro pins s σ H x vs v us Q I rx rv h;obtain ⟨l,xs,y,rfl,rfl,hH,hz,q⟩:=h
 cases rx;obtain ⟨u,rfl,ru⟩:=rv.one;obtain ⟨z,its,n,r,hl,e⟩:=I.lstM hH;refine call_meets F.slot_list_append ⟨_,e,rfl⟩ F.entry_list_append (F.args_list_append_2 _ _) (PySem.list_append l its.toArray n u (by rw [size_toArray];omega)) ⟨e,?_⟩
 refine ⟨.non,_,I.lset (its':=its++[u]) hH e (by simp) (r.append (.cons ru .nil)) ?_,rfl,q⟩
 rw [length_append,length_singleton];omega
noncomputable def Bt:R2:=fun x y H Q=>∃l k xs,x=.ref l/\y=.int k/\H l=some (.lst xs)/\-(2 ^ 63)<=k/\k<2 ^ 63/\xs.length*k.toNat<=sizeLine /\
 ∀p,H p=none->Q (.ref p) (bU H p (.lst (List.replicate k.toNat xs).flatten))
theorem IS {α:Type} (xs:List α) (k:Nat):(List.replicate k xs).flatten.length=k*xs.length:=by
 induction k with
 | zero=>simp
 | succ k ih=>rw [replicate_succ,flatten_cons,length_append,ih,Nat.succ_mul,Nat.add_comm]
theorem BX:OpR X (binaryOp .Mult) Bt:=by
 intro pins s σ H x y v u Q I rx ry h;obtain ⟨l,k,xs,rfl,rfl,hH,h1,h2,hz,q⟩:=h
 cases rx;obtain ⟨t,rfl⟩:=ry;obtain ⟨z,its,n,r,hl,e⟩:=I.lstM hH;have hlen:its.toArray.size*k.toNat<=sizeLine:=by rw [size_toArray,<-hl];exact hz
 have hcap:¬its.toArray.size*k.toNat>(2 ^ 63-1) / 8:=by
  have:(sizeLine:Nat)<=(2 ^ 63-1) / 8:=by decide
  omega
 have hfit:¬(!Builtin.List.listFitsIndex k)=true:=by
  rw [fitsIndex_both h1 h2];exact Bool.false_ne_true
 have hlong:¬Builtin.List.listTooLong (its.toArray.size*k.toNat)=true:=by
  rw [mE hlen];exact Bool.false_ne_true
 have hnew:List.foldl (fun x1 x2=>x1++x2) #[] (List.replicate (if its.toArray.isEmpty=true then 0 else k.toNat) its.toArray)=(List.replicate k.toNat its).flatten.toArray:=by
  have f0:∀m:Nat,List.foldl (fun x1 x2=>x1++x2) #[] (List.replicate m its.toArray)=(List.replicate m its).flatten.toArray:=fun m=>by
   have:=foldl_rep its m []
   rw [nil_append] at this;exact this
  rw [f0]
  cases its with
  | nil=>simp
  | cons a r'=>rw [if_neg (by simp)]
 refine wpAny_binaryOp_repeat_ref (T := "list") (U := "int") (by decide) ⟨_,e,rfl⟩ (fun s'=>typeIs_int s' k t) noFill_list_mul F.fills_int_mul F.slot_int_rmul repeat_list F.slot_int_index.lookup
  (call_meets F.slot_int_rmul (typeIs_int s k t) F.entry_int_rmul (F.args_int_rmul_2 _ _) (int___rmul___int_list k t l its.toArray n)
   ⟨e,rfl,⟨_,e,rfl⟩,call_meets F.slot_list_mul ⟨_,e,rfl⟩ F.entry_list_mul (F.args_list_mul_2 _ _) (AutoListH.list___mul___list_int_3 l its.toArray n k t hfit hcap hlong) ⟨e,?_⟩⟩)
 rw [hnew];exact ⟨.ref _,_,I.lnew (t':=s.toks) (r.rep k.toNat) (by rw [IS,Nat.mul_comm];exact hz),rfl,q _ I.fresh⟩
end
section
variable {prog:Program} {w:World} {A:Around} {E:Value->Shared->Prop} {s:Shared}
set_option maxRecDepth 100000 in
end
end L2
namespace Att
open PySem PySem.W PySem.Calls PyProof.Rows
theorem iM {P:Params} {h:Heap}:∀(ns:List Int) (vs:List Value),WellAll P h vs (ns.map WData.int)->IntsAre vs ns:=by
 intro ns;induction ns with
 | nil=>
  intro vs w;rw [map_nil] at w
  cases w;exact .nil
 | cons n ns ih=>
  intro vs w;rw [map_cons] at w
  cases w with
  | cons a b=>
   cases a;exact .cons _ _ (ih _ b)
theorem qK {l:OpenLaw} {n:Nat} (hn:l.most=some n) {P:Params} {h:Heap} {args:List WData} {vals:List Value}
  (hpre:l.row.toRowW.claim.pre args=true) (hwl:WellAll P h vals args) :
  ∃a vs ns,vals=[Value.ref a]/\args=[WData.list (ns.map WData.int)]/\h.get? a=some { cls:=.type "list",data:=.seq vs.toArray }/\IntsAre vs ns/\ns.length<=n:=by
 have hsh:WShape.hasAll [] args [.list .int]=true:=(pre_splitW hpre).1
 have hc:l.pre.holds [] { args:=args }=true:=(pre_splitW hpre).2
 obtain ⟨d,r,rfl,h1,h2⟩:=hasAllW_cons hsh;obtain rfl:=hasAllW_nil h2
 obtain ⟨xs,rfl,h3⟩:=hasW_list h1;obtain ⟨ns,rfl⟩:=items_int h3;have hlen:ns.length<=n:=by
  unfold OpenLaw.pre at hc;have h4:(WTm.not (.lt (.lit (.int (n:Int))) (.len (.arg 0)))).holds [] { args:=[.list (ns.map .int)] }=true:=by
   have h4:=(holds_andW hc).1
   rw [hn] at h4;exact h4
  have h5:=condW_of h4 (w_not (w_lt w_lit (w_len_list (w_arg rfl))))
  rw [length_map] at h5;refine Nat.le_of_not_lt fun q=>?_
  have q':(n:Int)<((ns.length:Nat):Int):=by omega
  first
   | (rw [decide_eq_true q'] at h5;exact absurd h5 (by decide))
   | (simp at h5;omega)
 cases hwl with
 | cons w1 w2=>
  cases w2
  cases w1 with
  | list ho hall=>exact ⟨_,_,ns,rfl,rfl,ho,iM ns _ hall,hlen⟩
theorem qX (l:OpenLaw) (args:List WData):l.row.toRowW.claim.post args (.bool true) args=true:=
 postW_of (r:=l.row.toRowW) (X:=(true==true))
  (show WShape.has [] (.bool true) .bool=true by first | rfl | decide | simp [WShape.has,WShape.arms,WShape.armsAll])
  (show (WTm.eq .res (.lit (.bool true))).value [] { args:=args,res:=some (.bool true),after:=args }=some (.bool (true==true)) from w_eq_bool (w_res rfl) w_lit) rfl
theorem attach_call {l:OpenLaw} {n:Nat} {q:Program} {loose:List Str} {XP:(Str->Option Value)->Heap->Prop} {YP:World->Heap->Prop} {d:DefRec}
  (hn:l.most=some n) (hdf:d.params.defaults=[])
  (call:∀(w:World) (s₀ s₁:Shared) (mg mb:Str->Option Value) (fa:Addr) (o:Obj) (pm cd doc:Value) (a:Addr) (vs:List Value) (ns:List Int),
   Ground q loose [] XP w s₀ mg mb s₁.heap->YP w s₁.heap ->
   s₁.heap.get? fa=some o->o.data=.func (docDef d.name d.params d.body d.scope pm cd doc)->s₁.heap.CodeRec cd d.name->mg d.name=some (.ref fa) ->
   s₁.heap.get? a=some { cls:=.type "list",data:=.seq vs.toArray }->IntsAre vs ns->ns.length<=n->s₁.gens=#[] ->
   codeAny (model l.prog w) callerA (.call (.ref fa) ⟨[.ref a],[]⟩) (fun r s'=>r=.ok (.ret (.bool true))/\OldK s₁.heap s'.heap/\s'.os=s₁.os/\AllBare s'.gens) s₁) :
  WalkO q loose XP YP l.row.toRowW d [] (fun f vs=>PySem.call f vs):=by
 intro w s₀ s₁ mg mb G Y fa o pm cd doc dV kV ho hd hcd hD hmg hg args vals as hpre hlay hrd hwl hlo;obtain rfl:dV=.none:=Dflts.none hD hdf
 obtain rfl:kV=.none:=Dflts.noKw hD
 obtain ⟨a,vs,ns,rfl,rfl,hobj,hints,hlen⟩:=qK hn hpre hwl;refine enter_call (codeAny_mono (call w s₀ s₁ mg mb fa o pm cd doc a vs ns G Y ho (fd_plain hd) hcd hmg hobj hints hlen hg) fun r s' hq=>?_)
 obtain ⟨rfl,h2,h3,h4⟩:=hq;exact ⟨.inl ⟨.bool true,.bool true,[],rfl,fun _=>rfl,.bool true,qX l _,fun _=>⟨List.Pairwise.nil,fun _ hm=>(nomatch hm)⟩⟩,h2,h3,h4⟩
end Att
namespace L2
open PySem PySem.Spec PyProof.Rows
theorem j7:∀{vs:List Value} {ns:List Int},IntsAre vs ns->Vals (ns.map V.int) vs
 | _,_,.nil=>.nil
 | _,_,.cons n t h=>.cons ⟨t,rfl⟩ (j7 h)
noncomputable def Dj (H:Hp):Prop:=∀b,H b=none\/∃o xs,H b=some (.frz o (.lst xs))
theorem vc {P:Program} {w:World} {K:Fg} {mg mb:Str->Option Value} {CX:sC} {k:Nat} {fa a:Addr} {fd:FuncData} {x:Str} {sp:Sp} {s₁:Shared} {vs:List Value} {ns:List Int}
  (KX:K.In s₁.heap) (hns:s₁.heap.Ns mainGlobals mg) (hb:s₁.heap.Ns builtinsNs mb) (hbb:∀x:Str,x ≠ "__name__"->mb x=bootBuiltins x) (hlim:s₁.heap.NoLimit) (hg:s₁.gens=#[])
  (ha:s₁.heap.get? a=some { cls:=.type "list",data:=.seq vs.toArray }) (hi:IntsAre vs ns) (hl:ns.length<=sizeLine) (hr:Room k callerA)
  (F:∀base:Heap,K.In base->base.Ns mainGlobals mg->dk P w K mg base CX k fa fd [x] sp) (hbind:∀(s:Shared) (u:Value),BindsTo s fd ⟨[u],[]⟩ [(x,u)])
  (hsp:∀H:Hp,Dj H->SqL K H a (ns.map V.int)->sp [.ref a] H (fun v _=>v=.bl true) fun _ _ _=>False)
  (hCX:∀H e s',CX [] H s₁ (fun _ _ _=>False) e s'->False) :
  codeAny (model P w) callerA (.call (.ref fa) ⟨[.ref a],[]⟩) (fun r s'=>r=.ok (.ret (.bool true))/\OldK s₁.heap s'.heap/\s'.os=s₁.os/\AllBare s'.gens) s₁:=by
 have rv:=j7 hi
 have lenV:=hi.length
 have core:∀H:Hp,Dj H->SqL K H a (ns.map V.int)->HOk P w H s₁.heap->(∀b,H b≠none->b=a)->(H a≠none->K.lookup a=none) ->
   codeAny (model P w) callerA (.call (.ref fa) ⟨[.ref a],[]⟩) (fun r s'=>r=.ok (.ret (.bool true))/\OldK s₁.heap s'.heap/\s'.os=s₁.os/\AllBare s'.gens) s₁:=by
  intro H hO hS hok hA hK;have base_of:∀{b:Addr} {o:Obj},s₁.heap.get? b=some o->H b=none->(kX s₁.heap H).get? b=some o:=fun e n=>vt e n
  have noA:∀{b:Addr} {o:Obj} {es:Array DictEntry} {ep:Nat},s₁.heap.get? b=some o->o.data=.dict es ep->H b=none:=fun {b o es ep} e d=>by
   cases q:H b with
   | none=>rfl
   | some u=>
    have e':b=a:=hA b (by rw [q];simp)
    subst e'
    rw [ha] at e;cases e;have d':Data.seq vs.toArray _=Data.dict es ep:=d
    cases d'
  have nsK:∀{b:Addr} {m:Str->Option Value},s₁.heap.Ns b m->(kX s₁.heap H).Ns b m:=fun {b m} ⟨o,es,ep,e,d,r⟩=>⟨o,es,ep,base_of e (noA e d),d,r⟩
  have hKb:K.In (kX s₁.heap H):=fun b o e=>base_of (KX b o e) (by
   cases q:H b with
   | none=>rfl
   | some u=>
    have e':b=a:=hA b (by rw [q];simp)
    subst e'
    rw [hK (by rw [q];simp)] at e;cases e)
  have hM:Mod K mg (kX s₁.heap H):=⟨hKb,nsK hns,⟨mb,nsK hb,hbb⟩,let ⟨mc,h1,h2⟩:=hlim;⟨mc,nsK h1,h2⟩⟩
  have e0:oY P w K mg (kX s₁.heap H) callerA [] s₁ H:=⟨rfl,hM,fun b o e=>ya e,Nat.le_of_eq (rH _ _),trivial,fun b hb=>absurd (show b∈([]:List Addr) from hb) (by simp),hok,.of_eq hg⟩
  refine codeAny_mono ((F _ hKb (nsK hns)).run callerA [] s₁ H ⟨[.ref a],[]⟩ [.ref a] [.ref a] _ _ hr e0 (hbind s₁ (.ref a)) (.cons rfl .nil) (hsp H hO hS)) fun r s' h=>?_
  cases r with
  | error e=>exact (hCX H e s' h).elim
  | ok fl=>
   cases fl with
   | next=>exact False.elim h
   | brk=>exact False.elim h
   | cont=>exact False.elim h
   | ret u=>
    obtain ⟨v,H',os,bare,un,hok',r',q⟩:=h;have q':v=.bl true:=q
    subst q'
    obtain rfl:u=Value.bool true:=r'
    refine ⟨rfl,OldK.of_keep fun b o e=>?_,os,bare⟩
    cases q:H b with
    | none=>exact un.keep b o e q (by intro z;exact absurd (show b∈([]:List Addr) from z) (by simp)) (by simp)
    | some u=>
     rcases hO b with z | ⟨ob,xs,z⟩
     ·rw [q] at z;cases z
     ·have z2:=un.frzs b ob _ z
      obtain ⟨e1,_⟩:=hok b _ z;obtain ⟨e2,_⟩:=hok' b _ z2
      rw [e] at e1;cases e1;exact e2
 cases hk:K.lookup a with
 | some o=>
  have e:=KX a o hk
  rw [ha] at e
  cases e;refine core (fun _=>none) (fun _=>.inl rfl) (.inr ⟨_,vs.toArray,_,hk,rfl,rfl,rfl,by rw [size_toArray,lenV];exact hl,by simpa using rv⟩) (fun b u z=>by have z':(none:Option HO)=some u:=z;cases z') (fun b z=>absurd rfl z) fun z=>absurd rfl z
 | none=>
  refine core (fun b=>if b=a then some (.frz { cls:=.type "list",data:=.seq vs.toArray } (.lst (ns.map V.int))) else none) (fun b=>?_) (.inl (.inr ⟨{ cls:=.type "list",data:=.seq vs.toArray },if_pos rfl⟩)) (fun b u z=>?_) (fun b z=>?_) fun _=>hk
  ·by_cases hb:b=a
   ·exact .inr ⟨_,_,if_pos hb⟩
   ·exact .inl (if_neg hb)
  ·by_cases hb:b=a
   ·have z':=(if_pos hb).symm.trans z
    cases z'
    subst hb;exact ⟨ha,by rw [length_map];exact hl,vs,_,rv,ha⟩
   ·have z':=(if_neg hb).symm.trans z
    cases z'
  ·by_cases hb:b=a
   ·exact hb
   ·exact absurd (if_neg hb) z
theorem walk_of {l:PySem.W.OpenLaw} {n k:Nat} {q:Program} {loose:List Str} {XP:(Str->Option Value)->Heap->Prop} {YP:World->Heap->Prop} {d:DefRec} {K:Params->Fg} {CX:World->sC} {sp:World->Sp} {x:Str}
  (hn:l.most=some n) (hn2:n<=sizeLine) (hdf:d.params.defaults=[]) (hr:Room k callerA)
  (hY:∀(w:World) (h:Heap),YP w h->(K w.params).In h)
  (F:∀(w:World) (mg:Str->Option Value) (fa:Addr) (h:Heap),(K w.params).In h->h.Ns mainGlobals mg->mg d.name=some (.ref fa) ->
   ∃fd:FuncData,(∀(s:Shared) (u:Value),BindsTo s fd ⟨[u],[]⟩ [(x,u)]) /\
    ∀base:Heap,(K w.params).In base->base.Ns mainGlobals mg->dk l.prog w (K w.params) mg base (CX w) k fa fd [x] (sp w))
  (hsp:∀(w:World) (H:Hp) (a:Addr) (ns:List Int),ns.length<=n->Dj H->SqL (K w.params) H a (ns.map V.int)->sp w [.ref a] H (fun v _=>v=.bl true) fun _ _ _=>False)
  (hCX:∀(w:World) (H:Hp) (s:Shared) (e:Value) (s':Shared),CX w [] H s (fun _ _ _=>False) e s'->False) :
  PySem.W.WalkO q loose XP YP l.row.toRowW d [] (fun f vs=>PySem.call f vs):=by
 refine Att.attach_call hn hdf fun w s₀ s₁ mg mb fa o pm cd doc a vs ns G Y ho hd hcd hmg hobj hints hlen hg=>?_
 have KX:=hY w _ Y
 obtain ⟨fd,hb,hF⟩:=F w mg fa _ KX G.T.g hmg;exact vc KX G.T.g G.T.b G.T.builtins G.T.nolimit hg hobj hints (Nat.le_trans hlen hn2) hr hF hb (fun H hO hS=>hsp w H a ns hlen hO hS) fun H e s'=>hCX w H s₁ e s'
noncomputable def fu (s:Stmt):Arguments:=match s with
 | .FunctionDef _ a _ _ _ _ _ _ _ _=>a
 | _=>{ posonlyargs:=[],args:=[],vararg:=none,kwonlyargs:=[],kw_defaults:=[],kwarg:=none,defaults:=[] }
noncomputable def bE (s:Stmt):List Stmt:=match s with
 | .FunctionDef _ _ b _ _ _ _ _ _ _=>b
 | _=>[]
noncomputable def aI (s:Stmt):Scope:=match s with
 | .FunctionDef _ _ _ _ _ _ sc _ _ _=>sc
 | _=>{ kind:=.function,names:=[],isGenerator:=false,isCoroutine:=false }
noncomputable abbrev iY:sC:=fun _ _ _ _ _ _=>False
noncomputable abbrev E0:XK:=fun _ _ _=>False
theorem zN {X:Cx}:lx iY X E0:=fun _ _ _ _ _ _ _ h=>h.elim
structure Fun (K:Fg) (x qual:Str) (st:Stmt) (f:Addr) (fd:FuncData):Prop where
 ex:∃(oc:Value) (od:Option Addr) (kV doc pm:Value) (an:Option Addr) (cdv ct:Value) (osl:Array (Option Value)),
  fd=PySem.W.fnOf x qual (fu st) (bE st) (aI st) .none kV doc pm an cdv ct/\K.lookup f=some ⟨oc,od,.func fd,osl⟩/\PySem.W.codeIn K cdv qual=true
 kp:PySem.W.keepIn K (.ref f)=true
section
variable {P:Program} {w:World} {K:Fg} {mg:Str->Option Value} {base:Heap}
theorem Fun.ok {x qual:Str} {st:Stmt} {f:Addr} {fd:FuncData} {N ps:List Str} {k:Nat} {sp:Sp} (F:Fun K x qual st f fd) (S:cK N ps (aI st)) (len:∀vs H Q E,sp vs H Q E->vs.length=ps.length)
  (hbody:∀(cdv:Value) (A:Around) (outer:List Env) (s:Shared) (H:Hp) (vs:List V) (Q:VK) (E:XK),Room k (A.deeper (envOfC qual (aI st) s.heap.objs.size f cdv))->sp vs H Q E ->
   ∃t,PSs (fg iY P w K mg base N qual (aI st) f cdv A outer s H E).nox (bE st) t/\t { nx:=fun _ H'=>Q .non H',rt:=Q } (start N vs) H):dk P w K mg base iY (k+1) f fd ps sp:=by
 obtain ⟨oc,od,kV,doc,pm,an,cdv,ct,osl,rfl,lk,hcd⟩:=F.ex;refine Ac lk hcd S len fun A outer s H vs Q E hr hsp=>?_
 obtain ⟨t,h,q⟩:=hbody cdv A outer s H vs Q E hr hsp;exact ⟨t,h.nox,q⟩
theorem Fun.binds {x qual:Str} {st:Stmt} {f:Addr} {fd:FuncData} {ps:List Str} (F:Fun K x qual st f fd)
  (h:∀(kV doc pm:Value) (an:Option Addr) (cdv ct:Value) (us:List Value),us.length=ps.length->bindArgs (PySem.W.fnOf x qual (fu st) (bE st) (aI st) .none kV doc pm an cdv ct) ⟨us,[]⟩=pure (ps.zip us)):Binds K fd ps []:=by
 obtain ⟨oc,od,kV,doc,pm,an,cdv,ct,osl,rfl,lk,hcd⟩:=F.ex;exact .all (h kV doc pm an cdv ct)
theorem CO {x qual:Str} {st:Stmt} {f:Addr} {oc:Value} {od an:Option Addr} {osl:Array (Option Value)} {kV doc pm cdv ct:Value} (l:K.lookup f=some ⟨oc,od,.func (PySem.W.fnOf x qual (fu st) (bE st) (aI st) .none kV doc pm an cdv ct),osl⟩)
  (c:PySem.W.codeIn K cdv qual=true) (k:PySem.W.keepIn K (.ref f)=true):Fun K x qual st f (PySem.W.fnOf x qual (fu st) (bE st) (aI st) .none kV doc pm an cdv ct):=⟨⟨oc,od,kV,doc,pm,an,cdv,ct,osl,rfl,l,c⟩,k⟩
end
theorem qJ {n:Nat} (h:n<=1000):n<sizeLine:=Nat.lt_of_le_of_lt h (by decide)
theorem mQ {A B:Prop} (h:B):if false=true then A else B:=by
 rw [if_neg Bool.false_ne_true];exact h
theorem mP {A B:Prop} (h:A):if true=true then A else B:=by
 rw [if_pos rfl];exact h
noncomputable def Same (H H':Hp):Prop:=∀b o,H b=some o->H' b=some o
theorem Same.refl (H:Hp):Same H H:=fun _ _ h=>h
theorem Same.trans {H H1 H2:Hp} (a:Same H H1) (b:Same H1 H2):Same H H2:=fun c o h=>b c o (a c o h)
theorem Same.free {H H':Hp} (e:Same H H') {l:Addr} (h:H' l=Option.none):H l=Option.none:=by
 cases q:H l with
 | none=>rfl
 | some o=>
  rw [e l o q] at h
  cases h
theorem Same.seq {K:Fg} {H H':Hp} {a:Addr} {xs:List V} (e:Same H H') (h:SqL K H a xs):SqL K H' a xs:=by
 rcases h with (h | ⟨o,h⟩) | h
 ·exact .inl (.inl (e _ _ h))
 ·exact .inl (.inr ⟨o,e _ _ h⟩)
 ·exact .inr h
section
variable {prog:Program} {w:World} {A:Around} {R:Result->Shared->Prop} {s:Shared}
noncomputable abbrev wA:Value->Shared->Prop:=fun _ _=>False
theorem gN {elt target iter:Expr} {ifs:List Expr} {scope:Scope} {pos:Pos} {it acc:Value} {env:Env} (I:Nat->Shared->Prop)
  (turn:∀n s,I n s->wpAny (model prog w) A (pyNext it) (fun r s₁=>match r with
   | none=>R (.ok .next) s₁
   | some v=>wpAny (model prog w) A (letOwnedTupleGo target it v) (fun _ s₁'=>wpAny (model prog w) A (assign target env v) (fun _ s₂=>
     wpAny (model prog w) A (forIn ifs true fun c r=>if r=true then do let ok <-isTrue c env (eval c env);pure (ForInStep.yield ok) else pure (ForInStep.yield r)) (fun ok s₃=>
      if ok=true then wpAny (model prog w) A (eval elt env) (fun x s₄=>
       wpAny (model prog w) A (call (.builtin "list.append") [acc,x]) (fun _ s₅=>∃m,m<n/\I m s₅) wA s₄) wA s₃
      else ∃m,m<n/\I m s₃) wA s₂) wA s₁') wA s₁) wA s)
  (n:Nat) (h:I n s) :
  codeAny (model prog w) A (.compLoop (.ListComp elt [⟨target,iter,ifs,0⟩] scope pos) 0 it acc env) R s:=by
 refine codeAny_loop rfl I (fun n s hI=>?_) n h
 show wpAny _ A ((compTurn (.ListComp elt [⟨target,iter,ifs,0⟩] scope pos) 0 it acc env).onRaise (fun x=>do noteFrame x env;theTreesLotGoes x)) _ _ s
 refine wpAny_noted ?_
 rw [compTurn_list];have F:∀{Z:Value->Shared->Prop},∀(e:Value) (s:Shared),wA e s->Z e s:=fun _ _ x=>x.elim
 refine wpAny_bind (wpAny_standAt (wpAny_bind (wpAny_mono (turn n s hI) (fun r s₁ h₁=>?_) F)))
 cases r with
 | none=>exact wpAny_pure h₁
 | some v=>
  refine wpAny_bind (wpAny_mono h₁ (fun _ s₁' h₁'=>?_) F)
  refine wpAny_bind (wpAny_mono h₁' (fun _ s₂ h₂=>wpAny_bind (wpAny_mono h₂ (fun ok s₃ h₃=>?_) F)) F)
  cases ok with
  | false=>exact wpAny_pure ⟨rfl,h₃⟩
  | true=>
   exact wpAny_bind (wpAny_bind (wpAny_mono h₃ (fun x s₄ h₄=>wpAny_bind (wpAny_mono h₄ (fun _ s₅ h₅=>wpAny_pure (wpAny_pure ⟨rfl,h₅⟩)) F)) F))
end
noncomputable def cI (env:Env):List (Str×NameKind)->List (Str×Addr)->List (Str×Addr)
 | [],acc=>acc
 | (n,k)::r,acc=>if k==.free then cI env r ((n,(env.cells.lookup n).getD 0)::acc) else cI env r acc
theorem Jg {env:Env}:∀(names:List (Str×NameKind)) (acc:List (Str×Addr)),(∀n,(n,NameKind.free)∈names->∃c,env.cells.lookup n=some c) ->
  (forIn names acc fun (x:Str×NameKind) (cs:List (Str×Addr))=>(match x with | (name,kind)=>if kind==.free then (do let a <-cellOf env name;pure (ForInStep.yield ((name,a)::cs))) else pure (ForInStep.yield cs):Sem (ForInStep (List (Str×Addr)))))=(pure (cI env names acc):Sem (List (Str×Addr)))
 | [],acc,_=>by rw [List.forIn_nil];rfl
 | (n,k)::r,acc,h=>by
  rw [List.forIn_cons];unfold cI;by_cases hk:(k==.free)=true
  ·simp only [hk,if_true]
   have hk':k=.free:=by simpa using hk
   obtain ⟨c,hc⟩:=h n (by rw [hk'];exact mem_cons_self)
   have e:cellOf env n=pure c:=by unfold cellOf;rw [hc]
   rw [e,hc];exact Jg r ((n,c)::acc) fun n' hn=>h n' (mem_cons_of_mem _ hn)
  ·rw [if_neg hk]
   simp only [hk]
   exact Jg r acc fun n' hn=>h n' (mem_cons_of_mem _ hn)
theorem Jp {env:Env} {scope:Scope} (h:∀n,(n,NameKind.free)∈scope.names->∃c,env.cells.lookup n=some c):closureFor scope env=pure (cI env scope.names []):=by
 have:=Jg (env:=env) scope.names [] h
 unfold closureFor;rw [show (pure (cI env scope.names []):Sem (List (Str×Addr)))=(pure (cI env scope.names []) >>= fun x=>pure x) from rfl,<-this]
theorem Ja {env:Env} {x:Str} {c:Addr}:∀{names:List (Str×NameKind)} {acc:List (Str×Addr)},(∀n,(n,NameKind.free)∈names->∃c,env.cells.lookup n=some c)->(cI env names acc).lookup x=some c->env.cells.lookup x=some c\/acc.lookup x=some c
 | [],_,_,e=>.inr e
 | (n,k)::r,acc,h,e=>by
  unfold cI at e;have h':∀n',(n',NameKind.free)∈r->∃c,env.cells.lookup n'=some c:=fun n' hn=>h n' (mem_cons_of_mem _ hn)
  by_cases hk:(k==.free)=true
  ·rw [if_pos hk] at e
   rcases Ja h' e with q | q
   ·exact .inl q
   ·rw [lookup_cons] at q
    have hk':k=.free:=by simpa using hk
    obtain ⟨c',hc⟩:=h n (by rw [hk'];exact mem_cons_self)
    cases hx:x==n with
    | true=>
     rw [hx,hc] at q
     cases q;rw [eq_of_beq hx];exact .inl hc
    | false=>
     rw [hx] at q;exact .inr q
  ·rw [if_neg hk] at e
   exact Ja h' e
theorem DE {env:Env} {x:Str}:∀{names:List (Str×NameKind)} {acc:List (Str×Addr)},(x,NameKind.free)∈names\/(acc.lookup x).isSome=true->((cI env names acc).lookup x).isSome=true
 | [],_,h=>h.elim nofun id
 | (n,k)::r,acc,h=>by
  unfold cI;by_cases hk:(k==.free)=true
  ·rw [if_pos hk]
   refine DE (names:=r) ?_
   rcases h with h | h
   ·rcases List.mem_cons.mp h with e | h
    ·cases e
     exact .inr (by rw [lookup_cons];simp)
    ·exact .inl h
   ·right
    rw [lookup_cons]
    cases hx:x==n with
    | true=>rfl
    | false=>exact h
  ·rw [if_neg hk]
   refine DE (names:=r) ?_
   rcases h with h | h
   ·rcases List.mem_cons.mp h with e | h
    ·cases e
     exact absurd rfl hk
    ·exact .inl h
   ·exact .inr h
theorem DN {x:Str} {c:Addr}:∀{names:List (Str×NameKind)} {n:Nat} {acc:List (Str×Addr)},(cellsFrom n names acc).lookup x=some c->((x,NameKind.cell)∈names/\n<=c)\/acc.lookup x=some c
 | [],_,_,e=>.inr e
 | (y,k)::r,n,acc,e=>by
  unfold cellsFrom at e;by_cases hk:(k==.cell)=true
  ·rw [if_pos hk] at e
   have hk':k=.cell:=by simpa using hk
   rcases DN e with ⟨q,l⟩ | q
   ·exact .inl ⟨mem_cons_of_mem _ q,by omega⟩
   ·rw [lookup_cons] at q
    cases hx:x==y with
    | true=>
     rw [hx] at q
     cases q;exact .inl ⟨by rw [eq_of_beq hx,hk'];exact mem_cons_self,Nat.le_refl _⟩
    | false=>
     rw [hx] at q;exact .inr q
  ·rw [if_neg hk] at e
   rcases DN e with ⟨q,l⟩ | q
   ·exact .inl ⟨mem_cons_of_mem _ q,l⟩
   ·exact .inr q
theorem Jq {x y:Str} {c:Addr}:∀{names:List (Str×NameKind)} {n:Nat} {acc:List (Str×Addr)},(∀z d,acc.lookup z=some d->d<n)->(∀x y d,acc.lookup x=some d->acc.lookup y=some d->x=y) ->
  (cellsFrom n names acc).lookup x=some c->(cellsFrom n names acc).lookup y=some c->x=y
 | [],_,_,_,hi,e,e'=>hi _ _ _ e e'
 | (z,k)::r,n,acc,hl,hi,e,e'=>by
  unfold cellsFrom at e e'
  by_cases hk:(k==.cell)=true
  ·rw [if_pos hk] at e e'
   refine Jq (names:=r) (n:=n+1) (acc:=(z,n)::acc) (fun a d q=>?_) (fun a b d q q'=>?_) e e'
   ·rw [lookup_cons] at q
    cases hx:a==z with
    | true=>rw [hx] at q;cases q;exact Nat.lt_succ_self _
    | false=>rw [hx] at q;exact Nat.lt_succ_of_lt (hl a d q)
   ·rw [lookup_cons] at q q'
    cases hx:a==z with
    | true=>
     rw [hx] at q
     cases q
     cases hy:b==z with
     | true=>rw [eq_of_beq hx,eq_of_beq hy]
     | false=>rw [hy] at q';exact absurd (hl b n q') (Nat.lt_irrefl _)
    | false=>
     rw [hx] at q
     cases hy:b==z with
     | true=>rw [hy] at q';cases q';exact absurd (hl a n q) (Nat.lt_irrefl _)
     | false=>rw [hy] at q';exact hi a b d q q'
  ·rw [if_neg hk] at e e'
   exact Jq hl hi e e'
theorem Jh {env:Env} {x:Str} {c:Addr}:∀{names:List (Str×NameKind)} {acc:List (Str×Addr)},(cI env names acc).lookup x=some c->(x,NameKind.free)∈names\/acc.lookup x=some c
 | [],_,e=>.inr e
 | (n,k)::r,acc,e=>by
  unfold cI at e;by_cases hk:(k==.free)=true
  ·rw [if_pos hk] at e
   have hk':k=.free:=by simpa using hk
   rcases Jh e with q | q
   ·exact .inl (mem_cons_of_mem _ q)
   ·rw [lookup_cons] at q
    cases hx:x==n with
    | true=>rw [eq_of_beq hx,hk'];exact .inl mem_cons_self
    | false=>rw [hx] at q;exact .inr q
  ·rw [if_neg hk] at e
   rcases Jh e with q | q
   ·exact .inl (mem_cons_of_mem _ q)
   ·exact .inr q
theorem HI {x:Str}:∀{names:List (Str×NameKind)} {n:Nat} {acc:List (Str×Addr)},(x,NameKind.cell)∈names\/(acc.lookup x).isSome=true->((cellsFrom n names acc).lookup x).isSome=true
 | [],_,_,h=>h.elim nofun id
 | (y,k)::r,n,acc,h=>by
  unfold cellsFrom;by_cases hk:(k==.cell)=true
  ·rw [if_pos hk]
   refine HI (names:=r) ?_
   rcases h with h | h
   ·rcases List.mem_cons.mp h with e | h
    ·cases e
     exact .inr (by rw [lookup_cons];simp)
    ·exact .inl h
   ·right
    rw [lookup_cons]
    cases hx:x==y with
    | true=>rfl
    | false=>exact h
  ·rw [if_neg hk]
   refine HI (names:=r) ?_
   rcases h with h | h
   ·rcases List.mem_cons.mp h with e | h
    ·cases e
     exact absurd rfl hk
    ·exact .inl h
   ·exact .inr h
theorem HH {x:Str}:∀{names:List (Str×NameKind)} {n:Nat} {acc:List (Str×Addr)},(x,NameKind.cell)∉names->(cellsFrom n names acc).lookup x=acc.lookup x
 | [],_,_,_=>rfl
 | (y,k)::r,n,acc,h=>by
  unfold cellsFrom;have hr:(x,NameKind.cell)∉r:=fun z=>h (mem_cons_of_mem _ z)
  by_cases hk:(k==.cell)=true
  ·rw [if_pos hk,HH hr,lookup_cons]
   have hk':k=.cell:=by simpa using hk
   cases hx:x==y with
   | true=>exact absurd (by rw [eq_of_beq hx,hk'];exact mem_cons_self) h
   | false=>rfl
  ·rw [if_neg hk]
   exact HH hr
theorem HJ {x:Str} {c:Addr}:∀{names:List (Str×NameKind)} {n:Nat} {acc:List (Str×Addr)},(x,NameKind.cell)∈names->(cellsFrom n names acc).lookup x=some c->(cellsFrom n names []).lookup x=some c
 | [],_,_,h,_=>nomatch h
 | (y,k)::r,n,acc,h,e=>by
  unfold cellsFrom at e ⊢
  by_cases hk:(k==.cell)=true
  ·rw [if_pos hk] at e ⊢
   by_cases hr:(x,NameKind.cell)∈r
   ·have:∀{acc acc':List (Str×Addr)},(cellsFrom (n+1) r acc).lookup x=some c->(cellsFrom (n+1) r acc').lookup x=some c:=fun {a a'} q=>by
     have q0:=HJ hr q
     have hs:=HI (n:=n+1) (acc:=a') (.inl hr)
     obtain ⟨c',hc'⟩:=Option.isSome_iff_exists.mp hs;have q1:=HJ hr hc'
     rw [q0] at q1
     cases q1;exact hc'
    exact this e
   ·rw [HH hr] at e ⊢
    rw [lookup_cons] at e ⊢
    cases hx:x==y with
    | true=>rw [hx] at e;exact e
    | false=>
     rcases List.mem_cons.mp h with z | z
     ·cases z
      simp at hx
     ·exact absurd z hr
  ·rw [if_neg hk] at e ⊢
   rcases List.mem_cons.mp h with z | z
   ·cases z
    exact absurd rfl hk
   ·exact HJ z e
noncomputable def blk (X:Cx) (scope:Scope) (cells:List (Str×Addr)) (C:Addr) (s₀:Shared) (H₀:Hp) (ex:List Addr):Cx where
 prog:=X.prog
 w:=X.w
 K:=X.K
 mg:=X.mg
 base:=X.base
 A:=X.A
 N:=X.N
 s₀:=s₀
 H₀:=H₀
 env:={ scope:=relabel scope X.env,locals:=C,globals:=X.env.globals,cells:=cells,qual:=X.env.qual,func:=none,code:=X.env.code,frame:=X.env.frame,builtins:=X.env.builtins }
 outer:=X.stack
 stack:=X.stack
 ex:=ex
 fn:=fun x=>scope.names.any fun y=>y.1==x&&y.2==.cell
 calm:=X.calm
 pn:=[]
 xe:=fun _ _=>False
structure cW (N:List Str) (is:List Nat) (osc scope:Scope):Prop where
 kind:scope.kind=.function
 free:∀n,(n,NameKind.free)∈scope.names->osc.names.lookup n=some .cell\/osc.names.lookup n=some .free
 own:∀(i:Nat) (x:Str),N[i]?=some x->(x,NameKind.local)∈scope.names\/(x,NameKind.cell)∈scope.names->i∈is
 loc:∀x∈scope.names,x.2=.local->scope.names.lookup x.1=some .local
 one:∀n,(n,NameKind.free)∈scope.names->(n,NameKind.cell)∉scope.names
noncomputable def bC (is:List Nat) (σ:St):St:=σ.mapIdx fun i v=>if i∈is then none else v
theorem HE (is:List Nat) (σ:St):(bC is σ).length=σ.length:=by unfold bC;simp
theorem kz {is:List Nat} {σ:St} {i:Nat} {v:V} (h:(bC is σ)[i]?=some (some v)):i∉is/\σ[i]?=some (some v):=by
 unfold bC at h;rw [List.getElem?_mapIdx] at h
 cases e:σ[i]? with
 | none=>rw [e] at h;cases h
 | some o=>
  rw [e] at h;simp only [Option.map_some,Option.some.injEq] at h
  by_cases hi:i∈is
  ·rw [if_pos hi] at h;cases h
  ·rw [if_neg hi] at h;exact ⟨hi,by rw [h]⟩
noncomputable def Ig (σ0 σ2:St):Prop:=σ2.length=σ0.length/\∀(i:Nat) v,σ0[i]?=some (some v)->σ2[i]?=some (some v)
theorem jk {x:Str} {k:NameKind} {l:List (Str×NameKind)} (h:l.lookup x=some k):(x,k)∈l:=PySem.mem_of_lookup h
theorem DK {scope:Scope} {env:Env} {x:Str} {k:NameKind} (h:(relabel scope env).names.lookup x=some k) :
  (x,k)∈scope.names\/((x,NameKind.free)∈scope.names/\k=.cell):=by
 have h:=jk h
 unfold relabel at h;obtain ⟨⟨n,k'⟩,hm,e⟩:=List.mem_map.mp h;dsimp only at e;by_cases hc:(k'==NameKind.free&&env.scope.kind==.function&&env.kindOf n==some .cell)=true
 ·rw [if_pos hc] at e
  cases e;have:k'=.free:=by
   simp only [Bool.and_eq_true,beq_iff_eq] at hc
   exact hc.1.1
  exact .inr ⟨this▸hm,rfl⟩
 ·rw [if_neg hc] at e
  cases e;exact .inl hm
noncomputable def aM (X:Cx) (scope:Scope) (C:Addr):List (Str×Addr):=cellsFrom (C+1) scope.names (cI X.env scope.names [])
section
variable {X:Cx} {pins:List (Addr×Obj)} {σ:St} {H:Hp} {s:Shared} {scope:Scope} {is:List Nat}
theorem Inv.freeCells (I:Inv X pins σ H s) (S:cW X.N is X.env.scope scope):∀n,(n,NameKind.free)∈scope.names->∃c,X.env.cells.lookup n=some c:=fun n hn=>
 I.ok.has n (S.free n hn)
theorem Inv.blkOld (I:Inv X pins σ H s) (S:cW X.N is X.env.scope scope) {x:Str} {c:Addr} (h:(cI X.env scope.names []).lookup x=some c):X.env.cells.lookup x=some c:=by
 rcases Ja (I.freeCells S) h with q | q
 ·exact q
 ·cases q
theorem Inv.block {fp:List Addr} {t':Nat} (I:Inv X pins σ H s) (S:cW X.N is X.env.scope scope) (hf:∀b∈fp,gP X pins H b) (hfs:∀b∈fp,b<s.heap.objs.size) :
  Inv (blk X scope (aM X scope (s.heap.objs.size+1)) (s.heap.objs.size+1) s H fp) [] (bC is σ) (bU H s.heap.objs.size (.lst []))
   { s with heap:=pushCells ((s.heap.push { cls:=.type "list",data:=.seq ([]:List Value).toArray }).push { cls:=.type "dict",data:=.dict #[] }) scope.names,toks:=t' }:=by
 generalize hC:s.heap.objs.size+1=C
 have hDn:H s.heap.objs.size=none:=I.hok.fresh (Nat.le_refl _)
 have s1:(s.heap.push { cls:=.type "list",data:=.seq ([]:List Value).toArray }).objs.size=C:=by rw [Heap.size_push,hC]
 have kept:∀b o,s.heap.get? b=some o->(pushCells ((s.heap.push { cls:=.type "list",data:=.seq ([]:List Value).toArray }).push { cls:=.type "dict",data:=.dict #[] }) scope.names).get? b=some o:=
  fun b o e=>pushCells_keeps _ _ b o (Heap.get?_push_of_some _ (Heap.get?_push_of_some _ e))
 have cellsL:∀x c,(aM X scope C).lookup x=some c->((x,NameKind.cell)∈scope.names/\C+1<=c)\/X.env.cells.lookup x=some c:=fun x c e=>by
  rcases DN e with q | q
  ·exact .inl q
  ·exact .inr (I.blkOld S q)
 have oldLt:∀x c,X.env.cells.lookup x=some c->c<s.heap.objs.size:=fun x c e=>by
  obtain ⟨v,q⟩:=I.cell x c e;exact q.lt
 have cok:CellsOk (pushCells ((s.heap.push { cls:=.type "list",data:=.seq ([]:List Value).toArray }).push { cls:=.type "dict",data:=.dict #[] }) scope.names) (C+1)
   (cellsFrom (C+1) scope.names []):=by
  have:=cellsFrom_ok scope.names ((s.heap.push { cls:=.type "list",data:=.seq ([]:List Value).toArray }).push { cls:=.type "dict",data:=.dict #[] }) (C+1) [] ⟨fun _ _ hm=>(nomatch hm),List.Pairwise.nil⟩ (by rw [Heap.size_push,s1];exact Nat.le_refl _)
  rw [Heap.size_push,s1] at this;exact this
 have lt1:∀{b:Nat},b<s.heap.objs.size->b≠C:=fun {b} h e=>by subst e;rw [<-hC] at h;exact absurd (Nat.lt_of_succ_lt h) (Nat.lt_irrefl _)
 have hDle:s.heap.objs.size<=C:=by rw [<-hC];exact Nat.le_succ _
 have cellAt:∀x c,(aM X scope C).lookup x=some c->(C<c/\(pushCells ((s.heap.push { cls:=.type "list",data:=.seq ([]:List Value).toArray }).push { cls:=.type "dict",data:=.dict #[] }) scope.names).IsCell c none)\/X.env.cells.lookup x=some c:=fun x c e=>by
  rcases cellsL x c e with ⟨q1,q2⟩ | q
  ·exact .inl ⟨q2,(cok.empty x c (PySem.mem_of_lookup (HJ q1 e))).1⟩
  ·exact .inr q
 refine ⟨⟨I.ok.mod,S.kind,I.ok.glob,I.ok.blt,hDle,?_,?_,?_,I.ok.hd,I.ok.frames,.inl rfl,?_,I.bs,Nat.le_trans I.ok.bsz I.sz,?_,?_,I.stack,I.stkFree⟩,rfl,I.bare,?_,?_,?_,?_,?_,fun p hp=>absurd (show p∈([]:List (Addr×Obj)) from hp) (by simp),?_,(HE _ _).trans I.len⟩
 ·-- inj
  intro x y c hx hy;refine Jq (fun z d q=>?_) (fun a b d q q'=>I.ok.inj a b d (I.blkOld S q) (I.blkOld S q')) hx hy
  exact Nat.lt_succ_of_lt (Nat.lt_of_lt_of_le (oldLt z d (I.blkOld S q)) hDle)
 ·-- has
  intro x hx;have q:((aM X scope C).lookup x).isSome=true:=by
   refine HI ?_
   have hx:(relabel scope X.env).names.lookup x=some .cell\/(relabel scope X.env).names.lookup x=some .free:=hx
   rcases hx with hx | hx
   ·rcases DK hx with z | ⟨z,_⟩
    ·exact .inl z
    ·exact .inr (DE (.inl z))
   ·rcases DK hx with z | ⟨z,_⟩
    ·exact .inr (DE (.inl z))
    ·exact .inr (DE (.inl z))
  exact Option.isSome_iff_exists.mp q
 ·-- cab
  intro x c hx e;have hx:(scope.names.any fun y=>y.1==x&&y.2==NameKind.cell)=true:=hx
  obtain ⟨y,hy,hz⟩:=List.any_eq_true.mp hx;simp only [Bool.and_eq_true,beq_iff_eq] at hz
  have hm:(x,NameKind.cell)∈scope.names:=by rw [<-hz.1,<-hz.2];exact hy
  rcases DN e with ⟨_,q⟩ | q
  ·exact Nat.le_trans hDle (Nat.le_of_succ_le q)
  ·rcases Jh q with z | z
   ·exact absurd hm (S.one x z)
   ·cases z
 ·-- exf
  intro b hb;obtain ⟨f0,f1,f2,f3,f4,f5⟩:=hf b hb;refine ⟨lt1 (hfs b hb),fun x c e z=>?_⟩
  rcases cellsL x c e with ⟨_,q⟩ | q
  ·subst z
   exact absurd (Nat.lt_of_lt_of_le (hfs _ hb) hDle) (Nat.not_lt.mpr (Nat.le_of_succ_le q))
  ·exact f4 x c q z
 ·-- noex
  intro b o e hb;obtain ⟨f0,f1,f2,f3,f4,f5⟩:=hf b hb;rcases f3 with z | z
  ·exact I.ok.noex b o e z
  ·exact absurd (Nat.lt_of_lt_of_le (Heap.lt_size e) (Nat.le_trans I.ok.bsz z)) (Nat.lt_irrefl _)
 ·-- exfs
  intro b hb z;obtain ⟨f0,f1,f2,f3,f4,f5⟩:=hf b hb;rcases List.mem_cons.mp (I.stkSub b z) with e | e
  ·exact f1 e
  ·exact f2 e
 ·-- base
  exact Un.laid kept (Nat.le_refl _) hDn
 ·-- loc
  refine ⟨fun _=>none,?_,fun i x v e1 e2 e3=>?_⟩
  ·have:=(Heap.Ns.new (s.heap.push { cls:=.type "list",data:=.seq ([]:List Value).toArray }) (.type "dict")).keeps (pushCells_keeps scope.names _)
   rw [s1] at this;exact this
  ·obtain ⟨hni,e2'⟩:=kz e2
   obtain ⟨m,hn,hl⟩:=id I.loc;have hfree:(x,NameKind.free)∈scope.names:=by
    have e3:(relabel scope X.env).names.lookup x=some .local\/(relabel scope X.env).names.lookup x=some .cell\/(relabel scope X.env).names.lookup x=some .free:=e3
    rcases e3 with z | z | z
    ·rcases DK z with y | ⟨y,_⟩
     ·exact absurd (S.own i x e1 (.inl y)) hni
     ·exact y
    ·rcases DK z with y | ⟨y,_⟩
     ·exact absurd (S.own i x e1 (.inr y)) hni
     ·exact y
    ·rcases DK z with y | ⟨y,_⟩
     ·exact y
     ·exact y
   have hk:=S.free x hfree
   obtain ⟨u,r,l⟩:=hl i x v e1 e2' (.inr hk)
   refine ⟨u,r,?_⟩
   rcases l with ⟨k,_⟩ | ⟨k,c,e,z⟩
   ·have k:X.env.scope.names.lookup x=some .local:=k
    rcases hk with q | q<;>(rw [q] at k;cases k)
   ·refine .inr ⟨?_,c,?_,z.keeps kept⟩
    ·have e3:(relabel scope X.env).names.lookup x=some .local\/(relabel scope X.env).names.lookup x=some .cell\/(relabel scope X.env).names.lookup x=some .free:=e3
     rcases e3 with y | y | y
     ·rcases DK y with y' | ⟨_,y'⟩
      ·exact absurd (S.own i x e1 (.inl y')) hni
      ·cases y'
     ·exact .inl y
     ·exact .inr y
    ·have q:=DE (env:=X.env) (acc:=[]) (.inl hfree)
     obtain ⟨c',hc'⟩:=Option.isSome_iff_exists.mp q;have:=I.blkOld S hc'
     rw [e] at this
     cases this;show (aM X scope C).lookup x=some c
     unfold aM;rw [HH (S.one x hfree)];exact hc'
 ·-- cell
  intro x c e;rcases cellAt x c e with ⟨_,q⟩ | q
  ·exact ⟨_,q⟩
  ·obtain ⟨v,z⟩:=I.cell x c q
   exact ⟨v,z.keeps kept⟩
 ·-- free
  show bU H s.heap.objs.size (.lst []) C=none
  rw [d0 (by rw [<-hC];exact Nat.ne_of_gt (Nat.lt_succ_self _))]
  exact I.hok.fresh hDle
 ·-- freeC
  intro x c e;show bU H s.heap.objs.size (.lst []) c=none
  rcases cellAt x c e with ⟨q,_⟩ | q
  ·have hc:s.heap.objs.size<c:=Nat.lt_of_le_of_lt hDle q
   rw [d0 (Nat.ne_of_gt hc)];exact I.hok.fresh (Nat.le_of_lt hc)
  ·rw [d0 (Nat.ne_of_lt (oldLt x c q))]
   exact I.freeC x c q
 ·-- hok
  exact I.hok.laid kept (Nat.le_refl _) ⟨Nat.zero_le _,[],0,.nil,pushCells_keeps _ _ _ _ (Heap.get?_push_of_some _ (Heap.get?_push_size _ rfl))⟩
end
section
variable {M:Model} {A:Around} {E:Value->Shared->Prop} {s:Shared}
theorem fM {scope:Scope} {globals:Addr} {cl:List (Str×Addr)} {qual:Str} {env:Env} {Q:Env->Shared->Prop}
  (hQ:Q (newEnv scope s.heap.objs.size globals (cellsFrom (s.heap.objs.size+1) scope.names cl) qual none .none (some env) builtinsNs) { s with heap:=pushCells (s.heap.push { cls:=.type "dict",data:=.dict #[] }) scope.names }) :
  wpAny M A (newFunctionEnv scope globals cl [] qual none .none (some env)) Q E s:=by
 simp only [newFunctionEnv,Option.isSome_some,if_true]
 refine wpAny_bind (wpAny_alloc ?_)
 refine wpAny_bind (wpAny_layCells _ (fun name kind cells=>by cases hkc:kind==NameKind.cell<;>simp [hkc]) _ _ _ _ ?_)
 rw [show ({ s with heap:=s.heap.push { cls:=.type "dict",data:=.dict #[] } }:Shared).heap.objs.size=s.heap.objs.size+1 from Heap.size_push ..]
 rw [List.forIn_nil];exact wpAny_bind (wpAny_pure (wpAny_pure hQ))
end
noncomputable def PF (X:Cx) (ifs:List Expr) (t:TT):Prop:=
 ∀(pins:List (Addr×Obj)) (s:Shared) (σ:St) (H:Hp) (Q:Bool->Hp->Prop),Inv X pins σ H s->t σ H Q ->
  wpAny (model X.prog X.w) X.A (forIn ifs true fun c r=>if r=true then do let ok <-isTrue c X.env (eval c X.env);pure (ForInStep.yield ok) else pure (ForInStep.yield r)) (TP X pins σ Q) X.xe s
noncomputable def pb:TT:=fun _ H Q=>Q true H
theorem uM {X:Cx}:PF X [] pb:=fun pins s σ H Q I h=>wpAny_tests_nil ⟨H,I,h⟩
theorem uL {X:Cx} {c:Expr} {t:TT} (h:PT X c t):PF X [c] t:=fun pins s σ H Q I q=>wpAny_tests_one (h pins s σ H Q I q)
noncomputable def fG (is:List Nat) (wi:TI) (g:TG) (tc:TT) (te:TE):TE:=fun σ H Q=>wi σ H fun J H1=>∀D,H1 D=none->∃W:Nat->Nat->List V->Hp->Prop,(∃m,W 0 m [] (bU H1 D (.lst [])))/\∀k m ys H,W k m ys H ->
 H D=some (.lst ys)/\((J.stop k H/\Q (.ref D) H)\/(J.go k H/\ys.length<sizeLine/\∀x H',J.yld k H x H'->g x (bC is σ) H' fun σ2 H2=>Ig (bC is σ) σ2/\tc σ2 H2 fun b H3=>
  if b=true then te σ2 H3 fun v H4=>H4 D=some (.lst ys)/\∃m',m'<m/\W (k+1) m' (ys++[v]) (bU H4 D (.lst (ys++[v]))) else ∃m',m'<m/\W (k+1) m' ys H3))
section
variable {X:Cx} {scope:Scope} {is:List Nat} {tg iter elt:Expr} {ifs:List Expr} {wi:TI} {g:TG} {tc:TT} {te:TE} {pos:Pos}
theorem ku {pins:List (Addr×Obj)} {s:Shared} {σ:St} {H:Hp} {Q:VK} {RR:Value->Addr->Result->Shared->Prop} (S:cW X.N is X.env.scope scope) (hcalm:X.calm=true) (hi:PI X tg iter wi)
  (hg:∀cells C s₀ H₀ ex,PG (blk X scope cells C s₀ H₀ ex) tg g) (hc:∀cells C s₀ H₀ ex,PF (blk X scope cells C s₀ H₀ ex) ifs tc) (he:∀cells C s₀ H₀ ex,PE (blk X scope cells C s₀ H₀ ex) elt te)
  (I:Inv X pins σ H s) (h:fG is wi g tc te σ H Q)
  (hRR:∀D C s' H' m,Inv X pins σ H' s'->s'.heap.Ns C m->Q (.ref D) H'->H' C=none->C≠X.env.locals->X.s₀.heap.objs.size<=C->(∀x c,X.env.cells.lookup x=some c->c≠C)->(∀p∈X.pn++pins,p.1≠C)->RR (.ref D) C (.ok .next) s') :
  wpAny (model X.prog X.w) X.A (eval iter X.env) (fun x s₁=>wpAny (model X.prog X.w) X.A (pyIter x) (fun it s₂=>wpAny (model X.prog X.w) X.A (newList []) (fun acc s₃=>
   wpAny (model X.prog X.w) X.A (newFunctionEnv scope X.env.globals (cI X.env scope.names []) [] X.env.qual none .none (some X.env)) (fun cenv s₄=>
    codeAny (model X.prog X.w) X.A (.compStart (.ListComp elt [⟨tg,iter,ifs,0⟩] scope pos) 0 it acc { cenv with scope:=relabel scope X.env }) (RR acc cenv.locals) s₄) X.xe s₃) X.xe s₂) X.xe s₁) X.xe s:=by
 refine bF (hi pins s σ H _ I h) fun v s1 h1=>bF h1 fun itv s2 h2=>?_
 obtain ⟨it,fp,tn,J,H2,e,I2,T,st2,f2,hW⟩:=h2;subst e;obtain ⟨W,⟨m0,w0⟩,turn⟩:=hW s2.heap.objs.size (I2.hok.fresh (Nat.le_refl _));refine wpAny_newObj_type (fM ?_)
 have s1:(s2.heap.push { cls:=.type "list",dict:=none,data:=.seq ([]:List Value).toArray }).objs.size=s2.heap.objs.size+1:=by rw [Heap.size_push]
 dsimp only;rw [s1];have hfs:∀b∈fp,b<s2.heap.objs.size:=fun b hb=>by
  obtain ⟨o,e,_⟩:=T.obj 0 _ st2 b hb;exact Heap.lt_size e
 have I4:=I2.block (t':=s2.toks) S f2 hfs
 generalize hCC:s2.heap.objs.size+1=C at I4 ⊢
 have hDC:s2.heap.objs.size<C:=by rw [<-hCC];exact Nat.lt_succ_self _
 have Hg:=hg (aM X scope C) C s2 H2 fp
 have Hc:=hc (aM X scope C) C s2 H2 fp
 have He:=he (aM X scope C) C s2 H2 fp
 have Ha:=IX (X:=blk X scope (aM X scope C) C s2 H2 fp)
 have hYcell:∀x c,(blk X scope (aM X scope C) C s2 H2 fp).env.cells.lookup x=some c->s2.heap.objs.size<=c\/X.env.cells.lookup x=some c:=fun x c e=>by
  have e:(cellsFrom (C+1) scope.names (cI X.env scope.names [])).lookup x=some c:=e
  rcases DN e with ⟨_,q⟩ | q
  ·exact .inl (Nat.le_trans (Nat.le_of_lt hDC) (Nat.le_of_succ_le q))
  ·exact .inr (I2.blkOld S q)
 have FY:∀{H':Hp},(∀b∈fp,H' b=none)->∀b∈fp,gP (blk X scope (aM X scope C) C s2 H2 fp) [] H' b:=fun {H'} hn b hb=>by
  obtain ⟨f0,f1,f3,f4,f5,f6⟩:=f2 b hb;refine ⟨hn b hb,Nat.ne_of_lt (Nat.lt_trans (hfs b hb) hDC),fun z=>?_,.inl hb,fun x c e z=>?_,fun p hp=>absurd (show p∈([]:List (Addr×Obj)) from hp) (by simp)⟩
  ·rcases List.mem_cons.mp (I2.stkSub b z) with e | e
   ·exact f1 e
   ·exact f3 e
  ·rcases hYcell x c e with q | q
   ·rw [z] at q
    exact absurd (Nat.lt_of_lt_of_le (hfs b hb) q) (Nat.lt_irrefl _)
   ·exact f5 x c q z
 have hCx:∀x c,X.env.cells.lookup x=some c->c≠C:=fun x c e z=>by
  obtain ⟨v,q⟩:=I2.cell x c e;have:=q.lt
  rw [z] at this;exact absurd (Nat.lt_trans this hDC) (Nat.lt_irrefl _)
 have hCp:∀p∈X.pn++pins,p.1≠C:=fun p hp z=>by
  have:=Heap.lt_size (I2.pin p hp).1
  rw [z] at this;exact absurd (Nat.lt_trans this hDC) (Nat.lt_irrefl _)
 have out:∀{σ':St} {H':Hp} {s':Shared},Inv (blk X scope (aM X scope C) C s2 H2 fp) [] σ' H' s'->Inv X pins σ H' s':=fun {σ' H' s'} J=>
  I2.call' (ch:=fp) J.os J.base J.hok J.bare fun b hb=>by
   obtain ⟨f0,f1,f3,f4,f5,f6⟩:=f2 b hb;exact ⟨f4,f1,f5,f6⟩
 have loop:∀s₃:Shared,s₃={ s2 with heap:=pushCells ((s2.heap.push { cls:=.type "list",data:=.seq ([]:List Value).toArray }).push { cls:=.type "dict",data:=.dict #[] }) scope.names } ->
   codeAny (model X.prog X.w) X.A (.compLoop (.ListComp elt [⟨tg,iter,ifs,0⟩] scope pos) 0 (.ref it) (.ref s2.heap.objs.size) (blk X scope (aM X scope C) C s2 H2 fp).env) (RR (.ref s2.heap.objs.size) C) s₃:=by
  rintro s₃ rfl
  refine gN (fun n s'=>∃k ys H',Inv (blk X scope (aM X scope C) C s2 H2 fp) [] (bC is σ) H' s'/\tn k s'.heap/\(∀b∈fp,H' b=none)/\W k n ys H') ?_ m0
   ⟨0,[],_,I4,T.keep 0 _ _ st2 fun b _ o e=>pushCells_keeps _ _ b o (Heap.get?_push_of_some _ (Heap.get?_push_of_some _ e)),fun b hb=>by rw [d0 (Nat.ne_of_lt (hfs b hb))];exact (f2 b hb).1,w0⟩
  rintro n s3 ⟨k,ys,H3,I3,st3,fr3,w3⟩
  obtain ⟨hD3,hcase⟩:=turn k n ys H3 w3;rcases hcase with ⟨stop,qn⟩ | ⟨go,hlen,step⟩
  ·refine bF (T.done (blk X scope (aM X scope C) C s2 H2 fp) rfl rfl rfl hcalm k [] s3 (bC is σ) H3 wA I3 (FY fr3) st3 stop) fun r s4 ⟨hr,I4⟩=>?_
   subst hr;obtain ⟨m,hn,_⟩:=id I4.loc;exact hRR _ C s4 H3 m (out I4) hn qn I4.free (fun z=>Nat.lt_irrefl _ (Nat.lt_trans (Nat.lt_of_lt_of_eq hDC z) I2.lt)) (Nat.le_trans I2.sz (Nat.le_of_lt hDC)) hCx hCp
  ·refine bF (T.item (blk X scope (aM X scope C) C s2 H2 fp) rfl rfl rfl hcalm k [] s3 (bC is σ) H3 wA I3 (FY fr3) st3 go) fun r s4 ⟨u,hr,h4⟩=>?_
   subst hr;refine bF h4 fun _ s5 ⟨x,H5,I5,r5,y5,st5,fr5⟩=>?_
   have I5':=I5.pinned (FY fr5) (T.obj _ _ st5)
   refine bF (Hg _ s5 (bC is σ) H5 x u _ I5' r5 (step x H5 y5)) fun _ s6 ⟨σ6,H6,I6,le6,q6⟩=>?_
   refine bF (Hc _ s6 σ6 H6 _ I6 q6) fun ok s7 ⟨H7,I7,q7⟩=>?_
   have again:∀{H8:Hp} {s8:Shared} {ys':List V},Inv (blk X scope (aM X scope C) C s2 H2 fp) ([]++gX fp s5.heap) σ6 H8 s8->(∃m',m'<n/\W (k+1) m' ys' H8) ->
     ∃m,m<n/\∃k ys H',Inv (blk X scope (aM X scope C) C s2 H2 fp) [] (bC is σ) H' s8/\tn k s8.heap/\(∀b∈fp,H' b=none)/\W k m ys H':=fun {H8 s8 ys'} I8 ⟨m',hm,w8⟩=>by
    refine ⟨m',hm,k+1,ys',H8,(I8.weak le6.1.symm le6.2).unpinned,T.keep _ _ _ st5 fun b hb o e=>(I8.pin (b,o) (mem_append_right _ (mem_append_right _ (DF hb e)))).1,fun b hb=>?_,w8⟩
    obtain ⟨o,e,d⟩:=T.obj _ _ st5 b hb;exact (I8.pin (b,o) (mem_append_right _ (mem_append_right _ (DF hb e)))).2.1
   cases ok with
   | false=>
    rw [if_neg Bool.false_ne_true] at q7;exact again I7 q7
   | true=>
    rw [if_pos rfl] at q7;refine bF (He _ s7 σ6 H7 _ I7 q7) fun y s8 ⟨v8,H8,I8,r8,q8⟩=>?_
    obtain ⟨hD8,q8⟩:=q8;refine bF (Ha _ s8 σ6 H8 (.ref s2.heap.objs.size) [v8] (.ref s2.heap.objs.size) [y] (fun _ H9=>∃m',m'<n/\W (k+1) m' (ys++[v8]) H9) I8 rfl (.cons r8 .nil) ⟨_,ys,v8,rfl,rfl,hD8,hlen,q8⟩) fun _ s9 ⟨_,H9,I9,_,q9⟩=>?_
    exact again I9 q9
 exact codeAny_compStart_list (loop _ rfl) (T.self X.A 0 _ _ _ (T.keep 0 _ _ st2 fun b _ o e=>pushCells_keeps _ _ b o (Heap.get?_push_of_some _ (Heap.get?_push_of_some _ e))) (loop _ rfl))
theorem pN (S:cW X.N is X.env.scope scope) (hcalm:X.calm=true) (hi:PI X tg iter wi)
  (hg:∀cells C s₀ H₀ ex,PG (blk X scope cells C s₀ H₀ ex) tg g) (hc:∀cells C s₀ H₀ ex,PF (blk X scope cells C s₀ H₀ ex) ifs tc) (he:∀cells C s₀ H₀ ex,PE (blk X scope cells C s₀ H₀ ex) elt te)
  (hs:∀x,foldedSetIterable iter X.env x=pure x:=by intro _;rfl):PE X (.ListComp elt [⟨tg,iter,ifs,0⟩] scope pos) (fG is wi g tc te):=by
 intro pins s σ H Q I h;rw [eval_ListComp];refine wpAny_comprehension_free (use:=none) rfl hs (Jp (I.freeCells S)) S.kind S.loc (ku (RR:=fun acc C=>compPost (model X.prog X.w) X.A X.xe none (EP X pins σ Q) acc C) S hcalm hi hg hc he I h ?_)
 intro D C s' H' m I' hn q n1 n2 n3 n4 n5
 refine ⟨m,hn,fun h' hs'=>?_⟩
 exact ⟨.ref D,H',I'.turned (t':=s'.toks) (fun b o hb e=>(hs'.2 b hb).trans e) n1 n2 (.inr n3) n4 n5,rfl,q⟩
theorem Jd {i:Nat} {y:Str} {pos' spos:Pos} (hN:X.N.Nodup) (hy:X.N[i]?=some y) (hl:X.env.scope.names.lookup y=some .local) (S:cW X.N is X.env.scope scope) (hcalm:X.calm=true) (hi:PI X tg iter wi)
  (hg:∀cells C s₀ H₀ ex,PG (blk X scope cells C s₀ H₀ ex) tg g) (hc:∀cells C s₀ H₀ ex,PF (blk X scope cells C s₀ H₀ ex) ifs tc) (he:∀cells C s₀ H₀ ex,PE (blk X scope cells C s₀ H₀ ex) elt te)
  (hsw:swapsWith (.ListComp elt [⟨tg,iter,ifs,0⟩] scope pos) (some (.Name y pos')) spos.line X.env=pure true)
  (hs:∀x,foldedSetIterable iter X.env x=pure x:=by intro _;rfl):PS X (.Assign [.Name y pos'] (.ListComp elt [⟨tg,iter,ifs,0⟩] scope pos) spos) (fun D σ H=>fG is wi g tc te σ H fun v H'=>D.nx (σ.set i (some v)) H'):=by
 intro pins s σ H Ds I h;rw [exec_Assign_Name_used _ _ _ _ hsw];refine wpAny_bind (wpAny_standAt (wpAny_bind ?_))
 show wpAny _ X.A (do let _ <-comprehension (.ListComp elt [⟨tg,iter,ifs,0⟩] scope pos) scope X.env _ (newList []) false (eval iter X.env) (some (assign (.Name y pos') X.env))) _ _ s
 refine wpAny_bind (wpAny_mono (wpAny_comprehension_free (use:=some (assign (.Name y pos') X.env)) (Q:=fun _ s'=>SP X pins Ds .next s') rfl hs (Jp (I.freeCells S)) S.kind S.loc
  (ku (RR:=fun acc C=>compPost (model X.prog X.w) X.A X.xe (some (assign (.Name y pos') X.env)) (fun _ s'=>SP X pins Ds .next s') acc C) S hcalm hi hg hc he I h ?_)) (fun _ s' hq=>wpAny_pure (wpAny_pure hq)) fun _ _ e=>e)
 intro D C s' H' m I' hn q n1 n2 n3 n4 n5
 show wpAny _ X.A (assign (.Name y pos') X.env (.ref D)) _ _ _
 refine wpAny_assign_Name (ka (v:=.ref D) I' hN hy (.inl hl) rfl (fun s'' I'' hch=>?_) (.inr hl))
 obtain ⟨a,hsb,ha⟩:=hch;have hCa:C≠a:=by
  rcases ha with e | e
  ·rw [e];exact n2
  ·exact (n4 y a e).symm
 refine ⟨m,hn.sameBut hsb hCa,fun h' hs'=>?_⟩
 exact ⟨_,H',I''.turned (t':=s''.toks) (fun b o hb e=>(hs'.2 b hb).trans e) n1 n2 (.inr n3) n4 n5,q⟩
end
end L2
namespace T
open PySem PySem.Spec L2
open PyProof.Rows hiding St
abbrev D:=PyData
inductive Rep (K:Fg) (H:Hp):V->D->Prop where
 | non:Rep K H .non .none
 | bl (b:Bool):Rep K H (.bl b) (.bool b)
 | int (i:Int):Rep K H (.int i) (.int i)
 | str (x:Str):Rep K H (.str x) (.str x)
 | lst {p:Addr} {vs:List V} {ds:List D}:SqL K H p vs->vs.length=ds.length->(∀(i:Nat) v d,vs[i]?=some v->ds[i]?=some d->Rep K H v d)->Rep K H (.ref p) (.list ds)
 | tup {p:Addr} {vs:List V} {ds:List D}:SqT K H p vs->vs.length=ds.length->(∀(i:Nat) v d,vs[i]?=some v->ds[i]?=some d->Rep K H v d)->Rep K H (.ref p) (.tuple ds)
theorem fh {K:Fg} {H H':Hp} {a:Addr} {xs:List V} (e:Same H H') (h:SqT K H a xs):SqT K H' a xs:=by
 rcases h with (h | ⟨o,h⟩) | h
 ·exact .inl (.inl (e _ _ h))
 ·exact .inl (.inr ⟨o,e _ _ h⟩)
 ·exact .inr h
theorem Rep.mono {K:Fg} {H H':Hp} {v:V} {d:D} (e:Same H H') (h:Rep K H v d):Rep K H' v d:=by
 induction h with
 | non=>exact .non
 | bl b=>exact .bl b
 | int i=>exact .int i
 | str x=>exact .str x
 | lst hs hl _ ih=>exact .lst (e.seq hs) hl ih
 | tup hs hl _ ih=>exact .tup (fh e hs) hl ih
noncomputable def Reps (K:Fg) (H:Hp) (vs:List V) (ds:List D):Prop:=vs.length=ds.length/\∀(i:Nat) v d,vs[i]?=some v->ds[i]?=some d->Rep K H v d
noncomputable def cN (H:Hp) (O:List Addr):Hp:=fun a=>if a∈O then none else H a
theorem hid_le {H:Hp} {O:List Addr}:Same (cN H O) H:=fun b o h=>by
 unfold cN at h;split at h
 ·cases h
 ·exact h
theorem wF {H:Hp} {O:List Addr} {a:Addr} {o:HO} (h:H a=some o) (n:a∉O):cN H O a=some o:=by
 unfold cN;rw [if_neg n];exact h
theorem sF {H H':Hp} {O O':List Addr} (e:Same H H') (h:∀a∈O',a∈O\/H a=none):Same (cN H O) (cN H' O'):=fun b o q=>by
 unfold cN at q ⊢
 split at q
 ·cases q
 ·rename_i hn
  have hb:b∉O':=fun z=>(h b z).elim hn fun z=>by rw [z] at q;cases q
  rw [if_neg hb];exact e b o q
theorem qb {H:Hp} {O:List Addr} {p:Addr} {o:HO} (h:p∈O):cN (bU H p o) O=cN H O:=by
 funext b
 unfold cN;split
 ·rfl
 ·rename_i hb
  exact d0 fun e=>hb (e▸h)
theorem Hr {H:Hp}:cN H []=H:=by
 funext b;unfold cN;simp
theorem ip {H:Hp} {p:Addr} {o:HO} (h:H p=none):Same H (bU H p o):=fun b u e=>by
 rw [d0 (wZ e h)];exact e
inductive Sh where
 | view | leaf | lst (s:Sh) | tup (ss:List Sh)
noncomputable def Sh.isView:Sh->Bool
 | .view=>true
 | _=>false
inductive Own (K:Fg) (O:List Addr) (H:Hp):Sh->List Addr->V->D->Prop where
 | view {v d}:Rep K H v d->Own K O H .view [] v d
 | leaf {v d}:Rep K (cN H O) v d->Own K O H .leaf [] v d
 | lst {s:Sh} {p:Addr} {vs:List V} {ds:List D} {Fs:List (List Addr)}:s.isView=false->H p=some (.lst vs)->vs.length=ds.length->Fs.length=ds.length->(p::Fs.flatten).Nodup ->
   (∀(i:Nat) v d F,vs[i]?=some v->ds[i]?=some d->Fs[i]?=some F->Own K O H s F v d)->Own K O H (.lst s) (p::Fs.flatten) (.ref p) (.list ds)
 | tup {ss:List Sh} {p:Addr} {vs:List V} {ds:List D} {Fs:List (List Addr)}:(∀s∈ss,s.isView=false)->H p=some (.tup vs)->p∉O->vs.length=ds.length->Fs.length=ds.length->ss.length=ds.length->Fs.flatten.Nodup ->
   (∀(i:Nat) v d F s,vs[i]?=some v->ds[i]?=some d->Fs[i]?=some F->ss[i]?=some s->Own K O H s F v d)->Own K O H (.tup ss) Fs.flatten (.ref p) (.tuple ds)
theorem Own.mono {K:Fg} {O O':List Addr} {H H':Hp} {s:Sh} {G:List Addr} {v:V} {d:D} (h:Own K O H s G v d) (e:Same H H') (hO:∀a∈O',a∈O\/H a=none):Own K O' H' s G v d:=by
 induction h with
 | view r=>exact .view (r.mono e)
 | leaf r=>exact .leaf (r.mono (sF e hO))
 | lst hv hp hl hf nd _ ih=>exact .lst hv (e _ _ hp) hl hf nd fun i v d F h1 h2 h3=>ih i v d F h1 h2 h3
 | tup hv hp hn hl hf hs nd _ ih=>exact .tup hv (e _ _ hp) (fun z=>(hO _ z).elim hn fun z=>by rw [z] at hp;cases hp) hl hf hs nd fun i v d F s h1 h2 h3 h4=>ih i v d F s h1 h2 h3 h4
theorem Own.rep {K:Fg} {O:List Addr} {H:Hp} {s:Sh} {G:List Addr} {v:V} {d:D} (h:Own K O H s G v d):Rep K H v d:=by
 induction h with
 | view r=>exact r
 | leaf r=>exact r.mono hid_le
 | lst hv hp hl hf _ q ih=>
  refine .lst (.of hp) hl fun i v d h1 h2=>?_
  rename_i Fs _;obtain ⟨F,hF⟩:∃F,Fs[i]?=some F:=by
   have:=(List.getElem?_eq_some_iff.mp h2).1
   exact ⟨Fs[i]'(by omega),getElem?_eq_getElem _⟩
  exact ih i v d F h1 h2 hF
 | tup hv hp hn hl hf hs _ q ih=>
  refine .tup (.of hp) hl fun i v d h1 h2=>?_
  rename_i ss _ _ _ Fs _;have hi:=(List.getElem?_eq_some_iff.mp h2).1
  exact ih i v d (Fs[i]'(by omega)) (ss[i]'(by omega)) h1 h2 (getElem?_eq_getElem _) (getElem?_eq_getElem _)
theorem nH {Fs:List (List Addr)} {i:Nat} {F:List Addr} {a:Addr} (h:Fs[i]?=some F) (ha:a∈F):a∈Fs.flatten:=List.mem_flatten.mpr ⟨F,mem_of_getElem? h,ha⟩
theorem Own.freeze {K:Fg} {O O':List Addr} {H:Hp} {s:Sh} {G:List Addr} {v:V} {d:D} (h:Own K O H s G v d) (hs:s.isView=false) (h1:∀a∈O',a∈O) (h2:∀a∈G,a∉O'):Rep K (cN H O') v d:=by
 induction h with
 | view r=>cases hs
 | leaf r=>exact r.mono (sF (Same.refl _) fun a z=>.inl (h1 a z))
 | lst hv hp hl hf _ q ih=>
  refine .lst (.of (wF hp (h2 _ mem_cons_self))) hl fun i v d e1 e2=>?_
  rename_i Fs _;obtain ⟨F,hF⟩:∃F,Fs[i]?=some F:=by
   have:=(List.getElem?_eq_some_iff.mp e2).1
   exact ⟨Fs[i]'(by omega),getElem?_eq_getElem _⟩
  exact ih i v d F e1 e2 hF hv fun a ha=>h2 a (mem_cons_of_mem _ (nH hF ha))
 | tup hv hp hn hl hf hs' _ q ih=>
  refine .tup (.of (wF hp fun z=>hn (h1 _ z))) hl fun i v d e1 e2=>?_
  rename_i ss _ _ _ Fs _;have hi:=(List.getElem?_eq_some_iff.mp e2).1
  have e3:Fs[i]?=some (Fs[i]'(by omega)):=getElem?_eq_getElem _
  exact ih i v d _ (ss[i]'(by omega)) e1 e2 e3 (getElem?_eq_getElem _) (hv _ (getElem_mem _)) fun a ha=>h2 a (nH e3 ha)
theorem Own.mut {K:Fg} {O:List Addr} {H:Hp} {s:Sh} {G:List Addr} {v:V} {d:D} {p:Addr} {o:HO} {xs:List V} (h:Own K O H s G v d) (hs:s.isView=false) (hp:p∈O) (hg:p∉G) (hl:H p=some (.lst xs)):Own K O (bU H p o) s G v d:=by
 induction h with
 | view r=>cases hs
 | leaf r=>refine .leaf ?_;rw [qb hp];exact r
 | lst hv hq hl' hf nd q ih=>
  refine .lst hv ?_ hl' hf nd fun i v d F e1 e2 e3=>ih i v d F e1 e2 e3 hv fun z=>hg (mem_cons_of_mem _ (nH e3 z))
  rw [d0 (fun z=>hg (by rw [<-z];exact mem_cons_self))]
  exact hq
 | tup hv hq hn hl' hf hs' nd q ih=>
  refine .tup hv ?_ hn hl' hf hs' nd fun i v d F s e1 e2 e3 e4=>ih i v d F s e1 e2 e3 e4 (hv _ (mem_of_getElem? e4)) fun z=>hg (nH e3 z)
  rw [d0 (fun z=>by rw [z,hl] at hq;cases hq)]
  exact hq
inductive Sc:V->D->Prop where
 | non:Sc .non .none
 | bl (b:Bool):Sc (.bl b) (.bool b)
 | int (i:Int):Sc (.int i) (.int i)
 | str (x:Str):Sc (.str x) (.str x)
theorem Sc.rep {K:Fg} {H:Hp} {v:V} {d:D} (h:Sc v d):Rep K H v d:=by cases h<;>constructor
noncomputable def bL:D->Bool
 | .list _=>false
 | .tuple _=>false
 | .dict _=>false
 | _=>true
theorem Rep.sc {K:Fg} {H:Hp} {v:V} {d:D} (h:Rep K H v d) (s:bL d=true):Sc v d:=by
 cases h with
 | non=>exact .non
 | bl b=>exact .bl b
 | int i=>exact .int i
 | str x=>exact .str x
 | lst _ _ _=>cases s
 | tup _ _ _=>cases s
structure PV where
 s:Sh
 d:D
abbrev Ev:=List (Option PV)
inductive Out (α:Type) where
 | ok (a:α) (e:Ev)
 | er (c:Str) (e:Ev)
 | no
noncomputable def Out.bind {α β:Type} (x:Out α) (k:α->Ev->Out β):Out β:=match x with
 | .ok a e=>k a e
 | .er c e=>.er c e
 | .no=>.no
structure EnvOk (K:Fg) (He:Hp) (O:List Addr) (Fs:List (List Addr)) (H:Hp) (σ:St) (Γ:Ev):Prop where
 len1:σ.length=Γ.length
 len2:Fs.length=Γ.length
 same:Same He H
 nd:(O++Fs.flatten).Nodup
 inH:∀a∈O++Fs.flatten,H a≠none
 fresh:∀a∈Fs.flatten,He a=none
 slot:∀(i:Nat) (p:PV),Γ[i]?=some (some p)->p.s.isView=false/\∃v F,σ[i]?=some (some v)/\Fs[i]?=some F/\Own K (O++Fs.flatten) H p.s F v p.d
section
variable {K:Fg} {He H H':Hp} {O O' G:List Addr} {Fs:List (List Addr)} {σ:St} {Γ:Ev}
theorem EnvOk.grow (h:EnvOk K He O Fs H σ Γ) (e:Same H H'):EnvOk K He O Fs H' σ Γ:=
 ⟨h.len1,h.len2,h.same.trans e,h.nd,fun a ha z=>h.inH a ha (e.free z),h.fresh,fun i p q=>let ⟨a,v,F,b,c,d⟩:=h.slot i p q;⟨a,v,F,b,c,d.mono e fun _ z=>.inl z⟩⟩
theorem EnvOk.drop (h:EnvOk K He O Fs H σ Γ) (hs:∀a∈O',a∈O) (nd:O'.Nodup):EnvOk K He O' Fs H σ Γ:=by
 obtain ⟨n1,n2,n3⟩:=List.nodup_append.mp h.nd;refine ⟨h.len1,h.len2,h.same,List.nodup_append.mpr ⟨nd,n2,fun a ha b hb=>n3 a (hs a ha) b hb⟩,fun a ha=>h.inH a ?_,h.fresh,fun i p q=>let ⟨a,v,F,b,c,d⟩:=h.slot i p q;⟨a,v,F,b,c,d.mono (Same.refl _) fun a z=>.inl ?_⟩⟩
 ·rcases List.mem_append.mp ha with z | z
  ·exact mem_append_left _ (hs a z)
  ·exact mem_append_right _ z
 ·rcases List.mem_append.mp z with z | z
  ·exact mem_append_left _ (hs a z)
  ·exact mem_append_right _ z
theorem EnvOk.dropL (h:EnvOk K He (G++O) Fs H σ Γ):EnvOk K He O Fs H σ Γ:=h.drop (fun a z=>mem_append_right _ z) (List.nodup_append.mp (List.nodup_append.mp h.nd).1).2.1
theorem EnvOk.hide (h:EnvOk K He O Fs H σ Γ) (e:Same H H') (nd:G.Nodup) (hn:∀a∈G,H a=none) (hi:∀a∈G,H' a≠none):EnvOk K He (G++O) Fs H' σ Γ:=by
 refine ⟨h.len1,h.len2,h.same.trans e,?_,fun a ha=>?_,h.fresh,fun i p q=>let ⟨a,v,F,b,c,d⟩:=h.slot i p q;⟨a,v,F,b,c,d.mono e fun a z=>?_⟩⟩
 ·rw [append_assoc]
  exact List.nodup_append.mpr ⟨nd,h.nd,fun a ha b hb z=>h.inH b hb (by rw [<-z];exact hn a ha)⟩
 ·rw [append_assoc] at ha
  rcases List.mem_append.mp ha with z | z
  ·exact hi a z
  ·exact fun q=>h.inH a z (e.free q)
 ·rw [append_assoc] at z
  rcases List.mem_append.mp z with z | z
  ·exact .inr (hn a z)
  ·exact .inl z
end
structure Aft (K:Fg) (He:Hp) (O:List Addr) (Fs:List (List Addr)) (H:Hp) (σ:St) (Γ':Ev) (p:PV) (v:V) (H':Hp) (G:List Addr) (Fs':List (List Addr)):Prop where
 same:Same H H'
 env:EnvOk K He (G++O) Fs' H' σ Γ'
 new:∀a∈G++Fs'.flatten,a∈Fs.flatten\/H a=none
 own:Own K (G++O++Fs'.flatten) H' p.s G v p.d
abbrev XW:=Str->St->Hp->Prop
abbrev F1:=Ev->Out PV
noncomputable def tE (K:Fg) (W:XW) (f:F1):TE:=fun σ H Q=>∃He O Fs Γ,EnvOk K He O Fs H σ Γ/\match f Γ with
 | .ok p Γ'=>∀v H' G Fs',Aft K He O Fs H σ Γ' p v H' G Fs'->Q v H'
 | .er c Γ'=>∀H' Fs',Same H H'->EnvOk K He O Fs' H' σ Γ'->W c σ H'
 | .no=>False
noncomputable def Wants (K:Fg) (W:XW) (He:Hp) (O:List Addr) (Fs:List (List Addr)) (H:Hp) (σ:St) (Q:VK) (o:Out PV):Prop:=match o with
 | .ok p Γ'=>∀v H' G Fs',Aft K He O Fs H σ Γ' p v H' G Fs'->Q v H'
 | .er c Γ'=>∀H' Fs',Same H H'->EnvOk K He O Fs' H' σ Γ'->W c σ H'
 | .no=>False
section
variable {K:Fg} {W:XW} {He H:Hp} {O:List Addr} {Fs:List (List Addr)} {σ:St} {Γ Γ':Ev} {Q:VK}
theorem Wants.scal {H2:Hp} {O2:List Addr} {Fs2:List (List Addr)} {v:V} {d:D} (h:Wants K W He O Fs H σ Q (.ok ⟨.leaf,d⟩ Γ')) (s:Sc v d) (e:Same H H2) (E:EnvOk K He O2 Fs2 H2 σ Γ')
  (hO:∀a∈O,a∈O2) (nd:O.Nodup) (new:∀a∈Fs2.flatten,a∈Fs.flatten\/H a=none):Q v H2:=
 h v H2 [] Fs2 ⟨e,by rw [nil_append];exact E.drop hO nd,by rw [nil_append];exact new,.leaf s.rep⟩
theorem EnvOk.ndO (E:EnvOk K He O Fs H σ Γ):O.Nodup:=(List.nodup_append.mp E.nd).1
end
noncomputable def aY {β:Type} (f:F1) (k:PV->Ev->Out β):Ev->Out β:=fun Γ=>(f Γ).bind k
section
variable {K:Fg} {W:XW} {σ:St} {H:Hp} {Q:VK} {fa fb:F1}
theorem wC {k:PV->F1} {R:VK} (h:tE K W (aY fa k) σ H Q)
  (hk:∀He O Fs Γ1 p v H1 G Fs1,O.Nodup->Aft K He O Fs H σ Γ1 p v H1 G Fs1->Wants K W He O Fs H σ Q (k p Γ1)->R v H1):tE K W fa σ H R:=by
 obtain ⟨He,O,Fs,Γ,E,h⟩:=h;refine ⟨He,O,Fs,Γ,E,?_⟩
 unfold aY at h
 cases e:fa Γ with
 | ok p Γ1=>
  rw [e] at h;exact fun v H' G Fs' A=>hk He O Fs Γ1 p v H' G Fs' E.ndO A h
 | er c Γ1=>
  rw [e] at h;exact h
 | no=>
  rw [e] at h;exact h
theorem Au {k:PV->PV->F1} {R:V->V->Hp->Prop} (h:tE K W (aY fa fun p=>aY fb fun q=>k p q) σ H Q)
  (hk:∀He O Fs Γ2 p q v u H1 H2 G1 G2 Fs2,O.Nodup->Same H H1->Same H1 H2->EnvOk K He (G2++(G1++O)) Fs2 H2 σ Γ2->(∀a∈G2++(G1++Fs2.flatten),a∈Fs.flatten\/H a=none) ->
   Own K (G2++(G1++O)++Fs2.flatten) H2 p.s G1 v p.d->Own K (G2++(G1++O)++Fs2.flatten) H2 q.s G2 u q.d->Wants K W He O Fs H σ Q (k p q Γ2)->R v u H2) :
  tE K W fa σ H fun v H1=>tE K W fb σ H1 fun u H2=>R v u H2:=by
 refine wC (k:=fun p=>aY fb fun q=>k p q) h fun He O Fs Γ1 p v H1 G1 Fs1 nd A1 h1=>?_
 refine ⟨He,G1++O,Fs1,Γ1,A1.env,?_⟩
 unfold aY at h1
 cases e:fb Γ1 with
 | ok q Γ2=>
  rw [e] at h1;intro u H2 G2 Fs2 A2;have new:∀a∈G2++(G1++Fs2.flatten),a∈Fs.flatten\/H a=none:=fun a ha=>by
   have up:a∈G1++Fs1.flatten->a∈Fs.flatten\/H a=none:=A1.new a
   rcases List.mem_append.mp ha with z | z
   ·rcases A2.new a (mem_append_left _ z) with y | y
    ·exact up (mem_append_right _ y)
    ·exact .inr (A1.same.free y)
   ·rcases List.mem_append.mp z with z | z
    ·exact up (mem_append_left _ z)
    ·rcases A2.new a (mem_append_right _ z) with y | y
     ·exact up (mem_append_right _ y)
     ·exact .inr (A1.same.free y)
  refine hk He O Fs Γ2 p q v u H1 H2 G1 G2 Fs2 nd A1.same A2.same A2.env new (A1.own.mono A2.same fun a ha=>?_) A2.own h1
  rcases List.mem_append.mp ha with z | z
  ·rcases List.mem_append.mp z with z | z
   ·rcases A2.new a (mem_append_left _ z) with y | y
    ·exact .inl (mem_append_right _ y)
    ·exact .inr y
   ·exact .inl (mem_append_left _ z)
  ·rcases A2.new a (mem_append_right _ z) with y | y
   ·exact .inl (mem_append_right _ y)
   ·exact .inr y
 | er c Γ2=>
  rw [e] at h1;intro H2 Fs2 hs E2;exact h1 H2 Fs2 (A1.same.trans hs) E2.dropL
 | no=>
  rw [e] at h1;exact h1
end
section
variable {X:Cx} {e:Expr}
theorem bc {t t':TE} (h:PE X e t) (i:∀σ H Q,t' σ H Q->t σ H Q):PE X e t':=fun pins s σ H Q I q=>h pins s σ H Q I (i σ H Q q)
theorem qw {t t':TT} (h:PT X e t) (i:∀σ H Q,t' σ H Q->t σ H Q):PT X e t':=fun pins s σ H Q I q=>h pins s σ H Q I (i σ H Q q)
theorem GO {t t':TT} (h:PW X e t) (i:∀σ H Q,t' σ H Q->t σ H Q):PW X e t':=fun whole pins s σ H Q I q=>h whole pins s σ H Q I (i σ H Q q)
theorem qy {es:List Expr} {t t':TA} (h:PA X es t) (i:∀σ H Q,t' σ H Q->t σ H Q):PA X es t':=fun pos pins s σ H Q I q=>h pos pins s σ H Q I (i σ H Q q)
theorem dq {st:Stmt} {t t':TS} (h:PS X st t) (i:∀D σ H,t' D σ H->t D σ H):PS X st t':=fun pins s σ H D I q=>h pins s σ H D I (i D σ H q)
theorem G5 {st:List Stmt} {t t':TS} (h:PSs X st t) (i:∀D σ H,t' D σ H->t D σ H):PSs X st t':=fun pins s σ H D I q=>h pins s σ H D I (i D σ H q)
theorem GS {es:List Expr} {t t':TT} (h:PF X es t) (i:∀σ H Q,t' σ H Q->t σ H Q):PF X es t':=fun pins s σ H Q I q=>h pins s σ H Q I (i σ H Q q)
end
theorem Jn {h:Heap}:∀{vs:List V} {its:List Value} {ds:List D},Vals vs its->vs.length=ds.length->(∀(i:Nat) v d,vs[i]?=some v->ds[i]?=some d->∀u,RelV v u->∃as,Reads h u d as)->∃as,ReadsAll h its ds as
 | _,_,[],.nil,_,_=>⟨_,.nil⟩
 | _,_,d::ds,.cons (a:=v) (b:=u) r t,hl,h=>by
  obtain ⟨as,ra⟩:=h 0 v d rfl rfl u r;obtain ⟨bs,rb⟩:=Jn t (by simpa using hl) fun i v d h1 h2=>h (i+1) v d (by simpa using h1) (by simpa using h2)
  exact ⟨_,.cons ra rb⟩
 | _,_,[],.cons _ _,hl,_=>by simp at hl
 | _,_,_::_,.nil,hl,_=>by simp at hl
theorem Rep.reads {X:Cx} {pins:List (Addr×Obj)} {σ:St} {H:Hp} {s:Shared} {x:V} {d:D} (I:Inv X pins σ H s) (r:Rep X.K H x d):∀u,RelV x u->∃as,Reads s.heap u d as:=by
 induction r with
 | non=>rintro u rfl;exact ⟨_,.none⟩
 | bl b=>rintro u rfl;exact ⟨_,.bool b⟩
 | int i=>rintro u ⟨t,rfl⟩;exact ⟨_,.int i t⟩
 | str x=>rintro u ⟨t,rfl⟩;exact ⟨_,.str x t⟩
 | lst hq hl _ ih=>
  rintro u rfl
  obtain ⟨its,rv,⟨o,n,e1,e2,e3,e4⟩,_⟩:=I.list hq;obtain ⟨as,ra⟩:=Jn rv hl ih;exact ⟨_,.list e1 e2 e4 (by simpa using ra)⟩
 | tup hq hl _ ih=>
  rintro u rfl
  obtain ⟨its,rv,⟨o,e1,e2,n,e4⟩,_⟩:=I.tuple hq;obtain ⟨as,ra⟩:=Jn rv hl ih;exact ⟨_,.tuple e1 e2 e4 (by simpa using ra)⟩
theorem qD {α:Type} {F G:List α}:∀{Fs:List (List α)} {i:Nat},Fs[i]?=some F->(F++(Fs.set i G).flatten).Perm (G++Fs.flatten)
 | [],_,h=>by simp at h
 | A::r,0,h=>by
  simp at h
  subst h;simp only [List.set_cons_zero,flatten_cons]
  rw [<-append_assoc,<-append_assoc];exact List.Perm.append_right _ perm_append_comm
 | A::r,i+1,h=>by
  have ih:=qD (G:=G) (Fs:=r) (i:=i) (by simpa using h)
  simp only [List.set_cons_succ,flatten_cons]
  calc (F++(A++(r.set i G).flatten)).Perm (A++(F++(r.set i G).flatten)):=by
        rw [<-append_assoc,<-append_assoc];exact List.Perm.append_right _ perm_append_comm
    _ |>.Perm (A++(G++r.flatten)):=List.Perm.append_left _ ih
    _ |>.Perm (G++(A++r.flatten)):=by
        rw [<-append_assoc,<-append_assoc];exact List.Perm.append_right _ perm_append_comm
section
variable {K:Fg} {He H:Hp} {O G:List Addr} {Fs:List (List Addr)} {σ:St} {Γ:Ev}
theorem EnvOk.lt (E:EnvOk K He O Fs H σ Γ) {i:Nat} (h:i<Γ.length):∃F,Fs[i]?=some F:=⟨Fs[i]'(by rw [E.len2];exact h),getElem?_eq_getElem _⟩
theorem EnvOk.move {i:Nat} {p:PV} (E:EnvOk K He O Fs H σ Γ) (h:Γ[i]?=some (some p)) :
  p.s.isView=false/\∃v F,σ[i]?=some (some v)/\EnvOk K He (F++O) (Fs.set i []) H σ (Γ.set i none)/\Own K (F++O++(Fs.set i []).flatten) H p.s F v p.d/\(∀a∈F++(Fs.set i []).flatten,a∈Fs.flatten):=by
 obtain ⟨hv,v,F,h1,h2,h3⟩:=E.slot i p h;have pm:(F++(Fs.set i []).flatten).Perm Fs.flatten:=by simpa using qD (G:=[]) h2
 have pm2:(F++O++(Fs.set i []).flatten).Perm (O++Fs.flatten):=by
  rw [append_assoc]
  calc (F++(O++(Fs.set i []).flatten)).Perm (O++(F++(Fs.set i []).flatten)):=by
        rw [<-append_assoc,<-append_assoc];exact List.Perm.append_right _ perm_append_comm
    _ |>.Perm (O++Fs.flatten):=List.Perm.append_left _ pm
 refine ⟨hv,v,F,h1,⟨by rw [length_set];exact E.len1,by rw [length_set,length_set];exact E.len2,E.same,pm2.nodup_iff.mpr E.nd,fun a ha=>E.inH a (pm2.mem_iff.mp ha),fun a ha=>E.fresh a (pm.mem_iff.mp (mem_append_right _ ha)),fun j q hq=>?_⟩,h3.mono (Same.refl _) fun a ha=>.inl (pm2.mem_iff.mp ha),fun a ha=>pm.mem_iff.mp ha⟩
 by_cases hj:j=i
 ·subst hj
  rw [List.getElem?_set] at hq;split at hq
  ·split at hq<;>cases hq
  ·rename_i z
   exact absurd rfl z
 ·rw [getElem?_set_ne (Ne.symm hj)] at hq
  obtain ⟨w1,v',F',e1,e2,e3⟩:=E.slot j q hq;exact ⟨w1,v',F',e1,by rw [getElem?_set_ne (Ne.symm hj)];exact e2,e3.mono (Same.refl _) fun a ha=>.inl (pm2.mem_iff.mp ha)⟩
theorem EnvOk.put {i:Nat} {p:PV} {v:V} (E:EnvOk K He (G++O) Fs H σ Γ) (ho:Own K (G++O++Fs.flatten) H p.s G v p.d) (hv:p.s.isView=false) (hn:∀a∈G,He a=none) (hi:i<Γ.length) :
  EnvOk K He O (Fs.set i G) H (σ.set i (some v)) (Γ.set i (some p)):=by
 obtain ⟨F,hF⟩:=E.lt hi;have pm:=qD (G:=G) hF
 have nd:=E.nd
 rw [append_assoc] at nd;have sub:∀a∈O++(Fs.set i G).flatten,a∈G++O++Fs.flatten:=fun a ha=>by
  rw [append_assoc];rcases List.mem_append.mp ha with z | z
  ·exact mem_append_right _ (mem_append_left _ z)
  ·rcases List.mem_append.mp (pm.mem_iff.mp (mem_append_right _ z)) with y | y
   ·exact mem_append_left _ y
   ·exact mem_append_right _ (mem_append_right _ y)
 refine ⟨by rw [length_set,length_set];exact E.len1,by rw [length_set,length_set];exact E.len2,E.same,?_,fun a ha=>E.inH a (sub a ha),fun a ha=>?_,fun j q hq=>?_⟩
 ·have p1:(O++(F++(Fs.set i G).flatten)).Perm (G++(O++Fs.flatten)):=by
   calc (O++(F++(Fs.set i G).flatten)).Perm (O++(G++Fs.flatten)):=List.Perm.append_left _ pm
     _ |>.Perm (G++(O++Fs.flatten)):=by
       rw [<-append_assoc,<-append_assoc];exact List.Perm.append_right _ perm_append_comm
  have p2:=p1.nodup_iff.mpr nd
  refine p2.sublist ?_
  exact List.Sublist.append_left (List.sublist_append_right _ _) _
 ·rcases List.mem_append.mp (pm.mem_iff.mp (mem_append_right _ ha)) with y | y
  ·exact hn a y
  ·exact E.fresh a y
 ·by_cases hj:j=i
  ·subst hj
   rw [getElem?_set_self hi] at hq
   cases hq;refine ⟨hv,v,G,?_,?_,ho.mono (Same.refl _) fun a ha=>.inl (sub a ha)⟩
   ·rw [getElem?_set_self (by rw [E.len1];exact hi)]
   ·rw [getElem?_set_self (by rw [E.len2];exact hi)]
  ·rw [getElem?_set_ne (Ne.symm hj)] at hq
   obtain ⟨w1,v',F',e1,e2,e3⟩:=E.slot j q hq;exact ⟨w1,v',F',by rw [getElem?_set_ne (Ne.symm hj)];exact e1,by rw [getElem?_set_ne (Ne.symm hj)];exact e2,e3.mono (Same.refl _) fun a ha=>.inl (sub a ha)⟩
theorem Aft.freshG {Γ':Ev} {p:PV} {v:V} {H':Hp} {Fs':List (List Addr)} (E:EnvOk K He O Fs H σ Γ) (A:Aft K He O Fs H σ Γ' p v H' G Fs'):∀a∈G,He a=none:=fun a ha=>by
 rcases A.new a (mem_append_left _ ha) with z | z
 ·exact E.fresh a z
 ·exact E.same.free z
end
noncomputable def af (i:Nat):F1:=fun Γ=>match Γ[i]? with
 | some (some p)=>(match p.s with
  | .leaf=>.ok ⟨.leaf,p.d⟩ Γ
  | _=>.ok ⟨.view,p.d⟩ Γ)
 | _=>.no
noncomputable def cP (i:Nat):F1:=fun Γ=>match Γ[i]? with
 | some (some p)=>.ok p (Γ.set i none)
 | _=>.no
noncomputable def eK (d:D):F1:=fun Γ=>.ok ⟨.leaf,d⟩ Γ
section
variable {X:Cx} {W:XW} {i:Nat} {e:Expr} {pos:Pos}
theorem A9 {K:Fg} {σ:St} {H:Hp} {Q:VK} (h:tE K W (af i) σ H Q):b6 i σ H Q:=by
 obtain ⟨He,O,Fs,Γ,E,h⟩:=h;unfold af at h
 cases e:Γ[i]? with
 | none=>rw [e] at h;exact h.elim
 | some o=>
  rw [e] at h
  cases o with
  | none=>exact h.elim
  | some p=>
   obtain ⟨hv,v,F,h1,h2,h3⟩:=E.slot i p e;obtain ⟨s,d⟩:=p;have new:∀a∈[]++Fs.flatten,a∈Fs.flatten\/H a=none:=fun a ha=>.inl (by simpa using ha)
   cases s with
   | leaf=>
    cases h3 with
    | leaf r=>exact ⟨v,h1,h v H [] Fs ⟨Same.refl _,by simpa using E,new,.leaf r⟩⟩
   | view=>cases hv
   | lst s=>exact ⟨v,h1,h v H [] Fs ⟨Same.refl _,by simpa using E,new,.view h3.rep⟩⟩
   | tup ss=>exact ⟨v,h1,h v H [] Fs ⟨Same.refl _,by simpa using E,new,.view h3.rep⟩⟩
theorem xx {K:Fg} {σ:St} {H:Hp} {Q:VK} (h:tE K W (cP i) σ H Q):b6 i σ H Q:=by
 obtain ⟨He,O,Fs,Γ,E,h⟩:=h;unfold cP at h
 cases e:Γ[i]? with
 | none=>rw [e] at h;exact h.elim
 | some o=>
  rw [e] at h
  cases o with
  | none=>exact h.elim
  | some p=>
   obtain ⟨hv,v,F,h1,E',o',sub⟩:=E.move e;exact ⟨v,h1,h v H F (Fs.set i []) ⟨Same.refl _,E',fun a ha=>.inl (sub a ha),o'⟩⟩
theorem vZ (h:PE X e (b6 i)):PE X e (tE X.K W (af i)):=bc h fun _ _ _=>A9
theorem yK (h:PE X e (b6 i)):PE X e (tE X.K W (cP i)):=bc h fun _ _ _=>xx
theorem uq {K:Fg} {σ:St} {H:Hp} {Q:VK} {v:V} {d:D} (hs:∀H,Rep K H v d) (h:tE K W (eK d) σ H Q):Q v H:=by
 obtain ⟨He,O,Fs,Γ,E,h⟩:=h;exact h v H [] Fs ⟨Same.refl _,by simpa using E,fun a ha=>.inl (by simpa using ha),.leaf (hs _)⟩
theorem de_str {j:Str} {k pos}:PE X (.Constant (.str j) k pos) (tE X.K W (eK (.str j))):=bc BJ fun _ _ _=>uq fun _=>.str j
theorem yL {x:Str} {v:V} {u:Value} {d:D} (hg:Gl X x) (hm:X.mg x=some u) (r:RelV v u) (hr:∀H,Rep X.K H v d) (hd:(x==("__debug__":Str))=false:=by decide):PE X (.Name x pos) (tE X.K W (eK d)):=
 bc (pM hg hm r hd) fun _ _ _=>uq hr
end
noncomputable def ay (g:D->D->Option D) (fa fb:F1):F1:=aY fa fun p=>aY fb fun q=>fun Γ=>match g p.d q.d with
 | some d=>.ok ⟨.leaf,d⟩ Γ
 | none=>.no
noncomputable def GOp (K:Fg) (r:R2) (g:D->D->Option D):Prop:=∀x y H Q a b d,Rep K H x a->Rep K H y b->g a b=some d->(∀v,Sc v d->Q v H)->r x y H Q
section
variable {K:Fg} {W:XW} {σ:St} {H:Hp} {Q:VK} {fa fb:F1} {r:R2} {g:D->D->Option D}
theorem ix (hg:GOp K r g) (h:tE K W (ay g fa fb) σ H Q):xg r (tE K W fa) (tE K W fb) σ H Q:=by
 refine Au h ?_
 intro He O Fs Γ2 p q v u H1 H2 G1 G2 Fs2 nd s1 s2 E new o1 o2 w
 cases e:g p.d q.d with
 | none=>rw [e] at w;exact w.elim
 | some d=>
  rw [e] at w;exact hg v u H2 Q p.d q.d d o1.rep o2.rep e fun z s=>w.scal s (s1.trans s2) E (fun a ha=>mem_append_right _ (mem_append_right _ ha)) nd fun a ha=>new a (mem_append_right _ (mem_append_right _ ha))
end
theorem GOp.or {K:Fg} {r r':R2} {g g':D->D->Option D} (h:GOp K r g) (h':GOp K r' g'):GOp K (fun x y H Q=>r x y H Q\/r' x y H Q) (fun a b=>(g a b).or (g' a b)):=by
 intro x y H Q a b d ra rb e k;have e:(g a b).or (g' a b)=some d:=e
 cases e1:g a b with
 | some z=>rw [e1] at e;cases e;exact .inl (h x y H Q a b _ ra rb e1 k)
 | none=>rw [e1] at e;exact .inr (h' x y H Q a b d ra rb (by simpa using e) k)
noncomputable def gI (C:Int->Int->Bool) (f:Int->Int->D):D->D->Option D
 | .int i,.int j=>if C i j then some (f i j) else none
 | _,_=>none
theorem qc {K:Fg} {C:Int->Int->Prop} {C':Int->Int->Bool} {g:Int->Int->V} {f:Int->Int->D} (hC:∀i j,C' i j=true->C i j) (hs:∀i j,Sc (g i j) (f i j)):GOp K (rI C g) (gI C' f):=by
 intro x y H Q a b d ra rb e k
 cases ra<;>cases rb<;>simp only [gI] at e<;>try cases e
 rename_i i j;split at e
 ·rename_i c
  cases e;exact ⟨i,j,rfl,rfl,hC i j c,k _ (hs i j)⟩
 ·cases e
noncomputable def Ab (f:Int->Int->D):D->D->Option D
 | .int i,.int j=>some (f i j)
 | _,_=>none
theorem Dq {K:Fg} {g:Int->Int->V} {f:Int->Int->D} (hs:∀i j,Sc (g i j) (f i j)):GOp K (pG g) (Ab f):=by
 intro x y H Q a b d ra rb e k
 cases ra<;>cases rb<;>simp only [Ab] at e<;>try cases e
 rename_i i j;exact ⟨i,j,rfl,rfl,k _ (hs i j)⟩
noncomputable abbrev gSub:=Ab fun i j=>.int (i-j)
noncomputable abbrev aW:=Ab fun i j=>.int (i+j)
noncomputable def sr (i j:Int):Bool:=(decide (-(2 ^ 64)<i)&&decide (i<2 ^ 64))||(decide (-(2 ^ 64)<j)&&decide (j<2 ^ 64))
noncomputable abbrev jM:=gI sr fun i j=>.int (i*j)
noncomputable def yV (_ j:Int):Bool:=decide (0<j)&&decide (j<1073741824)
noncomputable abbrev hV:=gI yV fun i j=>.int (i / j)
noncomputable def yU (_ j:Int):Bool:=decide (0<j)
noncomputable abbrev bN:=gI yU fun i j=>.int (i % j)
noncomputable def yS (i j:Int):Bool:=decide (0<=j)&&decide (j<=1000000)&&decide (i.natAbs<2 ^ 64)
noncomputable abbrev jL:=gI yS fun i j=>.int (i ^ j.toNat)
mutual
noncomputable def Sh.same:Sh->Sh->Bool
 | .view,.view=>true
 | .leaf,.leaf=>true
 | .lst a,.lst b=>Sh.same a b
 | .tup as,.tup bs=>Sh.sameL as bs
 | _,_=>false
noncomputable def Sh.sameL:List Sh->List Sh->Bool
 | [],[]=>true
 | a::as,b::bs=>Sh.same a b&&Sh.sameL as bs
 | _,_=>false
end
mutual
theorem Sh.same_eq:∀{a b:Sh},Sh.same a b=true->a=b
 | .view,.view,_=>rfl
 | .leaf,.leaf,_=>rfl
 | .lst a,.lst b,h=>by rw [Sh.same_eq (a:=a) (b:=b) (by simpa [Sh.same] using h)]
 | .tup as,.tup bs,h=>by rw [Sh.sameL_eq (as:=as) (bs:=bs) (by simpa [Sh.same] using h)]
 | .view,.leaf,h=>by simp [Sh.same] at h
 | .view,.lst _,h=>by simp [Sh.same] at h
 | .view,.tup _,h=>by simp [Sh.same] at h
 | .leaf,.view,h=>by simp [Sh.same] at h
 | .leaf,.lst _,h=>by simp [Sh.same] at h
 | .leaf,.tup _,h=>by simp [Sh.same] at h
 | .lst _,.view,h=>by simp [Sh.same] at h
 | .lst _,.leaf,h=>by simp [Sh.same] at h
 | .lst _,.tup _,h=>by simp [Sh.same] at h
 | .tup _,.view,h=>by simp [Sh.same] at h
 | .tup _,.leaf,h=>by simp [Sh.same] at h
 | .tup _,.lst _,h=>by simp [Sh.same] at h
theorem Sh.sameL_eq:∀{as bs:List Sh},Sh.sameL as bs=true->as=bs
 | [],[],_=>rfl
 | a::as,b::bs,h=>by
  have h:Sh.same a b=true/\Sh.sameL as bs=true:=by simpa [Sh.sameL] using h
  rw [Sh.same_eq h.1,Sh.sameL_eq h.2]
 | [],_::_,h=>by simp [Sh.sameL] at h
 | _::_,[],h=>by simp [Sh.sameL] at h
end
noncomputable def coer (s:Sh) (p:PV):Bool:=match s with
 | .leaf=>!p.s.isView||bL p.d
 | .view=>false
 | s=>Sh.same s p.s
noncomputable def bw (s:Sh) (G:List Addr):List Addr:=match s with
 | .leaf=>[]
 | _=>G
theorem ki {s:Sh} {G:List Addr} {a:Addr} (h:a∈bw s G):a∈G:=by
 unfold bw at h;split at h
 ·simp at h
 ·exact h
theorem Own.coer {K:Fg} {O O':List Addr} {H:Hp} {s:Sh} {p:PV} {G:List Addr} {v:V} (h:Own K O H p.s G v p.d) (c:coer s p=true) (h1:∀a∈O',a∈O) (h2:∀a∈G,a∈O'->a∈bw s G):Own K O' H s (bw s G) v p.d:=by
 cases s with
 | view=>simp [T.coer] at c
 | leaf=>
  show Own K O' H .leaf [] v p.d
  have c:(!p.s.isView||bL p.d)=true:=c
  cases hv:p.s.isView with
  | false=>exact .leaf (h.freeze hv h1 fun a ha z=>by simpa [bw] using h2 a ha z)
  | true=>
   rw [hv] at c;exact .leaf (h.rep.sc (by simpa using c)).rep
 | lst s=>
  have e:Sh.lst s=p.s:=Sh.same_eq c
  show Own K O' H (.lst s) G v p.d
  rw [e];exact h.mono (Same.refl _) fun a ha=>.inl (h1 a ha)
 | tup ss=>
  have e:Sh.tup ss=p.s:=Sh.same_eq c
  show Own K O' H (.tup ss) G v p.d
  rw [e];exact h.mono (Same.refl _) fun a ha=>.inl (h1 a ha)
open PySem.SeqAt in
noncomputable def aZ:D->D->Option D:=fun a b=>if shaped a&&shaped b then some (.bool (PyData.eqv a b)) else none
open PySem.SeqAt in
noncomputable def qf:D->D->Option D:=fun a b=>if shaped a&&shaped b then some (.bool (!PyData.eqv a b)) else none
open PySem.SeqAt in
noncomputable def qV (K:Fg) (neg:Bool):R2:=fun x y H Q=>∃a b,Rep K H x a/\Rep K H y b/\shaped a=true/\shaped b=true/\Q (.bl (if neg then !PyData.eqv a b else PyData.eqv a b)) H
section
variable {X:Cx}
theorem B7 (hu:X.A.units+64<cLine):OpR X (compareOp .Eq) (qV X.K false):=by
 intro pins s σ H x y v u Q I rx ry h;obtain ⟨a,b,ra,rb,sa,sb,q⟩:=h;obtain ⟨as,r1⟩:=ra.reads I v rx;obtain ⟨bs,r2⟩:=rb.reads I u ry;exact SeqAt.compareEq_shaped r1 r2 sa sb hu ⟨.bl _,H,I,rfl,q⟩
theorem BZ (hu:X.A.units+64<cLine):OpR X (compareOp .NotEq) (qV X.K true):=by
 intro pins s σ H x y v u Q I rx ry h;obtain ⟨a,b,ra,rb,sa,sb,q⟩:=h;obtain ⟨as,r1⟩:=ra.reads I v rx;obtain ⟨bs,r2⟩:=rb.reads I u ry;exact SeqAt.compareNe_shaped r1 r2 sa sb hu ⟨.bl _,H,I,rfl,q⟩
end
theorem CF {K:Fg}:GOp K (qV K false) aZ:=by
 intro x y H Q a b d ra rb e k;unfold aZ at e;split at e
 ·rename_i c
  cases e;simp only [Bool.and_eq_true] at c
  exact ⟨a,b,ra,rb,c.1,c.2,k _ (.bl _)⟩
 ·cases e
theorem CB {K:Fg}:GOp K (qV K true) qf:=by
 intro x y H Q a b d ra rb e k;unfold qf at e;split at e
 ·rename_i c
  cases e;simp only [Bool.and_eq_true] at c
  exact ⟨a,b,ra,rb,c.1,c.2,k _ (.bl _)⟩
 ·cases e
noncomputable def CL:D->D->Option D
 | .str i,.str j=>some (.bool (decide (i.cps.toList<j.cps.toList)))
 | _,_=>none
noncomputable abbrev Kn:=Ab fun i j=>.bool (decide (i<j))
noncomputable abbrev iV:D->D->Option D:=fun a b=>(Kn a b).or (CL a b)
noncomputable abbrev CM:=Ab fun i j=>.bool (decide (i<=j))
noncomputable abbrev jz:=Ab fun i j=>.bool (decide (j<i))
noncomputable abbrev Mi:=Ab fun i j=>.bool (decide (j<=i))
theorem yq {K:Fg}:GOp K (fun x y H Q=>∃i j,x=.str i/\y=.str j/\Q (.bl (decide (i.cps.toList<j.cps.toList))) H) CL:=by
 intro x y H Q a b d ra rb e k
 cases ra<;>cases rb<;>simp only [CL] at e<;>try cases e
 rename_i i j;exact ⟨i,j,rfl,rfl,k _ (.bl _)⟩
theorem CC {K:Fg}:GOp K (fun x y H Q=>pG (fun i j=>.bl (decide (i<j))) x y H Q\/∃i j,x=.str i/\y=.str j/\Q (.bl (decide (i.cps.toList<j.cps.toList))) H) iV:=
 (Dq fun _ _=>.bl _).or yq
open PySem.SeqAt in
noncomputable def dS (neg:Bool):D->D->Option D
 | a,.list xs=>if shaped a&&shaped (.list xs) then some (.bool (if neg then !xs.any fun y=>PyData.eqv y a else xs.any fun y=>PyData.eqv y a)) else none
 | a,.tuple xs=>if shaped a&&shaped (.tuple xs) then some (.bool (if neg then !xs.any fun y=>PyData.eqv y a else xs.any fun y=>PyData.eqv y a)) else none
 | _,_=>none
noncomputable def uz (K:Fg) (neg:Bool):R2:=fun x y H Q=>∃a b d,Rep K H x a/\Rep K H y b/\dS neg a b=some (.bool d)/\Q (.bl d) H
theorem vx {K:Fg} {neg:Bool}:GOp K (uz K neg) (dS neg):=by
 intro x y H Q a b d ra rb e k;have:∃c,d=.bool c:=by
  cases b<;>simp only [dS] at e<;>(try cases e)<;>(split at e<;>cases e<;>exact ⟨_,rfl⟩)
 obtain ⟨c,rfl⟩:=this;exact ⟨a,b,c,ra,rb,e,k _ (.bl c)⟩
theorem HG {d:D} {xs:List D} (h:SeqAt.shaped d=true) (e:d=.list xs\/d=.tuple xs):PyData.canLayAll0 xs=true/\PyData.depthAll xs+1<=64:=by
 have h1:=SeqAt.canLay_of_shaped h
 have h2:=SeqAt.depth_of_shaped h
 rcases e with e | e<;>subst e<;>exact ⟨by simpa [PyData.canLay0] using h1,by simpa [PyData.depth] using h2⟩
section
variable {X:Cx}
theorem B6 (hu:X.A.units+64<cLine):OpR X (compareOp .In) (uz X.K false):=by
 intro pins s σ H x y v u Q I rx ry h;obtain ⟨a,b,d,ra,rb,e,q⟩:=h;obtain ⟨as,r1⟩:=ra.reads I v rx;obtain ⟨bs,r2⟩:=rb.reads I u ry
 cases b<;>simp only [dS] at e<;>try cases e
 all_goals
  split at e
  ·rename_i c
   simp only [Bool.and_eq_true] at c
   simp only [Option.some.injEq,PyData.bool.injEq] at e
   subst e;first
    | (obtain ⟨p1,p2⟩:=HG c.2 (.inl rfl)
       exact SeqAt.in_list_reads r2 r1 p1 (SeqAt.canLay_of_shaped c.1) (Nat.lt_of_le_of_lt (by have:=Nat.min_le_left (PyData.depthAll ‹_›) a.depth;omega) hu) ⟨.bl _,H,I,rfl,q⟩)
    | (obtain ⟨p1,p2⟩:=HG c.2 (.inr rfl)
       exact SeqAt.in_tuple_reads r2 r1 p1 (SeqAt.canLay_of_shaped c.1) (Nat.lt_of_le_of_lt (by have:=Nat.min_le_left (PyData.depthAll ‹_›) a.depth;omega) hu) ⟨.bl _,H,I,rfl,q⟩)
  ·cases e
theorem rj (hu:X.A.units+64<cLine):OpR X (compareOp .NotIn) (uz X.K true):=by
 intro pins s σ H x y v u Q I rx ry h;obtain ⟨a,b,d,ra,rb,e,q⟩:=h;obtain ⟨as,r1⟩:=ra.reads I v rx;obtain ⟨bs,r2⟩:=rb.reads I u ry
 cases b<;>simp only [dS] at e<;>try cases e
 all_goals
  split at e
  ·rename_i c
   simp only [Bool.and_eq_true] at c
   simp only [Option.some.injEq,PyData.bool.injEq] at e
   subst e;first
    | (obtain ⟨p1,p2⟩:=HG c.2 (.inl rfl)
       exact SeqAt.notIn_list_reads r2 r1 p1 (SeqAt.canLay_of_shaped c.1) (Nat.lt_of_le_of_lt (by have:=Nat.min_le_left (PyData.depthAll ‹_›) a.depth;omega) hu) ⟨.bl _,H,I,rfl,q⟩)
    | (obtain ⟨p1,p2⟩:=HG c.2 (.inr rfl)
       exact SeqAt.notIn_tuple_reads r2 r1 p1 (SeqAt.canLay_of_shaped c.1) (Nat.lt_of_le_of_lt (by have:=Nat.min_le_left (PyData.depthAll ‹_›) a.depth;omega) hu) ⟨.bl _,H,I,rfl,q⟩)
  ·cases e
end
noncomputable def WantsB (K:Fg) (W:XW) (He:Hp) (O:List Addr) (Fs:List (List Addr)) (H:Hp) (σ:St) (Q:Bool->Hp->Prop) (o:Out Bool):Prop:=match o with
 | .ok b Γ'=>∀H' Fs',Same H H'->EnvOk K He O Fs' H' σ Γ'->(∀a∈Fs'.flatten,a∈Fs.flatten\/H a=none)->Q b H'
 | .er c Γ'=>∀H' Fs',Same H H'->EnvOk K He O Fs' H' σ Γ'->W c σ H'
 | .no=>False
abbrev FB:=Ev->Out Bool
noncomputable def tT (K:Fg) (W:XW) (f:FB):TT:=fun σ H Q=>∃He O Fs Γ,EnvOk K He O Fs H σ Γ/\WantsB K W He O Fs H σ Q (f Γ)
section
variable {K:Fg} {W:XW} {He H H1:Hp} {O:List Addr} {Fs Fs1:List (List Addr)} {σ:St} {Γ Γ':Ev} {Q:VK} {QB:Bool->Hp->Prop}
theorem Wants.after {o:Out PV} (h:Wants K W He O Fs H σ Q o) (s:Same H H1) (n:∀a∈Fs1.flatten,a∈Fs.flatten\/H a=none):Wants K W He O Fs1 H1 σ Q o:=by
 cases o with
 | ok p Γ'=>exact fun v H' G Fs' A=>h v H' G Fs' ⟨s.trans A.same,A.env,fun a ha=>(A.new a ha).elim (n a) fun z=>.inr (s.free z),A.own⟩
 | er c Γ'=>exact fun H' Fs' e E=>h H' Fs' (s.trans e) E
 | no=>exact h
theorem WantsB.after {o:Out Bool} (h:WantsB K W He O Fs H σ QB o) (s:Same H H1) (n:∀a∈Fs1.flatten,a∈Fs.flatten\/H a=none):WantsB K W He O Fs1 H1 σ QB o:=by
 cases o with
 | ok p Γ'=>exact fun H' Fs' e E n'=>h H' Fs' (s.trans e) E fun a ha=>(n' a ha).elim (n a) fun z=>.inr (s.free z)
 | er c Γ'=>exact fun H' Fs' e E=>h H' Fs' (s.trans e) E
 | no=>exact h
theorem Aft.go {p:PV} {v:V} {G:List Addr} (A:Aft K He O Fs H σ Γ' p v H1 G Fs1):EnvOk K He O Fs1 H1 σ Γ':=A.env.dropL
theorem Aft.newF {p:PV} {v:V} {G:List Addr} (A:Aft K He O Fs H σ Γ' p v H1 G Fs1):∀a∈Fs1.flatten,a∈Fs.flatten\/H a=none:=fun a ha=>A.new a (mem_append_right _ ha)
end
section
variable {K:Fg} {W:XW} {σ:St} {H:Hp} {Q:VK} {QB:Bool->Hp->Prop} {fa fb fc:F1} {ga gb:FB}
noncomputable def aO (g:D->Option Bool) (f:F1):FB:=fun Γ=>(f Γ).bind fun p Γ'=>match g p.d with
 | some b=>.ok b Γ'
 | none=>.no
theorem ph {g:D->Option Bool} {R:VK} (h:tT K W (aO g fa) σ H QB) (hR:∀v d b H1,Rep K H1 v d->g d=some b->QB b H1->R v H1):tE K W fa σ H R:=by
 obtain ⟨He,O,Fs,Γ,E,h⟩:=h;refine ⟨He,O,Fs,Γ,E,?_⟩
 unfold aO at h
 cases e:fa Γ with
 | ok p Γ'=>
  rw [e] at h;intro v H' G Fs' A
  have h:WantsB K W He O Fs H σ QB (match g p.d with | some b=>.ok b Γ' | none=>.no):=h
  cases e2:g p.d with
  | some b=>
   rw [e2] at h;exact hR v p.d b H' A.own.rep e2 (h H' Fs' A.same A.go A.newF)
  | none=>rw [e2] at h;exact h.elim
 | er c Γ'=>rw [e] at h;exact h
 | no=>rw [e] at h;exact h
noncomputable def ao:D->Option Bool
 | .bool b=>some b
 | _=>none
theorem pC {t:TE} (hi:∀Q,tE K W fa σ H Q->t σ H Q) (h:tT K W (aO ao fa) σ H QB):tK t σ H QB:=by
 refine hi _ (ph h fun v d b H1 r e q=>?_)
 cases r<;>simp only [ao] at e<;>try cases e
 exact ⟨_,rfl,q⟩
noncomputable def bY:D->Option Bool
 | .none=>some false
 | .bool b=>some b
 | .int i=>some (i != 0)
 | .str x=>if x.length<=sizeLine then some ((x.length:Int) != 0) else none
 | .list xs=>some (!xs.isEmpty)
 | .tuple xs=>some (!xs.isEmpty)
 | .dict _=>none
theorem Bb (h:tT K W (aO bY fa) σ H QB):tE K W fa σ H fun x H'=>∃k,Df K x H' k/\QB k H':=by
 refine ph h fun v d b H1 r e q=>?_
 cases r with
 | non=>cases e;exact ⟨_,rfl,q⟩
 | bl c=>cases e;exact ⟨_,rfl,q⟩
 | int i=>cases e;exact ⟨_,rfl,q⟩
 | str x=>
  simp only [bY] at e
  split at e
  ·rename_i z;cases e;exact ⟨_,⟨z,rfl⟩,q⟩
  ·cases e
 | @lst p vs ds hq hl _=>
  cases e;exact ⟨_,.inl ⟨vs,hq,by cases vs<;>cases ds<;>simp_all⟩,q⟩
 | @tup p vs ds hq hl _=>
  cases e;exact ⟨_,.inr (.inl ⟨vs,hq,by cases vs<;>cases ds<;>simp_all⟩),q⟩
noncomputable def GI (a b:FB):FB:=fun Γ=>(a Γ).bind fun c Γ'=>if c then b Γ' else .ok false Γ'
noncomputable def eN (a b:FB):FB:=fun Γ=>(a Γ).bind fun c Γ'=>if c then .ok true Γ' else b Γ'
noncomputable def cU (a:FB):FB:=fun Γ=>(a Γ).bind fun c Γ'=>.ok (!c) Γ'
theorem tL {k:Bool->Ev->Out Bool} {R:Bool->Hp->Prop} (h:tT K W (fun Γ=>(ga Γ).bind k) σ H QB)
  (hk:∀(He:Hp) (O:List Addr) Γ1 b H1 Fs1,Same H H1->EnvOk K He O Fs1 H1 σ Γ1->WantsB K W He O Fs1 H1 σ QB (k b Γ1)->R b H1):tT K W ga σ H R:=by
 obtain ⟨He,O,Fs,Γ,E,h⟩:=h;have h:WantsB K W He O Fs H σ QB ((ga Γ).bind k):=h
 refine ⟨He,O,Fs,Γ,E,?_⟩
 cases e:ga Γ with
 | ok b Γ1=>rw [e] at h;exact fun H' Fs' s E' n=>hk He O Γ1 b H' Fs' s E' (WantsB.after (o:=k b Γ1) h s n)
 | er c Γ1=>rw [e] at h;exact h
 | no=>rw [e] at h;exact h
theorem WantsB.now {He:Hp} {O:List Addr} {Fs:List (List Addr)} {Γ:Ev} {b:Bool} (h:WantsB K W He O Fs H σ QB (.ok b Γ)) (E:EnvOk K He O Fs H σ Γ):QB b H:=h H Fs (Same.refl _) E fun _ z=>.inl z
theorem Bp (h:tT K W (eN ga gb) σ H QB):KS (tT K W ga) (tT K W gb) σ H QB:=by
 refine tL h fun He O Γ1 b H1 Fs1 s E w=>?_
 cases b with
 | false=>exact mQ ⟨He,O,Fs1,Γ1,E,w⟩
 | true=>exact mP (WantsB.now w E)
theorem xE (h:tT K W (cU ga) σ H QB):EF (tT K W ga) σ H QB:=tL h fun He O Γ1 b H1 Fs1 s E w=>WantsB.now w E
noncomputable def jo (fa fb:F1):F1:=aY fa fun p Γ=>match p.d with
 | .bool true=>fb Γ
 | .bool false=>.ok ⟨.leaf,.bool false⟩ Γ
 | _=>.no
noncomputable def yD (fa fb:F1):F1:=aY fa fun p Γ=>match p.d with
 | .bool true=>.ok ⟨.leaf,.bool true⟩ Γ
 | .bool false=>fb Γ
 | _=>.no
noncomputable def rO (fa:F1):F1:=aY fa fun p Γ=>match p.d with
 | .bool b=>.ok ⟨.leaf,.bool (!b)⟩ Γ
 | _=>.no
theorem Br (h:tE K W (jo fa fb) σ H Q):zA (tE K W fa) (tE K W fb) σ H Q:=by
 refine wC h fun He O Fs Γ1 p v H1 G Fs1 nd A w=>?_
 have r:=A.own.rep
 obtain ⟨s,d⟩:=p
 cases r with
 | bl b=>
  cases b with
  | true=>exact ⟨true,rfl,mP ⟨He,O,Fs1,Γ1,A.go,Wants.after w A.same A.newF⟩⟩
  | false=>exact ⟨false,rfl,mQ (Wants.scal w (.bl false) A.same A.env (fun a ha=>mem_append_right _ ha) nd A.newF)⟩
 | _=>exact w.elim
theorem ET (h:tE K W (yD fa fb) σ H Q):ED (tE K W fa) (tE K W fb) σ H Q:=by
 refine wC h fun He O Fs Γ1 p v H1 G Fs1 nd A w=>?_
 have r:=A.own.rep
 obtain ⟨s,d⟩:=p
 cases r with
 | bl b=>
  cases b with
  | false=>exact ⟨false,rfl,mQ ⟨He,O,Fs1,Γ1,A.go,Wants.after w A.same A.newF⟩⟩
  | true=>exact ⟨true,rfl,mP (Wants.scal w (.bl true) A.same A.env (fun a ha=>mem_append_right _ ha) nd A.newF)⟩
 | _=>exact w.elim
theorem Bf (h:tE K W (rO fa) σ H Q):zx (tE K W fa) σ H Q:=by
 refine wC h fun He O Fs Γ1 p v H1 G Fs1 nd A w=>?_
 have r:=A.own.rep
 obtain ⟨s,d⟩:=p
 cases r with
 | bl b=>exact ⟨b,rfl,Wants.scal w (.bl _) A.same A.env (fun a ha=>mem_append_right _ ha) nd A.newF⟩
 | _=>exact w.elim
noncomputable def nJ (c:FB) (fa fb:F1):F1:=fun Γ=>(c Γ).bind fun b Γ'=>if b then fa Γ' else fb Γ'
theorem EU (h:tE K W (nJ ga fa fb) σ H Q):KW (tT K W ga) (tE K W fa) (tE K W fb) σ H Q:=by
 obtain ⟨He,O,Fs,Γ,E,h⟩:=h;refine ⟨He,O,Fs,Γ,E,?_⟩
 unfold nJ at h
 cases e:ga Γ with
 | ok b Γ1=>
  rw [e] at h;intro H' Fs' s E' n
  have h':=Wants.after (o:=if b then fa Γ1 else fb Γ1) h s n
  cases b with
  | true=>exact mP ⟨He,O,Fs',Γ1,E',h'⟩
  | false=>exact mQ ⟨He,O,Fs',Γ1,E',h'⟩
 | er c Γ1=>rw [e] at h;exact h
 | no=>rw [e] at h;exact h
noncomputable def dn (g g':D->D->Option D) (fa fb fc:F1):F1:=aY fa fun p=>aY fb fun q=>fun Γ=>match g p.d q.d with
 | some (.bool true)=>if bL q.d then (fc Γ).bind fun z Γ'=>(match g' q.d z.d with | some d=>.ok ⟨.leaf,d⟩ Γ' | none=>.no) else .no
 | some (.bool false)=>.ok ⟨.leaf,.bool false⟩ Γ
 | _=>.no
theorem mj {r r':R2} {g g':D->D->Option D} (hg:GOp K r g) (hg':GOp K r' g') (h:tE K W (dn g g' fa fb fc) σ H Q):nP r r' (tE K W fa) (tE K W fb) (tE K W fc) σ H Q:=by
 refine Au h ?_
 intro He O Fs Γ2 p q v u H1 H2 G1 G2 Fs2 nd s1 s2 E new o1 o2 w;have sub:∀a∈O,a∈G2++(G1++O):=fun a ha=>mem_append_right _ (mem_append_right _ ha)
 have newF:∀a∈Fs2.flatten,a∈Fs.flatten\/H a=none:=fun a ha=>new a (mem_append_right _ (mem_append_right _ ha))
 cases e:g p.d q.d with
 | none=>rw [e] at w;exact w.elim
 | some d=>
  rw [e] at w;refine hg v u H2 _ p.d q.d d o1.rep o2.rep e fun z s=>?_
  cases s with
  | bl b=>
   cases b with
   | false=>exact ⟨false,rfl,mQ (Wants.scal w (.bl false) (s1.trans s2) E sub nd newF)⟩
   | true=>
    refine ⟨true,rfl,mP ?_⟩
    have w:Wants K W He O Fs H σ Q (if bL q.d then (fc Γ2).bind fun z Γ'=>(match g' q.d z.d with | some d=>.ok ⟨.leaf,d⟩ Γ' | none=>.no) else .no):=w
    cases hs:bL q.d with
    | false=>rw [hs] at w;exact w.elim
    | true=>
     rw [hs] at w;have w:Wants K W He O Fs H σ Q ((fc Γ2).bind fun z Γ'=>(match g' q.d z.d with | some d=>.ok ⟨.leaf,d⟩ Γ' | none=>.no)):=w
     have su:=o2.rep.sc hs
     refine ⟨He,O,Fs2,Γ2,E.drop sub nd,?_⟩
     cases e3:fc Γ2 with
     | ok p3 Γ3=>
      rw [e3] at w;intro v3 H3 G3 Fs3 A3;have w:Wants K W He O Fs H σ Q (match g' q.d p3.d with | some d=>.ok ⟨.leaf,d⟩ Γ3 | none=>.no):=w
      cases e4:g' q.d p3.d with
      | none=>rw [e4] at w;exact w.elim
      | some d4=>
       rw [e4] at w;exact hg' u v3 H3 Q q.d p3.d d4 su.rep A3.own.rep e4 fun z s=>Wants.scal w s ((s1.trans s2).trans A3.same) A3.env (fun a ha=>mem_append_right _ ha) nd fun a ha=>(A3.new a (mem_append_right _ ha)).elim (newF a) fun z=>.inr ((s1.trans s2).free z)
     | er c Γ3=>
      rw [e3] at w;exact fun H' Fs' s E'=>w H' Fs' ((s1.trans s2).trans s) E'
     | no=>rw [e3] at w;exact w
  | non=>exact w.elim
  | int i=>exact w.elim
  | str x=>exact w.elim
end
structure AftL (K:Fg) (He:Hp) (O:List Addr) (Fs:List (List Addr)) (H:Hp) (σ:St) (Γ':Ev) (ps:List PV) (vs:List V) (H':Hp) (Gs Fs':List (List Addr)):Prop where
 same:Same H H'
 len1:vs.length=ps.length
 len2:Gs.length=ps.length
 env:EnvOk K He (Gs.flatten++O) Fs' H' σ Γ'
 new:∀a∈Gs.flatten++Fs'.flatten,a∈Fs.flatten\/H a=none
 own:∀(i:Nat) v p G,vs[i]?=some v->ps[i]?=some p->Gs[i]?=some G->Own K (Gs.flatten++O++Fs'.flatten) H' p.s G v p.d
abbrev FL:=Ev->Out (List PV)
noncomputable def wx (K:Fg) (W:XW) (He:Hp) (O:List Addr) (Fs:List (List Addr)) (H:Hp) (σ:St) (Q:List V->Hp->Prop) (o:Out (List PV)):Prop:=match o with
 | .ok ps Γ'=>∀vs H' Gs Fs',AftL K He O Fs H σ Γ' ps vs H' Gs Fs'->Q vs H'
 | .er c Γ'=>∀H' Fs',Same H H'->EnvOk K He O Fs' H' σ Γ'->W c σ H'
 | .no=>False
noncomputable def tA (K:Fg) (W:XW) (f:FL):TA:=fun σ H Q=>∃He O Fs Γ,EnvOk K He O Fs H σ Γ/\wx K W He O Fs H σ Q (f Γ)
noncomputable def ah:FL:=fun Γ=>.ok [] Γ
noncomputable def ae (fa:F1) (fl:FL):FL:=fun Γ=>(fa Γ).bind fun p Γ1=>(fl Γ1).bind fun ps Γ2=>.ok (p::ps) Γ2
section
variable {K:Fg} {W:XW} {σ:St} {H:Hp} {Q:VK} {QL:List V->Hp->Prop} {fa fb:F1} {fl:FL}
theorem Bg (h:tA K W ah σ H QL):lO σ H QL:=by
 obtain ⟨He,O,Fs,Γ,E,h⟩:=h;exact h [] H [] Fs ⟨Same.refl _,rfl,rfl,by simpa using E,fun a ha=>.inl (by simpa using ha),fun i v p G e=>by simp at e⟩
theorem pL {α:Type} (A B C:List α):(A++(B++C)).Perm (B++(A++C)):=by
 rw [<-append_assoc,<-append_assoc];exact List.Perm.append_right _ perm_append_comm
theorem EnvOk.perm {He H:Hp} {O O':List Addr} {Fs:List (List Addr)} {Γ:Ev} (E:EnvOk K He O Fs H σ Γ) (p:O'.Perm O):EnvOk K He O' Fs H σ Γ:=E.drop (fun a ha=>p.mem_iff.mp ha) (p.nodup_iff.mpr E.ndO)
theorem Own.perm {H:Hp} {O O':List Addr} {s:Sh} {G:List Addr} {v:V} {d:D} (h:Own K O H s G v d) (p:∀a∈O',a∈O):Own K O' H s G v d:=h.mono (Same.refl _) fun a ha=>.inl (p a ha)
theorem pE (h:tA K W (ae fa fl) σ H QL):dW (tE K W fa) (tA K W fl) σ H QL:=by
 obtain ⟨He,O,Fs,Γ,E,h⟩:=h;refine ⟨He,O,Fs,Γ,E,?_⟩
 unfold ae at h
 cases e:fa Γ with
 | ok p Γ1=>
  rw [e] at h;intro v H1 G1 Fs1 A1;refine ⟨He,G1++O,Fs1,Γ1,A1.env,?_⟩
  have h:wx K W He O Fs H σ QL ((fl Γ1).bind fun ps Γ2=>.ok (p::ps) Γ2):=h
  cases e2:fl Γ1 with
  | ok ps Γ2=>
   rw [e2] at h;intro vs H2 Gs Fs2 A2;have pm:((G1::Gs).flatten++O).Perm (Gs.flatten++(G1++O)):=by
    rw [flatten_cons,append_assoc];exact pL _ _ _
   refine h (v::vs) H2 (G1::Gs) Fs2 ⟨A1.same.trans A2.same,by simp [A2.len1],by simp [A2.len2],A2.env.perm pm,fun a ha=>?_,fun i u q G h1 h2 h3=>?_⟩
   ·rcases List.mem_append.mp ha with z | z
    ·rw [flatten_cons] at z
     rcases List.mem_append.mp z with z | z
     ·exact A1.new a (mem_append_left _ z)
     ·exact (A2.new a (mem_append_left _ z)).elim (fun y=>A1.new a (mem_append_right _ y)) fun y=>.inr (A1.same.free y)
    ·exact (A2.new a (mem_append_right _ z)).elim (fun y=>A1.new a (mem_append_right _ y)) fun y=>.inr (A1.same.free y)
   ·have sub:∀a∈(G1::Gs).flatten++O++Fs2.flatten,a∈Gs.flatten++(G1++O)++Fs2.flatten:=fun a ha=>by
     rcases List.mem_append.mp ha with z | z
     ·exact mem_append_left _ (pm.mem_iff.mp z)
     ·exact mem_append_right _ z
    cases i with
    | zero=>
     simp at h1 h2 h3
     subst h1 h2 h3;refine (A1.own.mono A2.same fun a ha=>?_).perm sub
     rcases List.mem_append.mp ha with z | z
     ·rcases List.mem_append.mp z with z | z
      ·exact (A2.new a (mem_append_left _ z)).elim (fun y=>.inl (mem_append_right _ y)) .inr
      ·exact .inl (mem_append_left _ z)
     ·exact (A2.new a (mem_append_right _ z)).elim (fun y=>.inl (mem_append_right _ y)) .inr
    | succ i=>
     simp at h1 h2 h3
     exact (A2.own i u q G h1 h2 h3).perm sub
  | er c Γ2=>
   rw [e2] at h;exact fun H2 Fs2 s E2=>h H2 Fs2 (A1.same.trans s) E2.dropL
  | no=>rw [e2] at h;exact h
 | er c Γ1=>rw [e] at h;exact h
 | no=>rw [e] at h;exact h
theorem AftL.reps {He:Hp} {O:List Addr} {Fs Gs Fs':List (List Addr)} {Γ':Ev} {ps:List PV} {vs:List V} {H':Hp} (A:AftL K He O Fs H σ Γ' ps vs H' Gs Fs'):Reps K H' vs (ps.map (·.d)):=by
 refine ⟨by rw [length_map];exact A.len1,fun i v d h1 h2=>?_⟩
 rw [getElem?_map] at h2
 cases e:ps[i]? with
 | none=>rw [e] at h2;cases h2
 | some p=>
  rw [e] at h2
  cases h2;have hi:=(List.getElem?_eq_some_iff.mp e).1
  exact (A.own i v p (Gs[i]'(by rw [A.len2];exact hi)) h1 e (getElem?_eq_getElem _)).rep
noncomputable def bW (g:List D->Option D) (fl:FL):F1:=fun Γ=>(fl Γ).bind fun ps Γ'=>match g (ps.map (·.d)) with
 | some d=>.ok ⟨.leaf,d⟩ Γ'
 | none=>.no
noncomputable def GCall (K:Fg) (r:List V->Hp->VK->Prop) (g:List D->Option D):Prop:=∀vs H Q ds d,Reps K H vs ds->g ds=some d->(∀v,Sc v d->Q v H)->r vs H Q
theorem zH {r:List V->Hp->VK->Prop} {g:List D->Option D} (hg:GCall K r g) (h:tE K W (bW g fl) σ H Q):zz r (tA K W fl) σ H Q:=by
 obtain ⟨He,O,Fs,Γ,E,h⟩:=h;refine ⟨He,O,Fs,Γ,E,?_⟩
 unfold bW at h
 cases e:fl Γ with
 | ok ps Γ'=>
  rw [e] at h;intro vs H' Gs Fs' A
  have h:Wants K W He O Fs H σ Q (match g (ps.map (·.d)) with | some d=>.ok ⟨.leaf,d⟩ Γ' | none=>.no):=h
  cases e2:g (ps.map (·.d)) with
  | none=>rw [e2] at h;exact h.elim
  | some d=>
   rw [e2] at h;exact hg vs H' Q _ d A.reps e2 fun v s=>Wants.scal h s A.same A.env (fun a ha=>mem_append_right _ ha) E.ndO fun a ha=>A.new a (mem_append_right _ ha)
 | er c Γ'=>rw [e] at h;exact h
 | no=>rw [e] at h;exact h
theorem GCall.or {r r':List V->Hp->VK->Prop} {g g':List D->Option D} (h:GCall K r g) (h':GCall K r' g'):GCall K (fun xs H Q=>r xs H Q\/r' xs H Q) (fun ds=>(g ds).or (g' ds)):=by
 intro vs H Q ds d rs e k;have e:(g ds).or (g' ds)=some d:=e
 cases e1:g ds with
 | some z=>rw [e1] at e;cases e;exact .inl (h vs H Q ds _ rs e1 k)
 | none=>rw [e1] at e;exact .inr (h' vs H Q ds d rs (by simpa using e) k)
theorem Reps.one {vs:List V} {d:D} (h:Reps K H vs [d]):∃v,vs=[v]/\Rep K H v d:=by
 obtain ⟨hl,h⟩:=h;match vs,hl with
 | [v],_=>exact ⟨v,rfl,h 0 v d rfl rfl⟩
theorem Reps.two {vs:List V} {d e:D} (h:Reps K H vs [d,e]):∃v u,vs=[v,u]/\Rep K H v d/\Rep K H u e:=by
 obtain ⟨hl,h⟩:=h;match vs,hl with
 | [v,u],_=>exact ⟨v,u,rfl,h 0 v d rfl rfl,h 1 u e rfl rfl⟩
end
noncomputable def zZ:List D->Option D
 | [.list xs]=>some (.int xs.length)
 | [.tuple xs]=>some (.int xs.length)
 | _=>none
noncomputable def vz:List D->Option D
 | [.str x]=>if x.length<=sizeLine then some (.int x.length) else none
 | _=>none
noncomputable abbrev bt:List D->Option D:=fun ds=>(zZ ds).or (vz ds)
theorem CG {K:Fg}:GCall K (fun xs H Q=>(∃p ys,xs=[.ref p]/\(SqL K H p ys\/SqT K H p ys)/\Q (.int ys.length) H)\/∃z,xs=[.str z]/\z.length<=sizeLine/\Q (.int z.length) H) bt:=by
 refine GCall.or (g:=zZ) (g':=vz) (r:=fun xs H Q=>∃p ys,xs=[.ref p]/\(SqL K H p ys\/SqT K H p ys)/\Q (.int ys.length) H) (r':=fun xs H Q=>∃z,xs=[.str z]/\z.length<=sizeLine/\Q (.int z.length) H) ?_ ?_
 ·intro vs H Q ds d rs e k
  match ds,e with
  | [.list xs],e=>
   obtain ⟨v,rfl,r⟩:=rs.one
   cases e
   cases r with
   | @lst p us _ hq hl _=>exact ⟨p,us,rfl,.inl hq,by rw [hl];exact k _ (.int _)⟩
  | [.tuple xs],e=>
   obtain ⟨v,rfl,r⟩:=rs.one
   cases e
   cases r with
   | @tup p us _ hq hl _=>exact ⟨p,us,rfl,.inr hq,by rw [hl];exact k _ (.int _)⟩
 ·intro vs H Q ds d rs e k
  match ds,e with
  | [.str x],e=>
   obtain ⟨v,rfl,r⟩:=rs.one;simp only [vz] at e
   split at e
   ·rename_i z
    cases e
    cases r;exact ⟨x,rfl,z,k _ (.int _)⟩
   ·cases e
noncomputable def ox:List D->Option D
 | [.int i]=>some (.int i)
 | [.bool b]=>some (.int (if b then 1 else 0))
 | _=>none
theorem CH {K:Fg}:GCall K (fun xs H Q=>(∃i,xs=[.int i]/\Q (.int i) H)\/∃k,xs=[.bl k]/\Q (.int (if k then 1 else 0)) H) ox:=by
 intro vs H Q ds d rs e k;match ds,e with
 | [.int i],e=>
  obtain ⟨v,rfl,r⟩:=rs.one
  cases e;cases r;exact .inl ⟨i,rfl,k _ (.int _)⟩
 | [.bool b],e=>
  obtain ⟨v,rfl,r⟩:=rs.one
  cases e;cases r;exact .inr ⟨b,rfl,k _ (.int _)⟩
noncomputable def Mh:List D->Option D
 | [.int i,.int j]=>some (.int (if j>i then j else i))
 | _=>none
noncomputable def cJ:List D->Option (List Bool)
 | []=>some []
 | .bool b::r=>(cJ r).map (b :: ·)
 | _=>none
theorem ju:∀{ds:List D} {bs:List Bool},cJ ds=some bs->ds=bs.map PyData.bool
 | [],bs,h=>by cases h;rfl
 | .bool b::r,bs,h=>by
  simp only [cJ] at h
  cases e:cJ r with
  | none=>rw [e] at h;cases h
  | some cs=>rw [e] at h;cases h;rw [ju e];rfl
 | .none::_,_,h=>by cases h
 | .int _::_,_,h=>by cases h
 | .str _::_,_,h=>by cases h
 | .list _::_,_,h=>by cases h
 | .tuple _::_,_,h=>by cases h
 | .dict _::_,_,h=>by cases h
noncomputable def gJ (any:Bool):List D->Option D
 | [.list xs]=>(cJ xs).map fun bs=>.bool (if any then bs.any id else bs.all id)
 | _=>none
theorem jh {K:Fg} {H:Hp}:∀{vs:List V} {bs:List Bool},Reps K H vs (bs.map PyData.bool)->vs=bs.map V.bl
 | [],[],_=>rfl
 | v::vs,b::bs,⟨hl,h⟩=>by
  have r:=h 0 v (.bool b) rfl rfl
  cases r;rw [jh (bs:=bs) (vs:=vs) ⟨by simpa using hl,fun i v d h1 h2=>h (i+1) v d (by simpa using h1) (by simpa using h2)⟩]
  rfl
 | [],_::_,⟨hl,_⟩=>by simp at hl
 | _::_,[],⟨hl,_⟩=>by simp at hl
noncomputable def Fc (K:Fg) (any:Bool):List V->Hp->VK->Prop:=fun xs H Q=>∃(p:Addr) (bs:List Bool),xs=[.ref p]/\SqL K H p (bs.map V.bl)/\Q (.bl (if any then bs.any id else bs.all id)) H
theorem CI {K:Fg} {any:Bool}:GCall K (Fc K any) (gJ any):=by
 intro vs H Q ds d rs e k;match ds,e with
 | [.list xs],e=>
  obtain ⟨v,rfl,r⟩:=rs.one;simp only [gJ] at e
  cases eb:cJ xs with
  | none=>rw [eb] at e;cases e
  | some bs=>
   rw [eb] at e
   cases e;have:=ju eb
   subst this
   cases r with
   | @lst p us _ hq hl hr=>
    have:=jh ⟨hl,hr⟩
    subst this;exact ⟨p,bs,rfl,hq,k _ (.bl _)⟩
section
variable {X:Cx}
theorem sv {bs:List Bool}:∀{its:List Value},Vals (bs.map V.bl) its->its=bs.map Value.bool:=by
 induction bs with
 | nil=>intro its h;cases h;rfl
 | cons b bs ih=>
  intro its h
  cases h with
  | cons r t=>
   cases (show _=Value.bool b from r)
   rw [ih t];rfl
theorem qU (bs:List Bool):(List.range bs.length).all (fun i=>bs.getD i false)=bs.all id:=by
 rw [Bool.eq_iff_iff,all_eq_true,all_eq_true];constructor
 ·intro h b hb
  obtain ⟨i,hi,e⟩:=List.mem_iff_getElem.mp hb;have:=h i (List.mem_range.mpr hi)
  rw [getD_eq_getElem?_getD,getElem?_eq_getElem hi] at this;rw [<-e];simpa using this
 ·intro h i hi
  have hi:=List.mem_range.mp hi
  rw [getD_eq_getElem?_getD,getElem?_eq_getElem hi];exact h _ (getElem_mem hi)
theorem lM {prog:Program} {w:World} {A:Around} {bs:List Bool}:TruthOf prog w A (fun i v=>(bs.map Value.bool).toArray[i]?=some v) (fun i=>bs.getD i false):=by
 intro i v s Q E hP hQ;simp only [List.getElem?_toArray,getElem?_map] at hP
 cases e:bs[i]? with
 | none=>rw [e] at hP;cases hP
 | some b=>
  rw [e] at hP
  cases hP;have hQ:Q (bs.getD i false) s:=hQ
  rw [getD_eq_getElem?_getD,e] at hQ;exact wpAny_truthy_bool hQ
theorem sq (hc:X.calm=true):CallR X (.builtin "all") (Fc X.K false):=by
 intro pins s σ H vs us Q I rv h;obtain ⟨p,bs,rfl,hq,q⟩:=h;obtain ⟨u,rfl,ru⟩:=vals1 rv
 cases ru;obtain ⟨its,rv,pl,hz⟩:=I.list hq;have:=sv rv
 subst this;have hd:=I.ok.hd hc
 refine call_all_walk (wpAny_pyIter_list pl.isList ?_)
 have ne:p≠s.heap.objs.size:=by
  obtain ⟨o,n,e,_⟩:=pl;exact Nat.ne_of_lt (Heap.lt_size e)
 refine ⟨s.heap.objs.size,_,_,_,_,_,fun i=>bs.getD i false,rfl,Walks.list (prog:=X.prog) (w:=X.w) (A:=X.A.in1) hd s.heap.objs.size p ne (bs.map Value.bool).toArray,⟨⟨_,Heap.get?_push_size _ rfl,rfl,rfl⟩,pl.isList.at fun o e=>Heap.get?_push_of_some _ e⟩,lM,fun h' tk hk=>?_⟩
 refine ⟨.bl _,H,I.kept (h':=h') (t':=tk) fun b o e=>hk b o (fun z=>?_) (Heap.get?_push_of_some _ e),rfl,?_⟩
 ·have z:b=s.heap.objs.size:=by simpa using z
  exact absurd (Heap.lt_size e) (by rw [z];exact Nat.lt_irrefl _)
 ·rw [size_toArray,length_map,qU]
  exact q
end
noncomputable def cm (s:Sh) (j:Nat) (d:D):Option Sh:=match s with
 | .leaf=>some .leaf
 | .view=>some (if bL d then .leaf else .view)
 | .lst s=>some s
 | .tup ss=>ss[j]?
noncomputable def av (fa fb:F1):F1:=aY fa fun p=>aY fb fun q=>fun Γ=>match q.d with
 | .int i=>(match p.d with
  | .list ds=>(match gH ds.length i with
   | some j=>(match ds[j]? with
    | some d=>(match cm p.s j d with
     | some s=>.ok ⟨s,d⟩ Γ
     | none=>.no)
    | none=>.no)
   | none=>.no)
  | .tuple ds=>(match gH ds.length i with
   | some j=>(match ds[j]? with
    | some d=>(match cm p.s j d with
     | some s=>.ok ⟨s,d⟩ Γ
     | none=>.no)
    | none=>.no)
   | none=>.no)
  | .str z=>if z.length<=sizeLine then (match fY z.cps.toList i with
   | some c=>.ok ⟨.leaf,.str ⟨#[c]⟩⟩ Γ
   | none=>.no) else .no
  | _=>.no)
 | _=>.no
theorem Own.item {K:Fg} {O:List Addr} {H:Hp} {s s':Sh} {G:List Addr} {p:Addr} {ds:List D} {j:Nat} {d:D} (h:Own K O H s G (.ref p) (.list ds)) (hd:ds[j]?=some d) (hs:cm s j d=some s') :
  ∃vs v G',SqL K H p vs/\vs.length=ds.length/\vs[j]?=some v/\(∀a∈G',a∈G)/\G'.Nodup/\Own K O H s' G' v d:=by
 have hi:=(List.getElem?_eq_some_iff.mp hd).1
 cases h with
 | view r=>
  cases r with
  | @lst _ vs _ hq hl hr=>
   have hv:vs[j]?=some (vs[j]'(by omega)):=getElem?_eq_getElem _
   have r':=hr j _ d hv hd
   simp only [cm,Option.some.injEq] at hs
   cases e:bL d with
   | true=>
    rw [e] at hs
    cases hs;exact ⟨vs,_,[],hq,hl,hv,(fun _ z=>nomatch z),nodup_nil,.leaf (r'.sc e).rep⟩
   | false=>
    rw [e] at hs
    cases hs;exact ⟨vs,_,[],hq,hl,hv,(fun _ z=>nomatch z),nodup_nil,.view r'⟩
 | leaf r=>
  cases r with
  | @lst _ vs _ hq hl hr=>
   have hv:vs[j]?=some (vs[j]'(by omega)):=getElem?_eq_getElem _
   cases hs;exact ⟨vs,_,[],hid_le.seq hq,hl,hv,(fun _ z=>nomatch z),nodup_nil,.leaf (hr j _ d hv hd)⟩
 | @lst s₀ _ vs _ Fs hv hp hl hf nd hr=>
  have hv':vs[j]?=some (vs[j]'(by omega)):=getElem?_eq_getElem _
  have hF:Fs[j]?=some (Fs[j]'(by omega)):=getElem?_eq_getElem _
  cases hs;refine ⟨vs,_,_,.of hp,hl,hv',fun a ha=>mem_cons_of_mem _ (nH hF ha),?_,hr j _ d _ hv' hd hF⟩
  exact ((List.nodup_cons.mp nd).2).sublist (List.sublist_flatten_of_mem (mem_of_getElem? hF))
theorem Own.itemT {K:Fg} {O:List Addr} {H:Hp} {s s':Sh} {G:List Addr} {p:Addr} {ds:List D} {j:Nat} {d:D} (h:Own K O H s G (.ref p) (.tuple ds)) (hd:ds[j]?=some d) (hs:cm s j d=some s') :
  ∃vs v G',SqT K H p vs/\vs.length=ds.length/\vs[j]?=some v/\(∀a∈G',a∈G)/\G'.Nodup/\Own K O H s' G' v d:=by
 have hi:=(List.getElem?_eq_some_iff.mp hd).1
 cases h with
 | view r=>
  cases r with
  | @tup _ vs _ hq hl hr=>
   have hv:vs[j]?=some (vs[j]'(by omega)):=getElem?_eq_getElem _
   have r':=hr j _ d hv hd
   simp only [cm,Option.some.injEq] at hs
   cases e:bL d with
   | true=>
    rw [e] at hs
    cases hs;exact ⟨vs,_,[],hq,hl,hv,(fun _ z=>nomatch z),nodup_nil,.leaf (r'.sc e).rep⟩
   | false=>
    rw [e] at hs
    cases hs;exact ⟨vs,_,[],hq,hl,hv,(fun _ z=>nomatch z),nodup_nil,.view r'⟩
 | leaf r=>
  cases r with
  | @tup _ vs _ hq hl hr=>
   have hv:vs[j]?=some (vs[j]'(by omega)):=getElem?_eq_getElem _
   cases hs;exact ⟨vs,_,[],fh hid_le hq,hl,hv,(fun _ z=>nomatch z),nodup_nil,.leaf (hr j _ d hv hd)⟩
 | @tup ss _ vs _ Fs hv hp hn hl hf hl2 nd hr=>
  have hv':vs[j]?=some (vs[j]'(by omega)):=getElem?_eq_getElem _
  have hF:Fs[j]?=some (Fs[j]'(by omega)):=getElem?_eq_getElem _
  have hs:ss[j]?=some s':=hs
  refine ⟨vs,_,_,.of hp,hl,hv',fun a ha=>nH hF ha,?_,hr j _ d _ _ hv' hd hF hs⟩
  exact nd.sublist (List.sublist_flatten_of_mem (mem_of_getElem? hF))
theorem Wants.part {K:Fg} {W:XW} {σ:St} {He H H2:Hp} {O G G':List Addr} {Fs Fs2:List (List Addr)} {Γ':Ev} {Q:VK} {s:Sh} {v:V} {d:D} (h:Wants K W He O Fs H σ Q (.ok ⟨s,d⟩ Γ')) (e:Same H H2)
  (E:EnvOk K He (G++O) Fs2 H2 σ Γ') (sub:∀a∈G',a∈G) (nd:G'.Nodup) (new:∀a∈G++Fs2.flatten,a∈Fs.flatten\/H a=none) (o:Own K (G++O++Fs2.flatten) H2 s G' v d):Q v H2:=by
 have sub2:∀a∈G'++O,a∈G++O:=fun a ha=>by
  rcases List.mem_append.mp ha with z | z
  ·exact mem_append_left _ (sub a z)
  ·exact mem_append_right _ z
 obtain ⟨n1,n2,n3⟩:=List.nodup_append.mp E.ndO;refine h v H2 G' Fs2 ⟨e,E.drop sub2 (List.nodup_append.mpr ⟨nd,n2,fun a ha b hb=>n3 a (sub a ha) b hb⟩),fun a ha=>new a ?_,o.perm fun a ha=>?_⟩
 ·rcases List.mem_append.mp ha with z | z
  ·exact mem_append_left _ (sub a z)
  ·exact mem_append_right _ z
 ·rcases List.mem_append.mp ha with z | z
  ·exact mem_append_left _ (sub2 a z)
  ·exact mem_append_right _ z
theorem wo {α β:Type} {xs:List α} {ys:List β} {i:Int} {j:Nat} {v:α} (hl:xs.length=ys.length) (h:gH ys.length i=some j) (hv:xs[j]?=some v):fY xs i=some v:=by
 unfold fY;rw [hl,h];exact hv
section
variable {K:Fg} {W:XW} {σ:St} {H:Hp} {Q:VK} {fa fb:F1}
theorem Bk (h:tE K W (av fa fb) σ H Q):xg (Ln K) (tE K W fa) (tE K W fb) σ H Q:=by
 refine Au h ?_
 intro He O Fs Γ2 p q v u H1 H2 G1 G2 Fs2 nd s1 s2 E new o1 o2 w;obtain ⟨ps,pd⟩:=p;obtain ⟨qs,qd⟩:=q;have ri:=o2.rep
 cases qd<;>try exact w.elim
 rename_i i
 cases ri;have E':EnvOk K He ((G2++G1)++O) Fs2 H2 σ Γ2:=by rw [append_assoc];exact E
 have new':∀a∈(G2++G1)++Fs2.flatten,a∈Fs.flatten\/H a=none:=fun a ha=>new a (by rw [<-append_assoc];exact ha)
 have o1':Own K ((G2++G1)++O++Fs2.flatten) H2 ps G1 v pd:=o1.perm fun a ha=>by rw [append_assoc G2] at ha;exact ha
 have rp:=o1.rep
 cases pd with
 | list ds=>
  obtain ⟨p0,rfl⟩:∃p0,v=.ref p0:=by cases rp;exact ⟨_,rfl⟩
  have w:Wants K W He O Fs H σ Q (match gH ds.length i with | some j=>(match ds[j]? with | some d=>(match cm ps j d with | some s=>.ok ⟨s,d⟩ Γ2 | none=>.no) | none=>.no) | none=>.no):=w
  cases e1:gH ds.length i with
  | none=>rw [e1] at w;exact w.elim
  | some j=>
   rw [e1] at w;have w:Wants K W He O Fs H σ Q (match ds[j]? with | some d=>(match cm ps j d with | some s=>.ok ⟨s,d⟩ Γ2 | none=>.no) | none=>.no):=w
   cases e2:ds[j]? with
   | none=>rw [e2] at w;exact w.elim
   | some d=>
    rw [e2] at w;have w:Wants K W He O Fs H σ Q (match cm ps j d with | some s=>.ok ⟨s,d⟩ Γ2 | none=>.no):=w
    cases e3:cm ps j d with
    | none=>rw [e3] at w;exact w.elim
    | some s=>
     rw [e3] at w;obtain ⟨vs,v',G',h1,h2,h3,h4,h5,h6⟩:=o1'.item e2 e3
     exact .inl ⟨p0,vs,i,v',rfl,rfl,h1,wo h2 e1 h3,Wants.part w (s1.trans s2) E' (fun a ha=>mem_append_right _ (h4 a ha)) h5 new' h6⟩
 | tuple ds=>
  obtain ⟨p0,rfl⟩:∃p0,v=.ref p0:=by cases rp;exact ⟨_,rfl⟩
  have w:Wants K W He O Fs H σ Q (match gH ds.length i with | some j=>(match ds[j]? with | some d=>(match cm ps j d with | some s=>.ok ⟨s,d⟩ Γ2 | none=>.no) | none=>.no) | none=>.no):=w
  cases e1:gH ds.length i with
  | none=>rw [e1] at w;exact w.elim
  | some j=>
   rw [e1] at w;have w:Wants K W He O Fs H σ Q (match ds[j]? with | some d=>(match cm ps j d with | some s=>.ok ⟨s,d⟩ Γ2 | none=>.no) | none=>.no):=w
   cases e2:ds[j]? with
   | none=>rw [e2] at w;exact w.elim
   | some d=>
    rw [e2] at w;have w:Wants K W He O Fs H σ Q (match cm ps j d with | some s=>.ok ⟨s,d⟩ Γ2 | none=>.no):=w
    cases e3:cm ps j d with
    | none=>rw [e3] at w;exact w.elim
    | some s=>
     rw [e3] at w;obtain ⟨vs,v',G',h1,h2,h3,h4,h5,h6⟩:=o1'.itemT e2 e3
     exact .inr (.inl ⟨p0,vs,i,v',rfl,rfl,h1,wo h2 e1 h3,Wants.part w (s1.trans s2) E' (fun a ha=>mem_append_right _ (h4 a ha)) h5 new' h6⟩)
 | str z=>
  cases rp;have w:Wants K W He O Fs H σ Q (if z.length<=sizeLine then (match fY z.cps.toList i with | some c=>.ok ⟨.leaf,.str ⟨#[c]⟩⟩ Γ2 | none=>.no) else .no):=w
  by_cases hz:z.length<=sizeLine
  ·rw [if_pos hz] at w
   cases e1:fY z.cps.toList i with
   | none=>rw [e1] at w;exact w.elim
   | some c=>
    rw [e1] at w;exact .inr (.inr ⟨z,i,c,rfl,rfl,hz,e1,Wants.scal w (.str _) (s1.trans s2) E (fun a ha=>mem_append_right _ (mem_append_right _ ha)) nd fun a ha=>new a (mem_append_right _ (mem_append_right _ ha))⟩)
  ·rw [if_neg hz] at w
   exact w.elim
 | none=>exact w.elim
 | bool b=>exact w.elim
 | int k=>exact w.elim
 | dict k=>exact w.elim
end
theorem mL (s:Sh):∀Gs:List (List Addr),((Gs.map (bw s)).flatten).Sublist Gs.flatten
 | []=>List.Sublist.refl _
 | G::Gs=>by
  simp only [map_cons,flatten_cons]
  refine List.Sublist.append ?_ (mL s Gs)
  unfold bw;split
  ·exact List.nil_sublist _
  ·exact List.Sublist.refl _
theorem kh:∀Gs:List (List Addr),(Gs.map (bw .leaf)).flatten=[]
 | []=>rfl
 | _::Gs=>by simp only [map_cons,flatten_cons,kh Gs];rfl
section
variable {K:Fg} {W:XW} {σ:St} {He H H':Hp} {O:List Addr} {Fs Fs' Gs:List (List Addr)} {Γ':Ev} {ps:List PV} {vs:List V} {Q:VK}
theorem AftL.newList {s:Sh} {p:Addr} (A:AftL K He O Fs H σ Γ' ps vs H' Gs Fs') (hs:s.isView=false) (hc:ps.all (T.coer s)=true) (hp:H' p=none) :
  Aft K He O Fs H σ Γ' ⟨.lst s,.list (ps.map (·.d))⟩ (.ref p) (bU H' p (.lst vs)) (p::(Gs.map (bw s)).flatten) Fs':=by
 obtain ⟨n1,n2,n3⟩:=List.nodup_append.mp A.env.ndO;obtain ⟨m1,m2,m3⟩:=List.nodup_append.mp A.env.nd;have hsub:=mL s Gs
 have E1:EnvOk K He ((Gs.map (bw s)).flatten++O) Fs' H' σ Γ':=A.env.drop (fun a ha=>by
   rcases List.mem_append.mp ha with z | z
   ·exact mem_append_left _ (hsub.subset z)
   ·exact mem_append_right _ z) (List.nodup_append.mpr ⟨n1.sublist hsub,n2,fun a ha b hb=>n3 a (hsub.subset ha) b hb⟩)
 have E2:=E1.hide (G:=[p]) (ip (o:=.lst vs) hp) (by simp) (fun a ha=>by simp at ha;rw [ha];exact hp) (fun a ha=>by simp at ha;rw [ha,gf];exact Option.some_ne_none _)
 have pn:∀{a},a∈Gs.flatten++O++Fs'.flatten->a≠p:=fun {a} ha z=>A.env.inH a ha (by rw [z];exact hp)
 refine ⟨A.same.trans (ip hp),E2,fun a ha=>?_,?_⟩
 ·rcases List.mem_append.mp ha with z | z
  ·rcases List.mem_cons.mp z with z | z
   ·rw [z];exact .inr (A.same.free hp)
   ·exact A.new a (mem_append_left _ (hsub.subset z))
  ·exact A.new a (mem_append_right _ z)
 ·refine .lst hs gf (by rw [length_map];exact A.len1) (by rw [length_map,length_map];exact A.len2) ?_ fun i v d F h1 h2 h3=>?_
  ·refine List.nodup_cons.mpr ⟨fun z=>pn (mem_append_left _ (mem_append_left _ (hsub.subset z))) rfl,n1.sublist hsub⟩
  ·rw [getElem?_map] at h2 h3
   cases e2:ps[i]? with
   | none=>rw [e2] at h2;cases h2
   | some q=>
    cases e3:Gs[i]? with
    | none=>rw [e3] at h3;cases h3
    | some G=>
     rw [e2] at h2;rw [e3] at h3
     cases h2
     cases h3;have cq:T.coer s q=true:=List.all_eq_true.mp hc q (mem_of_getElem? e2)
     have o1:=(A.own i v q G h1 e2 e3).mono (O':=p::(Gs.flatten++O++Fs'.flatten)) (ip (o:=.lst vs) hp) fun a ha=>by
      rcases List.mem_cons.mp ha with z | z
      ·rw [z];exact .inr hp
      ·exact .inl z
     refine o1.coer cq (fun a ha=>?_) fun a ha hO=>?_
     ·rw [append_assoc] at ha
      rcases List.mem_append.mp ha with z | z
      ·rcases List.mem_cons.mp z with z | z
       ·rw [z];exact mem_cons_self
       ·exact mem_cons_of_mem _ (mem_append_left _ (mem_append_left _ (hsub.subset z)))
      ·rcases List.mem_append.mp z with z | z
       ·exact mem_cons_of_mem _ (mem_append_left _ (mem_append_right _ z))
       ·exact mem_cons_of_mem _ (mem_append_right _ z)
     ·have hG:a∈Gs.flatten:=nH e3 ha
      cases s with
      | leaf=>
       rw [kh] at hO;exfalso
       rw [append_assoc] at hO;rcases List.mem_append.mp hO with z | z
       ·have z:a=p:=by simpa using z
        exact pn (mem_append_left _ (mem_append_left _ hG)) z
       ·rcases List.mem_append.mp z with z | z
        ·exact n3 a hG a z rfl
        ·exact m3 a (mem_append_left _ hG) a z rfl
      | view=>cases hs
      | lst s=>exact ha
      | tup ss=>exact ha
noncomputable def aG (s:Sh) (fl:FL):F1:=fun Γ=>(fl Γ).bind fun ps Γ'=>if !s.isView&&ps.all (T.coer s)&&decide (ps.length<=sizeLine) then .ok ⟨.lst s,.list (ps.map (·.d))⟩ Γ' else .no
theorem pD {s:Sh} {fl:FL} (h:tE K W (aG s fl) σ H Q):EG (tA K W fl) σ H Q:=by
 obtain ⟨He,O,Fs,Γ,E,h⟩:=h;refine ⟨He,O,Fs,Γ,E,?_⟩
 unfold aG at h
 cases e:fl Γ with
 | ok ps Γ'=>
  rw [e] at h;intro vs H' Gs Fs' A
  have h:Wants K W He O Fs H σ Q (if (!s.isView&&ps.all (T.coer s)&&decide (ps.length<=sizeLine))=true then .ok ⟨.lst s,.list (ps.map (·.d))⟩ Γ' else .no):=h
  by_cases hc:(!s.isView&&ps.all (T.coer s)&&decide (ps.length<=sizeLine))=true
  ·rw [if_pos hc] at h
   simp only [Bool.and_eq_true,decide_eq_true_eq,Bool.not_eq_true'] at hc
   exact ⟨by rw [A.len1];exact hc.2,fun p hp=>h _ _ _ _ (A.newList hc.1.1 hc.1.2 hp)⟩
  ·rw [if_neg hc] at h
   exact h.elim
 | er c Γ'=>rw [e] at h;exact h
 | no=>rw [e] at h;exact h
noncomputable def AM (p:PV):Sh:=if p.s.isView then .leaf else p.s
noncomputable def tok (p:PV):Bool:=!p.s.isView||bL p.d
theorem AftL.newTup {p:Addr} (A:AftL K He O Fs H σ Γ' ps vs H' Gs Fs') (hc:ps.all tok=true) (hp:H' p=none) :
  Aft K He O Fs H σ Γ' ⟨.tup (ps.map AM),.tuple (ps.map (·.d))⟩ (.ref p) (bU H' p (.tup vs)) Gs.flatten Fs':=by
 obtain ⟨n1,n2,n3⟩:=List.nodup_append.mp A.env.ndO;have pn:p∉Gs.flatten++O++Fs'.flatten:=fun ha=>A.env.inH p ha hp
 refine ⟨A.same.trans (ip hp),A.env.grow (ip hp),A.new,?_⟩
 refine .tup (fun s hs=>?_) gf pn (by rw [length_map];exact A.len1) (by rw [length_map];exact A.len2) (by rw [length_map,length_map]) n1 fun i v d F s h1 h2 h3 h4=>?_
 ·obtain ⟨q,_,rfl⟩:=List.mem_map.mp hs
  unfold AM;split
  ·rfl
  ·rename_i z;simpa using z
 ·rw [getElem?_map] at h2 h4
  cases e2:ps[i]? with
  | none=>rw [e2] at h2;cases h2
  | some q=>
   rw [e2] at h2 h4
   cases h2
   cases h4;have cq:tok q=true:=List.all_eq_true.mp hc q (mem_of_getElem? e2)
   have o1:=(A.own i v q F h1 e2 h3).mono (O':=Gs.flatten++O++Fs'.flatten) (ip (o:=.tup vs) hp) fun a ha=>.inl ha
   unfold AM
   cases hv:q.s.isView with
   | false=>exact o1
   | true=>
    unfold tok at cq;rw [hv] at cq;obtain ⟨s,d⟩:=q
    cases s with
    | view=>
     cases o1 with
     | view r=>exact .leaf (r.sc (by simpa using cq)).rep
    | _=>cases hv
noncomputable def bx (fl:FL):F1:=fun Γ=>(fl Γ).bind fun ps Γ'=>if ps.all tok&&decide (ps.length<=sizeLine) then .ok ⟨.tup (ps.map AM),.tuple (ps.map (·.d))⟩ Γ' else .no
theorem Ba {fl:FL} (h:tE K W (bx fl) σ H Q):AO (tA K W fl) σ H Q:=by
 obtain ⟨He,O,Fs,Γ,E,h⟩:=h;refine ⟨He,O,Fs,Γ,E,?_⟩
 unfold bx at h
 cases e:fl Γ with
 | ok ps Γ'=>
  rw [e] at h;intro vs H' Gs Fs' A
  have h:Wants K W He O Fs H σ Q (if (ps.all tok&&decide (ps.length<=sizeLine))=true then .ok ⟨.tup (ps.map AM),.tuple (ps.map (·.d))⟩ Γ' else .no):=h
  by_cases hc:(ps.all tok&&decide (ps.length<=sizeLine))=true
  ·rw [if_pos hc] at h
   simp only [Bool.and_eq_true,decide_eq_true_eq] at hc
   exact ⟨by rw [A.len1];exact hc.2,fun p hp=>h _ _ _ _ (A.newTup hc.1 hp)⟩
  ·rw [if_neg hc] at h
   exact h.elim
 | er c Γ'=>rw [e] at h;exact h
 | no=>rw [e] at h;exact h
end
noncomputable def aH (p:PV) (ds:List D):Bool:=!p.s.isView||ds.all bL
theorem Own.items {K:Fg} {O O':List Addr} {H:Hp} {s:Sh} {G:List Addr} {v:V} {ds:List D} (h:Own K O H s G v (.list ds)) (hc:aH ⟨s,.list ds⟩ ds=true) (h1:∀a∈O',a∈O) (h2:∀a∈G,a∉O') :
  ∃p vs,v=.ref p/\SqL K H p vs/\(s.isView=false->SqL K (cN H O') p vs)/\Reps K (cN H O') vs ds:=by
 have hr:=h.rep
 cases hv:s.isView with
 | false=>
  have r:=h.freeze hv h1 h2
  cases r with
  | @lst p vs _ hq hl hr=>exact ⟨p,vs,rfl,hid_le.seq hq,fun _=>hq,hl,hr⟩
 | true=>
  unfold aH at hc;have hc:ds.all bL=true:=by simpa [hv] using hc
  cases hr with
  | @lst p vs _ hq hl hr=>exact ⟨p,vs,rfl,hq,nofun,hl,fun i v d e1 e2=>((hr i v d e1 e2).sc (List.all_eq_true.mp hc d (mem_of_getElem? e2))).rep⟩
theorem Own.itemsT {K:Fg} {O O':List Addr} {H:Hp} {s:Sh} {G:List Addr} {v:V} {ds:List D} (h:Own K O H s G v (.tuple ds)) (hc:aH ⟨s,.tuple ds⟩ ds=true) (h1:∀a∈O',a∈O) (h2:∀a∈G,a∉O') :
  ∃p vs,v=.ref p/\SqT K H p vs/\(s.isView=false->SqT K (cN H O') p vs)/\Reps K (cN H O') vs ds:=by
 have hr:=h.rep
 cases hv:s.isView with
 | false=>
  have r:=h.freeze hv h1 h2
  cases r with
  | @tup p vs _ hq hl hr=>exact ⟨p,vs,rfl,fh hid_le hq,fun _=>hq,hl,hr⟩
 | true=>
  unfold aH at hc;have hc:ds.all bL=true:=by simpa [hv] using hc
  cases hr with
  | @tup p vs _ hq hl hr=>exact ⟨p,vs,rfl,hq,nofun,hl,fun i v d e1 e2=>((hr i v d e1 e2).sc (List.all_eq_true.mp hc d (mem_of_getElem? e2))).rep⟩
theorem IC {K:Fg} {σ:St} {He H H1:Hp} {O:List Addr} {Fs Fs1:List (List Addr)} {Γ1:Ev} {vs:List V} {ds:List D} {p:Addr} (E:EnvOk K He O Fs1 H1 σ Γ1) (s:Same H H1) (n:∀a∈Fs1.flatten,a∈Fs.flatten\/H a=none)
  (hr:Reps K (cN H1 (O++Fs1.flatten)) vs ds) (hp:H1 p=none):Aft K He O Fs H σ Γ1 ⟨.lst .leaf,.list ds⟩ (.ref p) (bU H1 p (.lst vs)) [p] Fs1:=by
 have E2:=E.hide (G:=[p]) (ip (o:=.lst vs) hp) (by simp) (fun a ha=>by simp at ha;rw [ha];exact hp) (fun a ha=>by simp at ha;rw [ha,gf];exact Option.some_ne_none _)
 refine ⟨s.trans (ip hp),E2,fun a ha=>?_,?_⟩
 ·rcases List.mem_append.mp ha with z | z
  ·have z:a=p:=by simpa using z
   rw [z];exact .inr (s.free hp)
  ·exact n a z
 ·have fl:(List.replicate ds.length ([]:List Addr)).flatten=[]:=by simp
  have:[p]=p::(List.replicate ds.length ([]:List Addr)).flatten:=by rw [fl]
  rw [this];refine .lst rfl gf hr.1 (by simp) (by rw [fl];simp) fun i v d F h1 h2 h3=>?_
  rw [getElem?_replicate] at h3;split at h3
  ·cases h3
   refine .leaf ((hr.2 i v d h1 h2).mono (sF (ip hp) fun a ha=>?_))
   rw [fl] at ha;rcases List.mem_append.mp ha with z | z
   ·rcases List.mem_append.mp z with z | z
    ·have z:a=p:=by simpa using z
     rw [z];exact .inr hp
    ·exact .inl (mem_append_left _ z)
   ·exact .inl (mem_append_right _ z)
  ·cases h3
noncomputable def et (fa:F1):F1:=aY fa fun p Γ=>match p.d with
 | .list ds=>if aH p ds then .ok ⟨.lst .leaf,.list ds⟩ Γ else .no
 | .tuple ds=>if aH p ds then .ok ⟨.lst .leaf,.list ds⟩ Γ else .no
 | _=>.no
section
variable {K:Fg} {W:XW} {σ:St} {H:Hp} {Q:VK} {fa fb:F1}
theorem Aft.disj {He H1:Hp} {O G:List Addr} {Fs Fs1:List (List Addr)} {Γ1:Ev} {p:PV} {v:V} (A:Aft K He O Fs H σ Γ1 p v H1 G Fs1):∀a∈G,a∉O++Fs1.flatten:=fun a ha z=>by
 have nd:=A.env.nd
 rw [append_assoc] at nd;exact (List.nodup_append.mp nd).2.2 a ha a z rfl
theorem jb {G O F:List Addr}:∀a∈O++F,a∈G++O++F:=fun a ha=>by
 rw [append_assoc];exact mem_append_right _ ha
theorem qR (h:tE K W (et fa) σ H Q):zz (fun xs H Q=>∃p ys,xs=[.ref p]/\(SqL K H p ys\/SqT K H p ys)/\∀l,H l=none->Q (.ref l) (bU H l (.lst ys))) (tA K W (ae fa ah)) σ H Q:=by
 have h1:tE K W fa σ H fun x H1=>∃p ys,x=.ref p/\(SqL K H1 p ys\/SqT K H1 p ys)/\∀l,H1 l=none->Q (.ref l) (bU H1 l (.lst ys)):=by
  refine wC h fun He O Fs Γ1 p v H1 G Fs1 nd A w=>?_
  obtain ⟨s,d⟩:=p
  cases d with
  | list ds=>
   have w:Wants K W He O Fs H σ Q (if aH ⟨s,.list ds⟩ ds then .ok ⟨.lst .leaf,.list ds⟩ Γ1 else .no):=w
   cases hc:aH ⟨s,.list ds⟩ ds with
   | false=>rw [hc] at w;exact w.elim
   | true=>
    rw [hc] at w;obtain ⟨p,vs,rfl,hq,_,hr⟩:=A.own.items (O':=O++Fs1.flatten) hc jb A.disj
    exact ⟨p,vs,rfl,.inl hq,fun l hl=>w _ _ _ _ (IC A.go A.same A.newF hr hl)⟩
  | tuple ds=>
   have w:Wants K W He O Fs H σ Q (if aH ⟨s,.tuple ds⟩ ds then .ok ⟨.lst .leaf,.list ds⟩ Γ1 else .no):=w
   cases hc:aH ⟨s,.tuple ds⟩ ds with
   | false=>rw [hc] at w;exact w.elim
   | true=>
    rw [hc] at w;obtain ⟨p,vs,rfl,hq,_,hr⟩:=A.own.itemsT (O':=O++Fs1.flatten) hc jb A.disj
    exact ⟨p,vs,rfl,.inr hq,fun l hl=>w _ _ _ _ (IC A.go A.same A.newF hr hl)⟩
  | _=>exact w.elim
 obtain ⟨He,O,Fs,Γ,E,h1⟩:=h1;refine ⟨He,O,Fs,Γ,E,?_⟩
 unfold ae ah
 cases e:fa Γ with
 | ok p Γ'=>
  rw [e] at h1;intro vs H' Gs Fs' A
  match vs,Gs,A.len1,A.len2 with
  | [v],[G],_,_=>
   have A':Aft K He O Fs H σ Γ' p v H' G Fs':=⟨A.same,by simpa using A.env,by simpa using A.new,by simpa using A.own 0 v p G rfl rfl rfl⟩
   obtain ⟨q,ys,rfl,h2,h3⟩:=h1 v H' G Fs' A'
   exact ⟨q,ys,rfl,h2,h3⟩
 | er c Γ'=>rw [e] at h1;exact h1
 | no=>rw [e] at h1;exact h1
end
structure zd (J:It) (P:Hp->Prop) (vs:List V):Prop where
 go:∀(i:Nat) H v,P H->vs[i]?=some v->J.go i H/\∀x H',J.yld i H x H'->H'=H/\x=v
 stop:∀H,P H->J.stop vs.length H
theorem yh {K:Fg} {a:Addr} {vs:List V}:zd (Dk K a) (fun H=>SqL K H a vs) vs:=
 ⟨fun i H v hp hv=>⟨⟨vs,v,hp,hv⟩,fun x H' ⟨e,q⟩=>⟨e,Option.some.inj ((q vs hp).symm.trans hv)⟩⟩,fun H hp=>⟨vs,hp,Nat.le_refl _⟩⟩
theorem Cv {K:Fg} {a:Addr} {vs:List V}:zd (Ih K a) (fun H=>SqT K H a vs) vs:=
 ⟨fun i H v hp hv=>⟨⟨vs,v,hp,hv⟩,fun x H' ⟨e,q⟩=>⟨e,Option.some.inj ((q vs hp).symm.trans hv)⟩⟩,fun H hp=>⟨vs,hp,Nat.le_refl _⟩⟩
noncomputable def fw (lo:Int) (n:Nat):List V:=(List.range n).map fun i=>.int (lo+(i:Nat))
noncomputable def cj (lo:Int) (n:Nat):List D:=(List.range n).map fun i=>.int (lo+(i:Nat))
theorem vh {lo:Int} {n:Nat}:zd (zc lo n) (fun _=>True) (fw lo n):=by
 refine ⟨fun i H v _ hv=>?_,fun H _=>?_⟩
 ·unfold fw at hv
  rw [getElem?_map] at hv
  cases e:(List.range n)[i]? with
  | none=>rw [e] at hv;cases hv
  | some k=>
   rw [e] at hv;obtain ⟨h1,h2⟩:=List.getElem?_eq_some_iff.mp e
   simp at h1 h2
   subst h2
   cases hv;exact ⟨h1,fun x H' ⟨q1,q2⟩=>⟨q1,q2⟩⟩
 ·show n<=(fw lo n).length
  simp [fw]
theorem IF {K:Fg} {H:Hp} {lo:Int} {n:Nat}:Reps K H (fw lo n) (cj lo n):=by
 refine ⟨by simp [fw,cj],fun i v d h1 h2=>?_⟩
 unfold fw at h1;unfold cj at h2;rw [getElem?_map] at h1 h2
 cases e:(List.range n)[i]? with
 | none=>rw [e] at h1;cases h1
 | some k=>
  rw [e] at h1 h2
  cases h1
  cases h2;exact .int _
structure LV where
 ds:List D
 st:Bool
abbrev FI:=Ev->Out LV
noncomputable def jw (K:Fg) (W:XW) (He:Hp) (O:List Addr) (Fs:List (List Addr)) (H:Hp) (σ:St) (R:It->Hp->Prop) (o:Out LV):Prop:=match o with
 | .ok t Γ'=>∀J H' Fs' vs P,Same H H'->EnvOk K He O Fs' H' σ Γ'->(∀a∈Fs'.flatten,a∈Fs.flatten\/H a=none)->zd J P vs->P H'->(∀H2,Same H' H2->P H2)->(t.st=true->∀H2,Same (cN H' Fs'.flatten) H2->P H2) ->
   Reps K (cN H' (O++Fs'.flatten)) vs t.ds->R J H'
 | .er c Γ'=>∀H' Fs',Same H H'->EnvOk K He O Fs' H' σ Γ'->W c σ H'
 | .no=>False
noncomputable def tI (K:Fg) (W:XW) (f:FI):TI:=fun σ H R=>∃He O Fs Γ,EnvOk K He O Fs H σ Γ/\jw K W He O Fs H σ R (f Γ)
theorem qx {X:Cx} {tg iter:Expr} {t t':TI} (h:PI X tg iter t) (i:∀σ H R,t' σ H R->t σ H R):PI X tg iter t':=fun pins s σ H R I q=>h pins s σ H R I (i σ H R q)
noncomputable def b9 (fa:F1):FI:=fun Γ=>(fa Γ).bind fun p Γ'=>match p.d with
 | .list ds=>if aH p ds then .ok ⟨ds,!p.s.isView⟩ Γ' else .no
 | _=>.no
noncomputable def dH (fa:F1):FI:=fun Γ=>(fa Γ).bind fun p Γ'=>match p.d with
 | .tuple ds=>if aH p ds then .ok ⟨ds,!p.s.isView⟩ Γ' else .no
 | _=>.no
section
variable {K:Fg} {W:XW} {σ:St} {H:Hp} {R:It->Hp->Prop} {fa fb:F1}
theorem sub_hid {H:Hp} {O F:List Addr}:Same (cN H (O++F)) (cN H F):=sF (Same.refl _) fun a ha=>.inl (mem_append_right _ ha)
theorem xA (h:tI K W (b9 fa) σ H R):jm K (tE K W fa) σ H R:=by
 obtain ⟨He,O,Fs,Γ,E,h⟩:=h;refine ⟨He,O,Fs,Γ,E,?_⟩
 unfold b9 at h
 cases e:fa Γ with
 | ok p Γ1=>
  rw [e] at h;intro v H1 G Fs1 A;obtain ⟨s,d⟩:=p
  cases d with
  | list ds=>
   have h:jw K W He O Fs H σ R (if aH ⟨s,.list ds⟩ ds then .ok ⟨ds,!s.isView⟩ Γ1 else .no):=h
   cases hc:aH ⟨s,.list ds⟩ ds with
   | false=>rw [hc] at h;exact h.elim
   | true=>
    rw [hc] at h;obtain ⟨p,vs,rfl,hq,hst,hr⟩:=A.own.items (O':=O++Fs1.flatten) hc jb A.disj
    exact ⟨p,rfl,⟨vs,hq⟩,h (Dk K p) H1 Fs1 vs (fun H=>SqL K H p vs) A.same A.go A.newF yh hq (fun H2 s2=>s2.seq hq) (fun ht H2 s2=>s2.seq (sub_hid.seq (hst (by simpa using ht)))) hr⟩
  | _=>exact h.elim
 | er c Γ'=>rw [e] at h;exact h
 | no=>rw [e] at h;exact h
theorem xy (h:tI K W (dH fa) σ H R):FZ K (tE K W fa) σ H R:=by
 obtain ⟨He,O,Fs,Γ,E,h⟩:=h;refine ⟨He,O,Fs,Γ,E,?_⟩
 unfold dH at h
 cases e:fa Γ with
 | ok p Γ1=>
  rw [e] at h;intro v H1 G Fs1 A;obtain ⟨s,d⟩:=p
  cases d with
  | tuple ds=>
   have h:jw K W He O Fs H σ R (if aH ⟨s,.tuple ds⟩ ds then .ok ⟨ds,!s.isView⟩ Γ1 else .no):=h
   cases hc:aH ⟨s,.tuple ds⟩ ds with
   | false=>rw [hc] at h;exact h.elim
   | true=>
    rw [hc] at h;obtain ⟨p,vs,rfl,hq,hst,hr⟩:=A.own.itemsT (O':=O++Fs1.flatten) hc jb A.disj
    exact ⟨p,rfl,⟨vs,hq⟩,h (Ih K p) H1 Fs1 vs (fun H=>SqT K H p vs) A.same A.go A.newF Cv hq (fun H2 s2=>fh s2 hq) (fun ht H2 s2=>fh s2 (fh sub_hid (hst (by simpa using ht)))) hr⟩
  | _=>exact h.elim
 | er c Γ'=>rw [e] at h;exact h
 | no=>rw [e] at h;exact h
noncomputable def cH (j:Int):Bool:=decide (-(2 ^ 62)<=j)&&decide (j<2 ^ 62)
noncomputable def jG:List D->Option Int
 | [.int j]=>if cH j then some j else none
 | _=>none
noncomputable def qP:List D->Option (Int×Int)
 | [.int i,.int j]=>if cH i&&cH j then some (i,j) else none
 | _=>none
theorem pA {ds:List D} {j:Int} (h:jG ds=some j):ds=[.int j]/\-(2 ^ 62)<=j/\j<2 ^ 62:=by
 unfold jG at h;split at h
 ·split at h
  ·rename_i hc
   cases h;simp only [cH,Bool.and_eq_true,decide_eq_true_eq] at hc
   exact ⟨rfl,hc.1,hc.2⟩
  ·cases h
 ·cases h
theorem xq {ds:List D} {i j:Int} (h:qP ds=some (i,j)):ds=[.int i,.int j]/\(-(2 ^ 62)<=i/\i<2 ^ 62/\-(2 ^ 62)<=j/\j<2 ^ 62):=by
 unfold qP at h;split at h
 ·split at h
  ·rename_i hc
   cases h;simp only [cH,Bool.and_eq_true,decide_eq_true_eq] at hc
   exact ⟨rfl,hc.1.1,hc.1.2,hc.2.1,hc.2.2⟩
  ·cases h
 ·cases h
noncomputable def hU (fl:FL):FI:=fun Γ=>(fl Γ).bind fun ps Γ'=>match jG (ps.map (·.d)) with
 | some j=>.ok ⟨cj 0 j.toNat,true⟩ Γ'
 | none=>.no
noncomputable def ym (fl:FL):FI:=fun Γ=>(fl Γ).bind fun ps Γ'=>match qP (ps.map (·.d)) with
 | some (i,j)=>.ok ⟨cj i (j-i).toNat,true⟩ Γ'
 | none=>.no
theorem ur {fl:FL} (h:tI K W (hU fl) σ H R):vq (tA K W fl) σ H R:=by
 obtain ⟨He,O,Fs,Γ,E,h⟩:=h;refine ⟨He,O,Fs,Γ,E,?_⟩
 unfold hU at h
 cases e:fl Γ with
 | ok ps Γ1=>
  rw [e] at h;intro vs H1 Gs Fs1 A;have h:jw K W He O Fs H σ R (match jG (ps.map (·.d)) with | some j=>.ok ⟨cj 0 j.toNat,true⟩ Γ1 | none=>.no):=h
  have rs:=A.reps
  cases e1:jG (ps.map (·.d)) with
  | none=>rw [e1] at h;exact h.elim
  | some j=>
   rw [e1] at h;obtain ⟨e2,h1,h2⟩:=pA e1;rw [e2] at rs;obtain ⟨v,rfl,r⟩:=rs.one
   cases r;exact ⟨j,rfl,h1,h2,h (zc 0 j.toNat) H1 Fs1 (fw 0 j.toNat) (fun _=>True) A.same A.env.dropL (fun a ha=>A.new a (mem_append_right _ ha)) vh trivial (fun _ _=>trivial) (fun _ _ _=>trivial) IF⟩
 | er c Γ'=>rw [e] at h;exact h
 | no=>rw [e] at h;exact h
theorem Bl {fl:FL} (h:tI K W (ym fl) σ H R):zV (tA K W fl) σ H R:=by
 obtain ⟨He,O,Fs,Γ,E,h⟩:=h;refine ⟨He,O,Fs,Γ,E,?_⟩
 unfold ym at h
 cases e:fl Γ with
 | ok ps Γ1=>
  rw [e] at h;intro vs H1 Gs Fs1 A;have h:jw K W He O Fs H σ R (match qP (ps.map (·.d)) with | some (i,j)=>.ok ⟨cj i (j-i).toNat,true⟩ Γ1 | none=>.no):=h
  have rs:=A.reps
  cases e1:qP (ps.map (·.d)) with
  | none=>rw [e1] at h;exact h.elim
  | some ij=>
   obtain ⟨i,j⟩:=ij;rw [e1] at h;obtain ⟨e2,hb⟩:=xq e1;rw [e2] at rs;obtain ⟨v,u,rfl,r,r'⟩:=rs.two
   cases r
   cases r'
   exact ⟨i,j,rfl,hb,h (zc i (j-i).toNat) H1 Fs1 (fw i (j-i).toNat) (fun _=>True) A.same A.env.dropL (fun a ha=>A.new a (mem_append_right _ ha)) vh trivial (fun _ _=>trivial) (fun _ _ _=>trivial) IF⟩
 | er c Γ'=>rw [e] at h;exact h
 | no=>rw [e] at h;exact h
end
noncomputable def cT (i:Nat) (fc:FB) (fe:F1) (s:Sh):List D->Ev->List D->Out (List D)
 | [],Γ,acc=>.ok acc Γ
 | d::r,Γ,acc=>match fc (Γ.set i (some ⟨.leaf,d⟩)) with
  | .ok true Γ1=>(match fe Γ1 with
   | .ok p Γ2=>if T.coer s p&&decide (acc.length<sizeLine) then cT i fc fe s r (Γ2.set i none) (acc++[p.d]) else .no
   | _=>.no)
  | .ok false Γ1=>if acc.length<sizeLine then cT i fc fe s r (Γ1.set i none) acc else .no
  | _=>.no
noncomputable def aN (s:Sh) (i:Nat) (fi:FI) (fc:FB) (fe:F1):F1:=fun Γ=>(fi Γ).bind fun t Γ1=>match cT i fc fe s t.ds (Γ1.set i none) [] with
 | .ok ds Γ2=>if !s.isView&&decide (i<Γ1.length) then .ok ⟨.lst s,.list ds⟩ (Γ2.set i (Γ1.getD i none)) else .no
 | _=>.no
noncomputable abbrev W0:XW:=fun _ _ _=>False
section
variable {K:Fg} {He H H1 H2:Hp} {O G:List Addr} {Fs Fs1 Fs2:List (List Addr)} {σ:St} {Γ Γ1 Γ2:Ev}
theorem nB {is:List Nat} {σ:St} {j:Nat} (h:j∉is):(bC is σ)[j]?=σ[j]?:=by
 unfold bC;rw [List.getElem?_mapIdx]
 cases σ[j]? with
 | none=>rfl
 | some o=>simp [h]
theorem gq {Γ:Ev} {i j:Nat} {p:PV} (h:(Γ.set i none)[j]?=some (some p)):j≠i/\Γ[j]?=some (some p):=by
 by_cases hj:j=i
 ·subst hj
  rw [List.getElem?_set] at h;split at h
  ·split at h<;>cases h
  ·rename_i z;exact absurd rfl z
 ·rw [getElem?_set_ne (Ne.symm hj)] at h
  exact ⟨hj,h⟩
theorem EnvOk.shut {i:Nat} (E:EnvOk K He O Fs H σ Γ) (hi:i<Γ.length) :
  ∃F,Fs[i]?=some F/\EnvOk K He (F++O) (Fs.set i []) H (bC [i] σ) (Γ.set i none)/\∀a,a∈F++(Fs.set i []).flatten↔a∈Fs.flatten:=by
 obtain ⟨F,hF⟩:=E.lt hi;have pm:(F++(Fs.set i []).flatten).Perm Fs.flatten:=by simpa using qD (G:=[]) hF
 have pm2:(F++O++(Fs.set i []).flatten).Perm (O++Fs.flatten):=by
  rw [append_assoc];exact (pL _ _ _).trans (List.Perm.append_left _ pm)
 refine ⟨F,hF,⟨by rw [HE,length_set];exact E.len1,by rw [length_set,length_set];exact E.len2,E.same,pm2.nodup_iff.mpr E.nd,fun a ha=>E.inH a (pm2.mem_iff.mp ha),fun a ha=>E.fresh a (pm.mem_iff.mp (mem_append_right _ ha)),fun j q hq=>?_⟩,fun a=>pm.mem_iff⟩
 obtain ⟨hj,hq⟩:=gq hq;obtain ⟨w1,v',F',e1,e2,e3⟩:=E.slot j q hq;exact ⟨w1,v',F',by rw [nB (by simpa using hj)];exact e1,by rw [getElem?_set_ne (Ne.symm hj)];exact e2,e3.mono (Same.refl _) fun a ha=>.inl (pm2.mem_iff.mp ha)⟩
theorem EnvOk.forget {i:Nat} {x:Option V} (E:EnvOk K He O Fs H ((bC [i] σ).set i x) Γ) (hi:i<Γ.length):EnvOk K He O (Fs.set i []) H (bC [i] σ) (Γ.set i none):=by
 obtain ⟨F,hF⟩:=E.lt hi;have pm:(F++(Fs.set i []).flatten).Perm Fs.flatten:=by simpa using qD (G:=[]) hF
 have sub:∀a∈O++(Fs.set i []).flatten,a∈O++Fs.flatten:=fun a ha=>by
  rcases List.mem_append.mp ha with z | z
  ·exact mem_append_left _ z
  ·exact mem_append_right _ (pm.mem_iff.mp (mem_append_right _ z))
 have l1:=E.len1
 rw [length_set] at l1;obtain ⟨n1,n2,n3⟩:=List.nodup_append.mp E.nd;have n4:((Fs.set i []).flatten).Nodup:=(List.nodup_append.mp (pm.nodup_iff.mpr n2)).2.1
 refine ⟨by rw [length_set];exact l1,by rw [length_set,length_set];exact E.len2,E.same,List.nodup_append.mpr ⟨n1,n4,fun a ha b hb=>n3 a ha b (pm.mem_iff.mp (mem_append_right _ hb))⟩,fun a ha=>E.inH a (sub a ha),fun a ha=>E.fresh a (pm.mem_iff.mp (mem_append_right _ ha)),fun j q hq=>?_⟩
 obtain ⟨hj,hq⟩:=gq hq;obtain ⟨w1,v',F',e1,e2,e3⟩:=E.slot j q hq;rw [getElem?_set_ne (Ne.symm hj)] at e1;exact ⟨w1,v',F',e1,by rw [getElem?_set_ne (Ne.symm hj)];exact e2,e3.mono (Same.refl _) fun a ha=>.inl (sub a ha)⟩
theorem EnvOk.reopen {i:Nat} {F:List Addr} (E1:EnvOk K He O Fs1 H1 σ Γ1) (hF:Fs1[i]?=some F) (E2:EnvOk K He (G++(F++O)) Fs2 H2 (bC [i] σ) Γ2) (hl:Γ2.length=Γ1.length) (s:Same H1 H2)
  (hn:Γ2[i]?=some none) (hF2:Fs2[i]?=some []) (new:∀a∈G++Fs2.flatten,a∈Fs1.flatten\/H1 a=none):EnvOk K He (G++O) (Fs2.set i F) H2 σ (Γ2.set i (Γ1.getD i none)):=by
 have pm:((Fs2.set i F).flatten).Perm (F++Fs2.flatten):=by simpa using qD (G:=F) hF2
 have pm2:(G++O++(Fs2.set i F).flatten).Perm (G++(F++O)++Fs2.flatten):=by
  refine (List.Perm.append_left _ pm).trans ?_
  rw [append_assoc,append_assoc];refine List.Perm.append_left _ ?_
  rw [append_assoc];exact pL _ _ _
 have hi:i<Γ2.length:=(List.getElem?_eq_some_iff.mp hn).1
 refine ⟨by rw [length_set,hl];exact E1.len1,by rw [length_set,length_set];exact E2.len2,E2.same,pm2.nodup_iff.mpr E2.nd,fun a ha=>E2.inH a (pm2.mem_iff.mp ha),fun a ha=>?_,fun j q hq=>?_⟩
 ·rcases List.mem_append.mp (pm.mem_iff.mp ha) with z | z
  ·exact E1.fresh a (nH hF z)
  ·exact E2.fresh a z
 ·by_cases hj:j=i
  ·subst hj
   rw [getElem?_set_self hi] at hq;have hq:Γ1.getD j none=some q:=Option.some.inj hq
   rw [getD_eq_getElem?_getD] at hq;have hq':Γ1[j]?=some (some q):=by
    cases e:Γ1[j]? with
    | none=>rw [e] at hq;cases hq
    | some o=>rw [e] at hq;simp only [Option.getD_some] at hq;rw [hq]
   obtain ⟨w1,v',F',e1,e2,e3⟩:=E1.slot j q hq'
   rw [hF] at e2
   cases e2;refine ⟨w1,v',F,e1,getElem?_set_self (by rw [E2.len2];exact hi),e3.mono s fun a ha=>?_⟩
   rcases List.mem_append.mp ha with z | z
   ·rcases List.mem_append.mp z with z | z
    ·exact (new a (mem_append_left _ z)).elim (fun y=>.inl (mem_append_right _ y)) .inr
    ·exact .inl (mem_append_left _ z)
   ·rcases List.mem_append.mp (pm.mem_iff.mp z) with y | y
    ·exact .inl (mem_append_right _ (nH hF y))
    ·exact (new a (mem_append_right _ y)).elim (fun y=>.inl (mem_append_right _ y)) .inr
  ·rw [getElem?_set_ne (Ne.symm hj)] at hq
   obtain ⟨w1,v',F',e1,e2,e3⟩:=E2.slot j q hq;rw [nB (by simpa using hj)] at e1
   exact ⟨w1,v',F',e1,by rw [getElem?_set_ne (Ne.symm hj)];exact e2,e3.mono (Same.refl _) fun a ha=>.inl (pm2.mem_iff.mp ha)⟩
theorem EnvOk.mutO {p:Addr} {o:HO} {xs:List V} (E:EnvOk K He O Fs H σ Γ) (hp:p∈O) (hl:H p=some (.lst xs)) (hn:He p=none):EnvOk K He O Fs (bU H p o) σ Γ:=by
 obtain ⟨n1,n2,n3⟩:=List.nodup_append.mp E.nd;refine ⟨E.len1,E.len2,fun b u e=>?_,E.nd,fun a ha=>?_,E.fresh,fun j q hq=>?_⟩
 ·rw [d0 (wZ e hn)]
  exact E.same b u e
 ·by_cases h:a=p
  ·rw [h,gf];exact Option.some_ne_none _
  ·rw [d0 h];exact E.inH a ha
 ·obtain ⟨w1,v',F',e1,e2,e3⟩:=E.slot j q hq
  exact ⟨w1,v',F',e1,e2,e3.mut w1 (mem_append_left _ hp) (fun z=>n3 p hp p (nH e2 z) rfl) hl⟩
end
structure KG (K:Fg) (He:Hp) (O F:List Addr) (Fs1:List (List Addr)) (H1:Hp) (σ:St) (i:Nat) (s:Sh) (A0:Addr) (n:Nat) (ys:List V) (H:Hp) (Γk:Ev) (Fk Gs:List (List Addr)) (acc:List D):Prop where
 env:EnvOk K He (A0::Gs.flatten++(F++O)) Fk H (bC [i] σ) Γk
 same:Same H1 H
 at_:H A0=some (.lst ys)
 new:∀a∈Gs.flatten++Fk.flatten,a∈Fs1.flatten\/H1 a=none
 l1:ys.length=acc.length
 l2:Gs.length=acc.length
 own:∀(j:Nat) v d G,ys[j]?=some v->acc[j]?=some d->Gs[j]?=some G->Own K (A0::Gs.flatten++(F++O)++Fk.flatten) H s G v d
 noneG:Γk[i]?=some none
 noneF:Fk[i]?=some []
 len:Γk.length=n
theorem DJ {α:Type} (Gs:List (List α)) (G:List α):(Gs++[G]).flatten=Gs.flatten++G:=by simp
section
variable {K:Fg} {W:XW} {σ:St} {H:Hp} {Q:VK} {fe:F1} {fc:FB} {fi:FI} {s:Sh} {i:Nat}
theorem Hv (h:tE K W (aN s i fi fc fe) σ H Q):fG [i] (tI K W fi) (gName i) (tT K W0 fc) (tE K W0 fe) σ H Q:=by
 obtain ⟨He,O,Fs,Γ,E,h⟩:=h;refine ⟨He,O,Fs,Γ,E,?_⟩
 unfold aN at h
 cases e:fi Γ with
 | er c Γ'=>rw [e] at h;exact h
 | no=>rw [e] at h;exact h
 | ok t Γ1=>
  rw [e] at h;intro J H1 Fs1 vs P s1 E1 n1 it hP hP1 _ hr A0 hD;have h:Wants K W He O Fs H σ Q (match cT i fc fe s t.ds (Γ1.set i none) [] with | .ok ds Γ2=>if !s.isView&&decide (i<Γ1.length) then .ok ⟨.lst s,.list ds⟩ (Γ2.set i (Γ1.getD i none)) else .no | _=>.no):=h
  cases eg:cT i fc fe s t.ds (Γ1.set i none) [] with
  | er c Γ'=>rw [eg] at h;exact h.elim
  | no=>rw [eg] at h;exact h.elim
  | ok ds' Γ2=>
   rw [eg] at h;have h:Wants K W He O Fs H σ Q (if (!s.isView&&decide (i<Γ1.length))=true then .ok ⟨.lst s,.list ds'⟩ (Γ2.set i (Γ1.getD i none)) else .no):=h
   by_cases hc:(!s.isView&&decide (i<Γ1.length))=true
   case neg=>rw [if_neg hc] at h;exact h.elim
   rw [if_pos hc] at h;simp only [Bool.and_eq_true,decide_eq_true_eq,Bool.not_eq_true'] at hc
   obtain ⟨hsv,hi⟩:=hc;obtain ⟨F,hF,E0,hmem⟩:=E1.shut hi;have hHeD:He A0=none:=E1.same.free hD
   have E0':EnvOk K He (A0::([]:List (List Addr)).flatten++(F++O)) (Fs1.set i []) (bU H1 A0 (.lst [])) (bC [i] σ) (Γ1.set i none):=
    E0.hide (G:=[A0]) (ip hD) (by simp) (fun a ha=>by simp at ha;rw [ha];exact hD) (fun a ha=>by simp at ha;rw [ha,gf];exact Option.some_ne_none _)
   refine ⟨fun k m ys H'=>m=vs.length-k/\k<=vs.length/\∃Γk Fk Gs acc,KG K He O F Fs1 H1 σ i s A0 Γ1.length ys H' Γk Fk Gs acc/\cT i fc fe s (t.ds.drop k) Γk acc=.ok ds' Γ2,⟨vs.length,by simp,Nat.zero_le _,Γ1.set i none,Fs1.set i [],[],[],⟨E0',ip hD,gf,fun a ha=>.inl ((hmem a).mp (mem_append_right _ (by simpa using ha))),rfl,rfl,fun j v d G h1=>by simp at h1,getElem?_set_self hi,getElem?_set_self (by rw [E1.len2];exact hi),by rw [length_set]⟩,by simpa using eg⟩,?_⟩
   rintro k m ys H' ⟨rfl,hk,Γk,Fk,Gs,acc,g,eg'⟩
   refine ⟨g.at_,?_⟩
   have hPk:P H':=hP1 H' g.same
   have hlen:vs.length=t.ds.length:=hr.1
   by_cases hlt:k<vs.length
   case neg=>
    have hke:k=vs.length:=by omega
    left
    have:t.ds.drop k=[]:=List.drop_eq_nil_of_le (by omega)
    rw [this] at eg';have eg'':(Out.ok acc Γk:Out (List D))=.ok ds' Γ2:=eg'
    injection eg'' with e1 e2
    subst e1;subst e2;refine ⟨by rw [hke];exact it.stop H' hPk,?_⟩
    have E3:EnvOk K He ((A0::Gs.flatten)++O) (Fk.set i F) H' σ (Γk.set i (Γ1.getD i none)):=
     EnvOk.reopen (G:=A0::Gs.flatten) E1 hF g.env g.len g.same g.noneG g.noneF fun a ha=>by
      rcases List.mem_append.mp ha with z | z
      ·rcases List.mem_cons.mp z with z | z
       ·rw [z];exact .inr hD
       ·exact g.new a (mem_append_left _ z)
      ·exact g.new a (mem_append_right _ z)
    have pmF:((Fk.set i F).flatten).Perm (F++Fk.flatten):=by simpa using qD (G:=F) g.noneF
    obtain ⟨n1',_,n3'⟩:=List.nodup_append.mp g.env.ndO;refine h (.ref A0) H' (A0::Gs.flatten) (Fk.set i F) ⟨s1.trans g.same,E3,fun a ha=>?_,?_⟩
    ·have up:a∈Fs1.flatten\/H1 a=none->a∈Fs.flatten\/H a=none:=fun z=>z.elim (n1 a) fun y=>.inr (s1.free y)
     rcases List.mem_append.mp ha with z | z
     ·rcases List.mem_cons.mp z with z | z
      ·exact up (.inr (by rw [z];exact hD))
      ·exact up (g.new a (mem_append_left _ z))
     ·rcases List.mem_append.mp (pmF.mem_iff.mp z) with y | y
      ·exact up (.inl (nH hF y))
      ·exact up (g.new a (mem_append_right _ y))
    ·refine .lst hsv g.at_ g.l1 g.l2 n1' fun j v d G h1 h2 h3=>(g.own j v d G h1 h2 h3).perm fun a ha=>?_
     rw [append_assoc] at ha ⊢;rcases List.mem_append.mp ha with z | z
     ·exact mem_append_left _ z
     ·refine mem_append_right _ ?_
      rcases List.mem_append.mp z with z | z
      ·exact mem_append_left _ (mem_append_right _ z)
      ·rcases List.mem_append.mp (pmF.mem_iff.mp z) with y | y
       ·exact mem_append_left _ (mem_append_left _ y)
       ·exact mem_append_right _ y
   case pos=>
    right
    have hv:vs[k]?=some vs[k]:=getElem?_eq_getElem hlt
    have hkd:k<t.ds.length:=by omega
    have hd:t.ds[k]?=some t.ds[k]:=getElem?_eq_getElem hkd
    have hdr:t.ds.drop k=t.ds[k]::t.ds.drop (k+1):=List.drop_eq_getElem_cons hkd
    rw [hdr] at eg';generalize hdk:t.ds[k]=d at hd eg'
    generalize hvk:vs[k]=v at hv
    obtain ⟨hgo,hyld⟩:=it.go k H' v hPk hv
    simp only [cT] at eg'
    have hik:i<Γk.length:=by rw [g.len];exact hi
    have rep:Rep K (cN H' (A0::Gs.flatten++(F++O)++Fk.flatten)) v d:=(hr.2 k v d hv hd).mono (sF g.same fun a ha=>by
     rcases List.mem_append.mp ha with z | z
     ·rcases List.mem_append.mp z with z | z
      ·rcases List.mem_cons.mp z with z | z
       ·rw [z];exact .inr hD
       ·exact (g.new a (mem_append_left _ z)).elim (fun y=>.inl (mem_append_right _ y)) .inr
      ·rcases List.mem_append.mp z with z | z
       ·exact .inl (mem_append_right _ (nH hF z))
       ·exact .inl (mem_append_left _ z)
     ·exact (g.new a (mem_append_right _ z)).elim (fun y=>.inl (mem_append_right _ y)) .inr)
    have Ep:EnvOk K He (A0::Gs.flatten++(F++O)) (Fk.set i []) H' ((bC [i] σ).set i (some v)) (Γk.set i (some ⟨.leaf,d⟩)):=
     EnvOk.put (G:=[]) (p:=⟨.leaf,d⟩) (v:=v) g.env (.leaf rep) rfl (fun a ha=>by simp at ha) hik
    have hsl:ys.length<sizeLine:=by
     rw [g.l1]
     cases ec:fc (Γk.set i (some ⟨.leaf,d⟩)) with
     | no=>rw [ec] at eg';cases eg'
     | er c Γ'=>rw [ec] at eg';cases eg'
     | ok b Γa=>
      rw [ec] at eg'
      cases b with
      | false=>
       dsimp only at eg'
       split at eg'
       ·assumption
       ·cases eg'
      | true=>
       dsimp only at eg'
       split at eg'
       ·split at eg'
        ·rename_i z
         simp only [Bool.and_eq_true,decide_eq_true_eq] at z
         exact z.2
        ·cases eg'
       ·cases eg'
    refine ⟨hgo,hsl,fun x Hx hx=>?_⟩
    obtain ⟨rfl,rfl⟩:=hyld x Hx hx;show Ig (bC [i] σ) ((bC [i] σ).set i (some x))/\_
    refine ⟨⟨by rw [length_set],fun j u hj=>?_⟩,?_⟩
    ·have:=(kz hj).1
     rw [getElem?_set_ne (by simp at this;exact fun z=>this z.symm)]
     exact hj
    refine ⟨He,_,_,_,Ep,?_⟩
    cases ec:fc (Γk.set i (some ⟨.leaf,d⟩)) with
    | no=>rw [ec] at eg';cases eg'
    | er c Γ'=>rw [ec] at eg';cases eg'
    | ok b Γa=>
     rw [ec] at eg';intro H3 Fs3 s3 E3 n3;have lena:Γa.length=Γ1.length:=by
      have:=E3.len1
      rw [length_set,HE,E1.len1] at this;exact this.symm
     have n3':∀a∈Fs3.flatten,a∈Fs1.flatten\/H1 a=none:=fun a ha=>(n3 a ha).elim (fun z=>by
      have pm:((Fk.set i []).flatten).Perm Fk.flatten:=by simpa using qD (G:=[]) g.noneF
      exact g.new a (mem_append_right _ (pm.mem_iff.mp z))) fun z=>.inr (g.same.free z)
     cases b with
     | false=>
      dsimp only at eg'
      split at eg'
      case isFalse=>cases eg'
      refine mQ ⟨vs.length-(k+1),by omega,rfl,hlt,Γa.set i none,Fs3.set i [],Gs,acc,⟨E3.forget (by rw [lena];exact hi),g.same.trans s3,s3 _ _ g.at_,fun a ha=>?_,g.l1,g.l2,fun j v d G h1 h2 h3=>(g.own j v d G h1 h2 h3).mono s3 fun a ha=>?_,getElem?_set_self (by rw [lena];exact hi),getElem?_set_self (by rw [E3.len2,lena];exact hi),by rw [length_set];exact lena⟩,eg'⟩
      ·rcases List.mem_append.mp ha with z | z
       ·exact g.new a (mem_append_left _ z)
       ·obtain ⟨F3,hF3⟩:=E3.lt (i:=i) (by rw [lena];exact hi)
        have pm:(F3++(Fs3.set i []).flatten).Perm Fs3.flatten:=by simpa using qD (G:=[]) hF3
        exact n3' a (pm.mem_iff.mp (mem_append_right _ z))
      ·rcases List.mem_append.mp ha with z | z
       ·exact .inl (mem_append_left _ z)
       ·obtain ⟨F3,hF3⟩:=E3.lt (i:=i) (by rw [lena];exact hi)
        have pm:(F3++(Fs3.set i []).flatten).Perm Fs3.flatten:=by simpa using qD (G:=[]) hF3
        have pm2:((Fk.set i []).flatten).Perm Fk.flatten:=by simpa using qD (G:=[]) g.noneF
        exact (n3 a (pm.mem_iff.mp (mem_append_right _ z))).elim (fun y=>.inl (mem_append_right _ (pm2.mem_iff.mp y))) .inr
     | true=>
      refine mP ⟨He,_,_,_,E3,?_⟩
      dsimp only at eg'
      cases ee:fe Γa with
      | no=>rw [ee] at eg';cases eg'
      | er c Γ'=>rw [ee] at eg';cases eg'
      | ok p Γb=>
       rw [ee] at eg';dsimp only at eg'
       split at eg'
       case isFalse=>cases eg'
       rename_i hco;simp only [Bool.and_eq_true,decide_eq_true_eq] at hco
       obtain ⟨hco,_⟩:=hco;intro u H4 G Fs4 A4;have lenb:Γb.length=Γ1.length:=by
        have:=A4.env.len1
        rw [length_set,HE,E1.len1] at this;exact this.symm
       have hib:i<Γb.length:=by rw [lenb];exact hi
       have at4:H4 A0=some (.lst ys):=A4.same _ _ (s3 _ _ g.at_)
       have s14:Same H1 H4:=(g.same.trans s3).trans A4.same
       have pmk:((Fk.set i []).flatten).Perm Fk.flatten:=by simpa using qD (G:=[]) g.noneF
       obtain ⟨F4,hF4⟩:=A4.env.lt hib;have pm4:(F4++(Fs4.set i []).flatten).Perm Fs4.flatten:=by simpa using qD (G:=[]) hF4
       have new4:∀a∈G++Fs4.flatten,a∈Fs1.flatten\/H1 a=none:=fun a ha=>(A4.new a ha).elim (n3' a) fun z=>.inr ((g.same.trans s3).free z)
       have hG':∀a∈bw s G,a∈G:=fun a ha=>ki ha
       obtain ⟨k1,k2,k3⟩:=List.nodup_append.mp A4.env.ndO;have ndk:(bw s G).Nodup:=by
        cases s<;>first | exact nodup_nil | exact k1
       have pmO:(A0::(Gs++[bw s G]).flatten++(F++O)).Perm (bw s G++(A0::Gs.flatten++(F++O))):=by
        rw [DJ];show (A0::((Gs.flatten++bw s G)++(F++O))).Perm _
        refine List.Perm.trans ?_ List.perm_middle.symm
        refine List.Perm.cons _ ?_
        rw [append_assoc];exact pL _ _ _
       have E5:EnvOk K He (bw s G++(A0::Gs.flatten++(F++O))) Fs4 H4 ((bC [i] σ).set i (some x)) Γb:=A4.env.drop (fun a ha=>by
        rcases List.mem_append.mp ha with z | z
        ·exact mem_append_left _ (hG' a z)
        ·exact mem_append_right _ z) (List.nodup_append.mpr ⟨ndk,k2,fun a ha b hb=>k3 a (hG' a ha) b hb⟩)
       have E6:=(E5.perm pmO).forget hib
       have hDin:A0∈A0::(Gs++[bw s G]).flatten++(F++O):=mem_cons_self
       have E7:=E6.mutO (o:=.lst (ys++[u])) hDin at4 hHeD
       have subH:∀a∈A0::(Gs++[bw s G]).flatten++(F++O)++(Fs4.set i []).flatten,a∈G++(A0::Gs.flatten++(F++O))++Fs4.flatten:=fun a ha=>by
        rcases List.mem_append.mp ha with z | z
        ·rcases List.mem_append.mp (pmO.mem_iff.mp z) with y | y
         ·exact mem_append_left _ (mem_append_left _ (hG' a y))
         ·exact mem_append_left _ (mem_append_right _ y)
        ·exact mem_append_right _ (pm4.mem_iff.mp (mem_append_right _ z))
       have Dnot:∀{j:Nat} {Gj:List Addr},Gs[j]?=some Gj->A0∉Gj:=fun {j Gj} hj z=>by
        have nd:=g.env.ndO
        exact (List.nodup_cons.mp nd).1 (mem_append_left _ (nH hj z))
       refine ⟨at4,vs.length-(k+1),by omega,rfl,hlt,Γb.set i none,Fs4.set i [],Gs++[bw s G],acc++[p.d],⟨E7,fun b o hb=>?_,gf,fun a ha=>?_,by simp [g.l1],by simp [g.l2],fun j w d' G' h1 h2 h3=>?_,getElem?_set_self hib,getElem?_set_self (by rw [A4.env.len2];exact hib),by rw [length_set];exact lenb⟩,eg'⟩
       ·rw [d0 (wZ hb hD)]
        exact s14 b o hb
       ·rcases List.mem_append.mp ha with z | z
        ·rw [DJ] at z
         rcases List.mem_append.mp z with z | z
         ·exact g.new a (mem_append_left _ z)
         ·exact new4 a (mem_append_left _ (hG' a z))
        ·exact new4 a (mem_append_right _ (pm4.mem_iff.mp (mem_append_right _ z)))
       ·by_cases hj:j<ys.length
        ·rw [getElem?_append_left hj] at h1
         rw [getElem?_append_left (by rw [<-g.l1];exact hj)] at h2
         rw [getElem?_append_left (by rw [g.l2,<-g.l1];exact hj)] at h3
         have o1:=g.own j w d' G' h1 h2 h3
         have o2:=o1.mono (O':=A0::(Gs++[bw s G]).flatten++(F++O)++(Fs4.set i []).flatten) (s3.trans A4.same) fun a ha=>by
          have up:a∈G++Fs4.flatten->a∈A0::Gs.flatten++(F++O)++Fk.flatten\/Hx a=none:=fun z=>(A4.new a z).elim (fun y=>(n3 a y).elim (fun y=>.inl (mem_append_right _ (pmk.mem_iff.mp y))) .inr) fun y=>.inr (s3.free y)
          rcases List.mem_append.mp (subH a ha) with z | z
          ·rcases List.mem_append.mp z with z | z
           ·exact up (mem_append_left _ z)
           ·exact .inl (mem_append_left _ z)
          ·exact up (mem_append_right _ z)
         exact o2.mut hsv (mem_append_left _ hDin) (Dnot h3) at4
        ·have hj':j=ys.length:=by
          have:=(List.getElem?_eq_some_iff.mp h1).1
          rw [length_append,length_singleton] at this;omega
         subst hj'
         rw [getElem?_append_right (Nat.le_refl _),Nat.sub_self] at h1;rw [getElem?_append_right (by rw [g.l1];exact Nat.le_refl _),show ys.length-acc.length=0 by rw [g.l1];exact Nat.sub_self _] at h2
         rw [getElem?_append_right (by rw [g.l2,g.l1];exact Nat.le_refl _),show ys.length-Gs.length=0 by rw [g.l2,g.l1];exact Nat.sub_self _] at h3
         cases h1
         cases h2
         cases h3;have o3:=A4.own.coer (s:=s) (O':=A0::(Gs++[bw s G]).flatten++(F++O)++(Fs4.set i []).flatten) hco subH fun a ha hO=>by
          cases s with
          | leaf=>
           exfalso
           have hO':a∈(A0::Gs.flatten++(F++O))++(Fs4.set i []).flatten:=by
            rw [DJ] at hO;simpa [bw] using hO
           rcases List.mem_append.mp hO' with z | z
           ·exact k3 a ha a z rfl
           ·have nd:=A4.env.nd
            exact (List.nodup_append.mp nd).2.2 a (mem_append_left _ ha) a (pm4.mem_iff.mp (mem_append_right _ z)) rfl
          | view=>cases hsv
          | lst s=>exact ha
          | tup ss=>exact ha
         refine o3.mut hsv (mem_append_left _ hDin) (fun z=>?_) at4
         exact k3 A0 (hG' A0 z) A0 mem_cons_self rfl
end
inductive dr where
 | nx (e:Ev) | bk (e:Ev) | ct (e:Ev) | rt (p:PV) | er (c:Str) (e:Ev) | no
abbrev FS:=Ev->dr
structure RetOk (K:Fg) (He:Hp) (O:List Addr) (p:PV) (v:V) (H':Hp) (G:List Addr):Prop where
 same:Same He H'
 fresh:∀a∈G,He a=none
 inH:∀a∈G,H' a≠none
 nd:G.Nodup
 own:Own K (G++O) H' p.s G v p.d
 nv:p.s.isView=false
noncomputable def bZ (K:Fg) (W:XW) (He:Hp) (O:List Addr) (D:eu):dr->Prop
 | .nx Γ'=>∀σ' H' Fs',EnvOk K He O Fs' H' σ' Γ'->D.nx σ' H'
 | .bk Γ'=>∀σ' H' Fs',EnvOk K He O Fs' H' σ' Γ'->D.bk σ' H'
 | .ct Γ'=>∀σ' H' Fs',EnvOk K He O Fs' H' σ' Γ'->D.ct σ' H'
 | .rt p=>∀v H' G,RetOk K He O p v H' G->D.rt v H'
 | .er c Γ'=>∀σ' H' Fs',EnvOk K He O Fs' H' σ' Γ'->W c σ' H'
 | .no=>False
noncomputable def tS (K:Fg) (W:XW) (g:FS):TS:=fun D σ H=>∃He O Fs Γ,EnvOk K He O Fs H σ Γ/\bZ K W He O D (g Γ)
noncomputable def aP:FS:=fun Γ=>.nx Γ
noncomputable def ak (g1 g2:FS):FS:=fun Γ=>match g1 Γ with
 | .nx Γ'=>g2 Γ'
 | o=>o
noncomputable def kc (f:F1) (k:PV->Ev->dr):FS:=fun Γ=>match f Γ with
 | .ok p Γ'=>k p Γ'
 | .er c Γ'=>.er c Γ'
 | .no=>.no
noncomputable def bO (c:FB) (a b:FS):FS:=fun Γ=>match c Γ with
 | .ok t Γ'=>if t then a Γ' else b Γ'
 | .er c Γ'=>.er c Γ'
 | .no=>.no
section
variable {K:Fg} {W:XW} {σ:St} {H:Hp} {D:eu} {fa fb:F1} {ga gb:FB} {g1 g2:FS}
theorem xw (h:tS K W aP D σ H):zy D σ H:=by
 obtain ⟨He,O,Fs,Γ,E,h⟩:=h;exact h σ H Fs E
theorem um (h:tS K W (ak g1 g2) D σ H):gS (tS K W g1) (tS K W g2) D σ H:=by
 obtain ⟨He,O,Fs,Γ,E,h⟩:=h;refine ⟨He,O,Fs,Γ,E,?_⟩
 unfold ak at h
 cases e:g1 Γ with
 | nx Γ'=>rw [e] at h;exact fun σ' H' Fs' E'=>⟨He,O,Fs',Γ',E',h⟩
 | bk Γ'=>rw [e] at h;exact h
 | ct Γ'=>rw [e] at h;exact h
 | rt p=>rw [e] at h;exact h
 | er c Γ'=>rw [e] at h;exact h
 | no=>rw [e] at h;exact h
theorem j8 {k:PV->Ev->dr} {R:VK} (h:tS K W (kc fa k) D σ H)
  (hk:∀He O Fs Γ1 p v H1 G Fs1,EnvOk K He O Fs H σ Γ1\/True->(∀a∈G,He a=none)->Aft K He O Fs H σ Γ1 p v H1 G Fs1->bZ K W He O D (k p Γ1)->R v H1):tE K W fa σ H R:=by
 obtain ⟨He,O,Fs,Γ,E,h⟩:=h;refine ⟨He,O,Fs,Γ,E,?_⟩
 unfold kc at h
 cases e:fa Γ with
 | ok p Γ1=>rw [e] at h;exact fun v H' G Fs' A=>hk He O Fs Γ1 p v H' G Fs' (.inr trivial) (A.freshG E) A h
 | er c Γ1=>rw [e] at h;exact fun H' Fs' s E'=>h σ H' Fs' E'
 | no=>rw [e] at h;exact h
theorem Bj (h:tS K W (bO ga g1 g2) D σ H):EH (tT K W ga) (tS K W g1) (tS K W g2) D σ H:=by
 obtain ⟨He,O,Fs,Γ,E,h⟩:=h;refine ⟨He,O,Fs,Γ,E,?_⟩
 unfold bO at h
 cases e:ga Γ with
 | ok b Γ1=>
  rw [e] at h;intro H' Fs' s E' n
  cases b with
  | true=>exact mP ⟨He,O,Fs',Γ1,E',h⟩
  | false=>exact mQ ⟨He,O,Fs',Γ1,E',h⟩
 | er c Γ1=>rw [e] at h;exact fun H' Fs' s E'=>h σ H' Fs' E'
 | no=>rw [e] at h;exact h
noncomputable def aS (f:F1):FS:=kc f fun p _=>if p.s.isView then (if bL p.d then .rt ⟨.leaf,p.d⟩ else .no) else .rt p
theorem uo (h:tS K W (aS fa) D σ H):xf (tE K W fa) D σ H:=by
 refine j8 h fun He O Fs Γ1 p v H1 G Fs1 _ fr A w=>?_
 obtain ⟨n1,n2,n3⟩:=List.nodup_append.mp A.env.ndO;have inH:∀a∈G,H1 a≠none:=fun a ha=>A.env.inH a (mem_append_left _ (mem_append_left _ ha))
 cases hv:p.s.isView with
 | false=>
  have w:bZ K W He O D (.rt p):=by simpa [hv] using w
  exact w v H1 G ⟨A.env.same,fr,inH,n1,A.own.perm fun a ha=>mem_append_left _ ha,hv⟩
 | true=>
  cases hs:bL p.d with
  | false=>rw [hv,hs] at w;exact w.elim
  | true=>
   have w:bZ K W He O D (.rt ⟨.leaf,p.d⟩):=by simpa [hv,hs] using w
   exact w v H1 [] ⟨A.env.same,(fun _ z=>nomatch z),(fun _ z=>nomatch z),nodup_nil,.leaf (A.own.rep.sc hs).rep,rfl⟩
noncomputable def aE (own:Bool) (i:Nat) (f:F1):FS:=kc f fun p Γ=>if i<Γ.length then (if own&&!p.s.isView then .nx (Γ.set i (some p)) else if T.coer .leaf p then .nx (Γ.set i (some ⟨.leaf,p.d⟩)) else .no) else .no
theorem Hj {own:Bool} {i:Nat} (h:tS K W (aE own i fa) D σ H):kE (tE K W fa) (gName i) D σ H:=by
 refine j8 h fun He O Fs Γ1 p v H1 G Fs1 _ fr A w=>?_
 show D.nx (σ.set i (some v)) H1
 have w:bZ K W He O D (if i<Γ1.length then (if own&&!p.s.isView then .nx (Γ1.set i (some p)) else if T.coer .leaf p then .nx (Γ1.set i (some ⟨.leaf,p.d⟩)) else .no) else .no):=w
 by_cases hi:i<Γ1.length
 case neg=>rw [if_neg hi] at w;exact w.elim
 rw [if_pos hi] at w
 cases ho:(own&&!p.s.isView) with
 | true=>
  rw [ho] at w;have hv:p.s.isView=false:=by
   simp only [Bool.and_eq_true,Bool.not_eq_true'] at ho
   exact ho.2
  exact w _ H1 _ (EnvOk.put A.env A.own hv fr hi)
 | false=>
  rw [ho] at w
  cases hc:T.coer .leaf p with
  | false=>rw [hc] at w;exact w.elim
  | true=>
   rw [hc] at w;have o:=A.own.coer (s:=.leaf) (O':=O++Fs1.flatten) hc jb fun a ha z=>absurd z (A.disj a ha)
   exact w _ H1 _ (EnvOk.put (G:=[]) (p:=⟨.leaf,p.d⟩) (v:=v) A.go o rfl (fun a ha=>by simp at ha) hi)
noncomputable def aR (f:F1):FS:=kc f fun _ Γ=>.nx Γ
theorem xC (h:tS K W (aR fa) D σ H):j9 (tE K W fa) D σ H:=
 j8 h fun He O Fs Γ1 p v H1 G Fs1 _ fr A w=>w σ H1 Fs1 A.go
theorem Eg {α:Type} {l:List α} {i:Nat} {x:α} (h:l[i]?=some x):l.set i x=l:=by
 apply ext_getElem?
 intro j;by_cases hj:j=i
 ·subst hj
  rw [getElem?_set_self (List.getElem?_eq_some_iff.mp h).1,h]
 ·rw [getElem?_set_ne (Ne.symm hj)]
noncomputable def yY (i:Nat) (p:PV) (Γ:Ev):dr:=match Γ[i]? with
 | some (some ⟨.lst s,.list ds⟩)=>if T.coer s p&&decide (ds.length<sizeLine) then .nx (Γ.set i (some ⟨.lst s,.list (ds++[p.d])⟩)) else .no
 | _=>.no
noncomputable def hJ:Option (Option PV)->Bool
 | some (some ⟨.lst _,.list _⟩)=>true
 | _=>false
noncomputable def aV (i:Nat) (f:F1):FS:=fun Γ=>if hJ Γ[i]? then kc f (yY i) Γ else .no
theorem yX {He H:Hp} {O G:List Addr} {Fs:List (List Addr)} {Γ:Ev} {i:Nat} {s:Sh} {ds:List PySem.PyData} {p:PV} {v:V} (E:EnvOk K He (G++O) Fs H σ Γ) (o:Own K (G++O++Fs.flatten) H p.s G v p.d) (fr:∀a∈G,He a=none)
  (h:Γ[i]?=some (some ⟨.lst s,.list ds⟩)) (hc:T.coer s p=true) :
  ∃l vs,σ[i]?=some (some (.ref l))/\H l=some (.lst vs)/\vs.length=ds.length/\∃Fs',EnvOk K He O Fs' (bU H l (.lst (vs++[v]))) σ (Γ.set i (some ⟨.lst s,.list (ds++[p.d])⟩)):=by
 obtain ⟨hv,u,F,h1,E1,o1,sub⟩:=E.move h;have hi:i<Γ.length:=(List.getElem?_eq_some_iff.mp h).1
 cases o1 with
 | @lst _ l vs _ Fs0 hsv hp hl hf nd q=>
  refine ⟨l,vs,h1,hp,hl,Fs.set i (l::(Fs0++[bw s G]).flatten),?_⟩
  have hlF:l∈Fs.flatten:=sub l (mem_append_left _ mem_cons_self)
  have hHe:He l=none:=E.fresh l hlF
  have hG':∀a∈bw s G,a∈G:=fun a ha=>ki ha
  obtain ⟨k1,k2,k3⟩:=List.nodup_append.mp E1.ndO;obtain ⟨g1,g2,g3⟩:=List.nodup_append.mp k2;have ndk:(bw s G).Nodup:=by
   cases s<;>first | exact nodup_nil | exact g1
  have pmO:((l::(Fs0++[bw s G]).flatten)++O).Perm ((l::Fs0.flatten)++(bw s G++O)):=by
   rw [DJ];show (l::((Fs0.flatten++bw s G)++O)).Perm (l::(Fs0.flatten++(bw s G++O)))
   rw [append_assoc]
  have E2:EnvOk K He ((l::Fs0.flatten)++(bw s G++O)) (Fs.set i []) H σ (Γ.set i none):=E1.drop (fun a ha=>by
   rcases List.mem_append.mp ha with z | z
   ·exact mem_append_left _ z
   ·refine mem_append_right _ ?_
    rcases List.mem_append.mp z with z | z
    ·exact mem_append_left _ (hG' a z)
    ·exact mem_append_right _ z) (List.nodup_append.mpr ⟨k1,List.nodup_append.mpr ⟨ndk,g2,fun a ha b hb=>g3 a (hG' a ha) b hb⟩,fun a ha b hb=>k3 a ha b (by
     rcases List.mem_append.mp hb with z | z
     ·exact mem_append_left _ (hG' b z)
     ·exact mem_append_right _ z)⟩)
  have E3:=E2.perm pmO
  have hlin:l∈(l::(Fs0++[bw s G]).flatten)++O:=mem_cons_self
  have E4:=E3.mutO (o:=.lst (vs++[v])) hlin hp hHe
  have lnG:l∉G:=fun z=>k3 l mem_cons_self l (mem_append_left _ z) rfl
  have subH:∀a∈(l::(Fs0++[bw s G]).flatten)++O++(Fs.set i []).flatten,a∈(l::Fs0.flatten)++(G++O)++(Fs.set i []).flatten:=fun a ha=>by
   rcases List.mem_append.mp ha with z | z
   ·refine mem_append_left _ ?_
    rcases List.mem_append.mp (pmO.mem_iff.mp z) with y | y
    ·exact mem_append_left _ y
    ·refine mem_append_right _ ?_
     rcases List.mem_append.mp y with y | y
     ·exact mem_append_left _ (hG' a y)
     ·exact mem_append_right _ y
   ·exact mem_append_right _ z
  have ownL:Own K ((l::(Fs0++[bw s G]).flatten)++O++(Fs.set i []).flatten) (bU H l (.lst (vs++[v]))) (.lst s) (l::(Fs0++[bw s G]).flatten) (.ref l) (.list (ds++[p.d])):=by
   refine .lst hsv gf (by simp [hl]) (by simp [hf]) ?_ fun j w d' G' e1 e2 e3=>?_
   ·have nd2:=E3.ndO
    exact (List.nodup_append.mp nd2).1
   ·by_cases hj:j<vs.length
    ·rw [getElem?_append_left hj] at e1
     rw [getElem?_append_left (by omega)] at e2
     rw [getElem?_append_left (by omega)] at e3
     exact ((q j w d' G' e1 e2 e3).perm subH).mut hsv (mem_append_left _ hlin) (fun z=>(List.nodup_cons.mp nd).1 (nH e3 z)) hp
    ·have hj':j=vs.length:=by
      have:=(List.getElem?_eq_some_iff.mp e1).1
      rw [length_append,length_singleton] at this;omega
     subst hj'
     rw [getElem?_append_right (Nat.le_refl _),Nat.sub_self] at e1;rw [getElem?_append_right (by omega),show vs.length-ds.length=0 by omega] at e2
     rw [getElem?_append_right (by omega),show vs.length-Fs0.length=0 by omega] at e3
     cases e1
     cases e2
     cases e3;have osub:∀a∈(l::(Fs0++[bw s G]).flatten)++O++(Fs.set i []).flatten,a∈G++O++Fs.flatten:=fun a ha=>by
      rcases List.mem_append.mp (subH a ha) with z | z
      ·rcases List.mem_append.mp z with z | z
       ·exact mem_append_right _ (sub a (mem_append_left _ z))
       ·exact mem_append_left _ z
      ·exact mem_append_right _ (sub a (mem_append_right _ z))
     have o3:=o.coer (s:=s) hc osub fun a ha hO=>by
      cases s with
      | leaf=>
       exfalso
       rw [DJ] at hO;have hO':a∈(l::Fs0.flatten)++O++(Fs.set i []).flatten:=by simpa [bw] using hO
       have ndE:=E.nd
       rw [append_assoc] at ndE;have dis:=(List.nodup_append.mp ndE).2.2
       rcases List.mem_append.mp hO' with z | z
       ·rcases List.mem_append.mp z with z | z
        ·exact dis a ha a (mem_append_right _ (sub a (mem_append_left _ z))) rfl
        ·exact dis a ha a (mem_append_left _ z) rfl
       ·exact dis a ha a (mem_append_right _ (sub a (mem_append_right _ z))) rfl
      | view=>cases hsv
      | lst s=>exact ha
      | tup ss=>exact ha
     exact o3.mut hsv (mem_append_left _ hlin) (fun z=>lnG (hG' l z)) hp
  have fin:=EnvOk.put (i:=i) (p:=⟨.lst s,.list (ds++[p.d])⟩) (v:=.ref l) E4 ownL rfl (fun a ha=>?_) (by rw [length_set];exact hi)
  ·rw [set_set,set_set,Eg h1] at fin
   exact fin
  ·rcases List.mem_cons.mp ha with z | z
   ·rw [z];exact hHe
   ·rw [DJ] at z
    rcases List.mem_append.mp z with z | z
    ·exact E.fresh a (sub a (mem_append_left _ (mem_cons_of_mem _ z)))
    ·exact fr a (hG' a z)
theorem Iv {QL:List V->Hp->Prop} (h1:tE K W fa σ H fun v H'=>QL [v] H'):tA K W (ae fa ah) σ H QL:=by
 obtain ⟨He,O,Fs,Γ,E,h1⟩:=h1;refine ⟨He,O,Fs,Γ,E,?_⟩
 unfold ae ah
 cases e:fa Γ with
 | ok p Γ'=>
  rw [e] at h1;intro vs H' Gs Fs' A
  match vs,Gs,A.len1,A.len2 with
  | [v],[G],_,_=>exact h1 v H' G Fs' ⟨A.same,by simpa using A.env,by simpa using A.new,by simpa using A.own 0 v p G rfl rfl rfl⟩
 | er c Γ'=>rw [e] at h1;exact h1
 | no=>rw [e] at h1;exact h1
theorem rG {o:Option (Option PV)} (h:hJ o=true):∃s ds,o=some (some ⟨.lst s,.list ds⟩):=by
 unfold hJ at h;split at h
 ·exact ⟨_,_,rfl⟩
 ·cases h
theorem EnvOk.ownL {He H:Hp} {O:List Addr} {Fs:List (List Addr)} {Γ:Ev} {i:Nat} {s:Sh} {ds:List PySem.PyData} (E:EnvOk K He O Fs H σ Γ) (h:Γ[i]?=some (some ⟨.lst s,.list ds⟩)):∃l vs,σ[i]?=some (some (.ref l))/\H l=some (.lst vs)/\vs.length=ds.length:=by
 obtain ⟨hv,v,F,h1,h2,h3⟩:=E.slot i _ h
 cases h3 with
 | @lst _ l vs _ Fs0 hsv hp hl hf nd q=>exact ⟨l,vs,h1,hp,hl⟩
theorem qS {i:Nat} (h:tS K W (aV i fa) D σ H):j9 (JG K "list" pH (b6 i) (tA K W (ae fa ah))) D σ H:=by
 obtain ⟨He,O,Fs,Γ,E,h⟩:=h;unfold aV at h
 cases ho:hJ Γ[i]? with
 | false=>rw [ho] at h;exact h.elim
 | true=>
  rw [ho] at h;obtain ⟨s,ds,e0⟩:=rG ho;obtain ⟨l,vs,h1,h2,h3⟩:=E.ownL e0;refine ⟨.ref l,h1,.inl ⟨rfl,vs,.of h2⟩,Iv (j8 (D:=D) ⟨He,O,Fs,Γ,E,h⟩ fun He O Fs Γ1 p v H1 G Fs1 _ fr A w=>?_)⟩
  unfold yY at w;split at w
  ·rename_i s1 ds1 e1
   cases hc:(T.coer s1 p&&decide (ds1.length<sizeLine)) with
   | false=>rw [hc] at w;exact w.elim
   | true=>
    rw [hc] at w;simp only [Bool.and_eq_true,decide_eq_true_eq] at hc
    obtain ⟨l1,vs1,q1,q2,q3,Fs',E'⟩:=yX A.env A.own fr e1 hc.1;rw [h1] at q1
    cases q1;exact ⟨l,vs1,v,rfl,rfl,q2,by rw [q3];exact hc.2,w σ _ Fs' E'⟩
  ·exact w.elim
noncomputable def cD (i:Nat) (body:FS):List PySem.PyData->Ev->dr
 | [],Γ=>.nx Γ
 | d::r,Γ=>if i<Γ.length then (match body (Γ.set i (some ⟨.leaf,d⟩)) with
  | .nx Γ'=>cD i body r Γ'
  | .ct Γ'=>cD i body r Γ'
  | .bk Γ'=>.nx Γ'
  | .rt p=>.rt p
  | .er c Γ'=>.er c Γ'
  | .no=>.no) else .no
noncomputable def eJ (i:Nat) (fi:FI) (body:FS):FS:=fun Γ=>match fi Γ with
 | .ok t Γ1=>if t.st then cD i body t.ds Γ1 else .no
 | .er c Γ1=>.er c Γ1
 | .no=>.no
theorem EnvOk.rebase {He H:Hp} {O:List Addr} {Fs:List (List Addr)} {Γ:Ev} (E:EnvOk K He O Fs H σ Γ):EnvOk K (cN H Fs.flatten) O Fs H σ Γ/\Same He (cN H Fs.flatten):=
 ⟨⟨E.len1,E.len2,hid_le,E.nd,E.inH,fun a ha=>by unfold cN;rw [if_pos ha],E.slot⟩,fun b o e=>wF (E.same b o e) fun z=>by have:=E.fresh b z;rw [e] at this;cases this⟩
theorem EnvOk.unbase {He He' H:Hp} {O:List Addr} {Fs:List (List Addr)} {Γ:Ev} (E:EnvOk K He' O Fs H σ Γ) (s:Same He He'):EnvOk K He O Fs H σ Γ:=
 ⟨E.len1,E.len2,s.trans E.same,E.nd,E.inH,fun a ha=>s.free (E.fresh a ha),E.slot⟩
theorem RetOk.unbase {He He' H:Hp} {O G:List Addr} {p:PV} {v:V} (r:RetOk K He' O p v H G) (s:Same He He'):RetOk K He O p v H G:=
 ⟨s.trans r.same,fun a ha=>s.free (r.fresh a ha),r.inH,r.nd,r.own,r.nv⟩
theorem Bm {i:Nat} {fi:FI} {body:FS} (h:tS K W (eJ i fi body) D σ H):xi (tI K W fi) (gName i) (tS K W body) D σ H:=by
 obtain ⟨He,O,Fs,Γ,E,h⟩:=h;refine ⟨He,O,Fs,Γ,E,?_⟩
 unfold eJ at h
 cases e:fi Γ with
 | er c Γ1=>rw [e] at h;exact fun H' Fs' s E'=>h σ H' Fs' E'
 | no=>rw [e] at h;exact h
 | ok t Γ1=>
  rw [e] at h;intro J H1 Fs1 vs P s1 E1 n1 it hP hP1 hst hr;have h:bZ K W He O D (if t.st then cD i body t.ds Γ1 else .no):=h
  cases ht:t.st with
  | false=>rw [ht] at h;exact h.elim
  | true=>
   rw [ht] at h;have h:bZ K W He O D (cD i body t.ds Γ1):=h
   obtain ⟨E1',sHe⟩:=E1.rebase;have hlen:vs.length=t.ds.length:=hr.1
   refine ⟨fun k m σ' H'=>m=vs.length-k/\k<=vs.length/\∃Γk Fk,EnvOk K (cN H1 Fs1.flatten) O Fk H' σ' Γk/\bZ K W He O D (cD i body (t.ds.drop k) Γk),⟨vs.length,by simp,Nat.zero_le _,Γ1,Fs1,E1',by simpa using h⟩,?_⟩
   rintro k m σ' H' ⟨rfl,hk,Γk,Fk,Ek,hw⟩
   have hPk:P H':=hst ht H' Ek.same
   by_cases hlt:k<vs.length
   case neg=>
    left
    have hke:k=vs.length:=by omega
    have:t.ds.drop k=[]:=List.drop_eq_nil_of_le (by omega)
    rw [this] at hw;exact ⟨by rw [hke];exact it.stop H' hPk,hw σ' H' Fk (Ek.unbase sHe)⟩
   case pos=>
    right
    have hv:vs[k]?=some vs[k]:=getElem?_eq_getElem hlt
    have hkd:k<t.ds.length:=by omega
    have hd:t.ds[k]?=some t.ds[k]:=getElem?_eq_getElem hkd
    have hdr:t.ds.drop k=t.ds[k]::t.ds.drop (k+1):=List.drop_eq_getElem_cons hkd
    rw [hdr] at hw;generalize hdk:t.ds[k]=d at hd hw
    generalize hvk:vs[k]=v at hv
    obtain ⟨hgo,hyld⟩:=it.go k H' v hPk hv
    simp only [cD] at hw
    by_cases hi:i<Γk.length
    case neg=>rw [if_neg hi] at hw;exact hw.elim
    rw [if_pos hi] at hw;have rep:Rep K (cN H' (O++Fk.flatten)) v d:=by
     refine (hr.2 k v d hv hd).mono fun b o hb=>?_
     have hb1:cN H1 Fs1.flatten b=some o:=sub_hid b o hb
     have hbO:b∉O:=fun z=>by
      unfold cN at hb;rw [if_pos (mem_append_left _ z)] at hb
      cases hb
     have hbF:b∉Fk.flatten:=fun z=>by
      have:=Ek.fresh b z
      rw [hb1] at this
      cases this
     exact wF (Ek.same b o hb1) fun z=>(List.mem_append.mp z).elim hbO hbF
    have Ep:EnvOk K (cN H1 Fs1.flatten) O (Fk.set i []) H' (σ'.set i (some v)) (Γk.set i (some ⟨.leaf,d⟩)):=
     EnvOk.put (G:=[]) (p:=⟨.leaf,d⟩) (v:=v) Ek (.leaf rep) rfl (fun a ha=>by simp at ha) hi
    refine ⟨hgo,fun σ2 H2=>∃Γk Fk,EnvOk K (cN H1 Fs1.flatten) O Fk H2 σ2 Γk/\bZ K W He O D (cD i body (t.ds.drop (k+1)) Γk),fun σ2 H2 q=>⟨vs.length-(k+1),by omega,rfl,hlt,q⟩,fun x Hx hx=>?_⟩
    obtain ⟨rfl,rfl⟩:=hyld x Hx hx;show tS K W body _ (σ'.set i (some x)) Hx
    refine ⟨cN H1 Fs1.flatten,O,_,_,Ep,?_⟩
    cases eb:body (Γk.set i (some ⟨.leaf,d⟩)) with
    | nx Γ'=>rw [eb] at hw;exact fun σ2 H2 F2 E2=>⟨Γ',F2,E2,hw⟩
    | ct Γ'=>rw [eb] at hw;exact fun σ2 H2 F2 E2=>⟨Γ',F2,E2,hw⟩
    | bk Γ'=>rw [eb] at hw;exact fun σ2 H2 F2 E2=>hw σ2 H2 F2 (E2.unbase sHe)
    | rt p=>rw [eb] at hw;exact fun u H2 G r=>hw u H2 G (r.unbase sHe)
    | er c Γ'=>rw [eb] at hw;exact fun σ2 H2 F2 E2=>hw σ2 H2 F2 (E2.unbase sHe)
    | no=>rw [eb] at hw;exact hw
end
inductive bA where
 | ok (p:PV) | er (c:Str) | no
noncomputable def lR (K:Fg) (n:Nat) (den:List PySem.PyData->bA):Sp:=fun vs H Q _=>vs.length=n/\∃O ds,O.Nodup/\(∀a∈O,H a≠none)/\Reps K (cN H O) vs ds/\match den ds with
 | .ok p=>∀v H' G,RetOk K H O p v H' G->Q v H'
 | .er _=>False
 | .no=>False
noncomputable def aq (n:Nat) (ds:List PySem.PyData):Ev:=ds.map (fun d=>some ⟨.leaf,d⟩)++List.replicate (n-ds.length) none
noncomputable def aA (n:Nat) (g:FS) (ds:List PySem.PyData):bA:=match g (aq n ds) with
 | .nx _=>.ok ⟨.leaf,.none⟩
 | .rt p=>.ok p
 | .er c _=>.er c
 | _=>.no
section
variable {P:Program} {w:World} {K:Fg} {mg:Str->Option Value} {base:Heap}
theorem IT {N:List Str} {H:Hp} {O:List Addr} {vs:List V} {ds:List PySem.PyData} (hn:vs.length<=N.length) (nd:O.Nodup) (inH:∀a∈O,H a≠none) (rs:Reps K (cN H O) vs ds) :
  EnvOk K H O (List.replicate N.length []) H (L2.start N vs) (aq N.length ds):=by
 have fl:(List.replicate N.length ([]:List Addr)).flatten=[]:=by simp
 have hl:=rs.1
 refine ⟨by simp [L2.start,aq,hl],by simp [aq];omega,Same.refl _,by rw [fl];simpa using nd,by rw [fl];simpa using inH,fun a ha=>by rw [fl] at ha;simp at ha,fun i p hp=>?_⟩
 unfold aq at hp;by_cases hi:i<ds.length
 ·rw [getElem?_append_left (by simpa using hi),getElem?_map,getElem?_eq_getElem hi] at hp
  cases hp;refine ⟨rfl,vs[i]'(by omega),[],?_,?_,?_⟩
  ·unfold L2.start
   rw [getElem?_append_left (by simp;omega),getElem?_map,getElem?_eq_getElem (by omega)]
   rfl
  ·rw [getElem?_replicate,if_pos (by omega)]
  ·refine .leaf ?_
   rw [fl,append_nil];exact rs.2 i _ _ (getElem?_eq_getElem _) (getElem?_eq_getElem hi)
 ·rw [getElem?_append_right (by simpa using hi),getElem?_replicate] at hp
  split at hp<;>cases hp
theorem vE {x qual:Str} {st:Stmt} {f:Addr} {fd:FuncData} {N ps:List Str} {k:Nat} {g:FS} (F:Fun K x qual st f fd) (S:cK N ps (aI st))
  (hb:∀(cdv:Value) (A:Around) (outer:List Env) (s:Shared) (H:Hp) (E:XK),Room k (A.deeper (envOfC qual (aI st) s.heap.objs.size f cdv)) ->
   PSs (fg iY P w K mg base N qual (aI st) f cdv A outer s H E).nox (bE st) (tS K W0 g)):dk P w K mg base iY (k+1) f fd ps (lR K ps.length (aA N.length g)):=by
 have hpl:ps.length<=N.length:=by have:=congrArg List.length S.pre;rw [length_take] at this;omega
 refine F.ok S (fun vs H Q E h=>h.1) (fun cdv A outer s H vs Q E hr h=>⟨_,hb cdv A outer s H E hr,?_⟩)
 obtain ⟨hl,O,ds,nd,inH,rs,w⟩:=h;refine ⟨H,O,List.replicate N.length [],aq N.length ds,IT (by omega) nd inH rs,?_⟩
 unfold aA at w
 cases e:g (aq N.length ds) with
 | nx Γ'=>
  rw [e] at w;exact fun σ' H' Fs' E'=>w .non H' [] ⟨E'.same,(fun _ z=>nomatch z),(fun _ z=>nomatch z),nodup_nil,.leaf .non,rfl⟩
 | rt p=>rw [e] at w;exact w
 | bk Γ'=>rw [e] at w;exact w.elim
 | ct Γ'=>rw [e] at w;exact w.elim
 | er c Γ'=>rw [e] at w;exact w.elim
 | no=>rw [e] at w;exact w.elim
end
noncomputable def aj (n:Nat) (den:List PySem.PyData->bA) (fl:FL):F1:=fun Γ=>(fl Γ).bind fun ps Γ'=>if ps.length=n then (match den (ps.map (·.d)) with
 | .ok p=>if ps.all (T.coer .leaf) then .ok p Γ' else if bL p.d then .ok ⟨.leaf,p.d⟩ Γ' else .ok ⟨.view,p.d⟩ Γ'
 | _=>.no) else .no
section
variable {K:Fg} {W:XW} {σ:St} {H:Hp} {Q:VK} {fl:FL}
theorem pF {n:Nat} {den:List PySem.PyData->bA} {E:XK} (h:tE K W (aj n den fl) σ H Q):lP (lR K n den) [] E (tA K W fl) σ H Q:=by
 obtain ⟨He,O,Fs,Γ,E0,h⟩:=h;refine ⟨He,O,Fs,Γ,E0,?_⟩
 unfold aj at h
 cases e:fl Γ with
 | er c Γ'=>rw [e] at h;exact h
 | no=>rw [e] at h;exact h
 | ok ps Γ1=>
  rw [e] at h;intro vs H1 Gs Fs1 A;have h:Wants K W He O Fs H σ Q (if ps.length=n then (match den (ps.map (·.d)) with | .ok p=>if ps.all (T.coer .leaf) then .ok p Γ1 else if bL p.d then .ok ⟨.leaf,p.d⟩ Γ1 else .ok ⟨.view,p.d⟩ Γ1 | _=>.no) else .no):=h
  by_cases hn:ps.length=n
  case neg=>rw [if_neg hn] at h;exact h.elim
  rw [if_pos hn] at h;have hl:(vs++[]).length=n:=by rw [append_nil,A.len1];exact hn
  cases ed:den (ps.map (·.d)) with
  | er c=>rw [ed] at h;exact h.elim
  | no=>rw [ed] at h;exact h.elim
  | ok p=>
   rw [ed] at h;have h:Wants K W He O Fs H σ Q (if ps.all (T.coer .leaf) then .ok p Γ1 else if bL p.d then .ok ⟨.leaf,p.d⟩ Γ1 else .ok ⟨.view,p.d⟩ Γ1):=h
   obtain ⟨n1,n2,n3⟩:=List.nodup_append.mp A.env.nd;obtain ⟨m1,m2,m3⟩:=List.nodup_append.mp n1;have newF:∀a∈Fs1.flatten,a∈Fs.flatten\/H a=none:=fun a ha=>A.new a (mem_append_right _ ha)
   cases hc:ps.all (T.coer .leaf) with
   | true=>
    rw [hc] at h;have h:Wants K W He O Fs H σ Q (.ok p Γ1):=h
    refine ⟨hl,O++Fs1.flatten,ps.map (·.d),A.env.dropL.nd,A.env.dropL.inH,?_,?_⟩
    ·rw [append_nil]
     refine ⟨A.reps.1,fun i v d h1 h2=>?_⟩
     rw [getElem?_map] at h2
     cases e2:ps[i]? with
     | none=>rw [e2] at h2;cases h2
     | some q=>
      rw [e2] at h2
      cases h2;have hi:=(List.getElem?_eq_some_iff.mp e2).1
      have e3:Gs[i]?=some (Gs[i]'(by rw [A.len2];exact hi)):=getElem?_eq_getElem _
      have o:=A.own i v q _ h1 e2 e3
      have o2:=o.coer (s:=.leaf) (O':=O++Fs1.flatten) (List.all_eq_true.mp hc q (mem_of_getElem? e2)) jb fun a ha z=>by
       exfalso
       have hG:=nH e3 ha
       rcases List.mem_append.mp z with y | y
       ·exact m3 a hG a y rfl
       ·exact n3 a (mem_append_left _ hG) a y rfl
      cases o2 with
      | leaf r=>exact r
    ·rw [ed]
     intro v H2 G r;refine h v H2 G Fs1 ⟨A.same.trans r.same,A.env.dropL.hide r.same r.nd r.fresh r.inH,fun a ha=>?_,by rw [append_assoc];exact r.own⟩
     rcases List.mem_append.mp ha with z | z
     ·exact .inr (A.same.free (r.fresh a z))
     ·exact newF a z
   | false=>
    rw [hc] at h;have h:Wants K W He O Fs H σ Q (if bL p.d then .ok ⟨.leaf,p.d⟩ Γ1 else .ok ⟨.view,p.d⟩ Γ1):=h
    refine ⟨hl,[],ps.map (·.d),nodup_nil,(fun _ z=>nomatch z),by rw [append_nil,Hr];exact A.reps,?_⟩
    rw [ed];intro v H2 G r
    cases hs:bL p.d with
    | true=>
     rw [hs] at h;exact Wants.scal h (r.own.rep.sc hs) (A.same.trans r.same) (A.env.dropL.grow r.same) (fun a ha=>ha) E0.ndO newF
    | false=>
     rw [hs] at h;have h:Wants K W He O Fs H σ Q (.ok ⟨.view,p.d⟩ Γ1):=h
     exact h v H2 [] Fs1 ⟨A.same.trans r.same,by simpa using A.env.dropL.grow r.same,by simpa using newF,.view r.own.rep⟩
end
theorem GE:bootBuiltins "len"=some (.builtin "len"):=by decide +kernel
theorem GG:bootBuiltins "all"=some (.builtin "all"):=by decide +kernel
theorem nC:bootBuiltins "sorted"=some (.builtin "sorted"):=by decide +kernel
theorem Jo:bootBuiltins "isinstance"=some (.builtin "isinstance"):=by decide +kernel
theorem GF:bootBuiltins "int"=some (.type "int"):=by decide +kernel
theorem wm:bootBuiltins "list"=some (.type "list"):=by decide +kernel
theorem qv:bootBuiltins "tuple"=some (.type "tuple"):=by decide +kernel
theorem GD:bootBuiltins "str"=some (.type "str"):=by decide +kernel
section
variable {X:Cx} {W:XW} {a b c e:Expr} {es:List Expr} {pos:Pos} {fa fb fc:F1} {fl:FL} {ga gb:FB} {g1 g2:FS}
theorem C5 {op:CmpOp} {r:R2} {g:PySem.PyData->PySem.PyData->Option PySem.PyData} (ho:OpR X (compareOp op) r) (hg:GOp X.K r g) (ha:PE X a (tE X.K W fa)) (hb:PE X b (tE X.K W fb)) (hm:behindInMarks op b=false:=by with_unfolding_all rfl) :
  PE X (.Compare a [op] [b] pos) (tE X.K W (ay g fa fb)):=bc (xS ho ha hb hm) fun _ _ _=>ix hg
theorem CZ {op:CmpOp} {r:R2} {g:PySem.PyData->PySem.PyData->Option PySem.PyData} (ho:OpR X (compareOp op) r) (hg:GOp X.K r g) (ha:PE X a (tE X.K W fa)) (hb:PE X b (tE X.K W fb)) (hm:behindInMarks op b=false:=by with_unfolding_all rfl) :
  PT X (.Compare a [op] [b] pos) (tT X.K W (aO ao (ay g fa fb))):=qw (xH ho ha hb hm) fun σ H QB=>pC fun Q=>ix hg
theorem wa {op op':CmpOp} {r r':R2} {g g':PySem.PyData->PySem.PyData->Option PySem.PyData} (ho:OpR X (compareOp op) r) (hg:GOp X.K r g) (ho':OpR X (compareOp op') r') (hg':GOp X.K r' g') (ha:PE X a (tE X.K W fa)) (hb:PE X b (tE X.K W fb)) (hc:PE X c (tE X.K W fc))
  (hm:lastMarks [op,op'] [b,c]=false:=by with_unfolding_all rfl):PE X (.Compare a [op,op'] [b,c] pos) (tE X.K W (dn g g' fa fb fc)):=bc (uU ho ho' ha hb hc hm) fun _ _ _=>mj hg hg'
theorem vR {op op':CmpOp} {r r':R2} {g g':PySem.PyData->PySem.PyData->Option PySem.PyData} (ho:OpR X (compareOp op) r) (hg:GOp X.K r g) (ho':OpR X (compareOp op') r') (hg':GOp X.K r' g') (ha:PE X a (tE X.K W fa)) (hb:PE X b (tE X.K W fb)) (hc:PE X c (tE X.K W fc))
  (hm:lastMarks [op,op'] [b,c]=false:=by with_unfolding_all rfl):PT X (.Compare a [op,op'] [b,c] pos) (tT X.K W (aO ao (dn g g' fa fb fc))):=qw (uG ho ho' ha hb hc hm) fun σ H QB=>pC fun Q=>mj hg hg'
theorem da_nil:PA X [] (tA X.K W ah):=qy wU fun _ _ _=>Bg
theorem da_cons (ha:PE X e (tE X.K W fa)) (hr:PA X es (tA X.K W fl)) (hs:starEach (e::es) X.env=(false,eval e X.env)::starEach es X.env:=by rfl):PA X (e::es) (tA X.K W (ae fa fl)):=qy (nF ha hr hs) fun _ _ _=>pE
theorem Ah {x:Str} {id:String} {r:List V->Hp->VK->Prop} {g:List PySem.PyData->Option PySem.PyData} {p:Pos} (hc:CallR X (.builtin id) r) (hg:GCall X.K r g) (hv:bootBuiltins x=some (.builtin id)) (hm:X.mg x=none) (ha:PA X (e::es) (tA X.K W fl)) (hG:Gl X x:=by rfl)
  (hn:x ≠ "__name__":=by decide) (hdb:(x==("__debug__":Str))=false:=by decide) (he:starEach (e::es) X.env=(false,eval e X.env)::starEach es X.env:=by rfl) (hpl:(backTo pos (starEach es X.env)).any (·.1)=false:=by rfl) :
  PE X (.Call (.Name x p) (e::es) [] pos) (tE X.K W (bW g fl)):=bc (Dx hc hG hm hv ha hn hdb he hpl) fun _ _ _=>zH hg
theorem Gu {x:Str} {id:String} {r:List V->Hp->VK->Prop} {g:List PySem.PyData->Option PySem.PyData} {p:Pos} (hc:CallR X (.type id) r) (hg:GCall X.K r g) (hv:bootBuiltins x=some (.type id)) (hm:X.mg x=none) (ha:PA X (e::es) (tA X.K W fl)) (hG:Gl X x:=by rfl)
  (hn:x ≠ "__name__":=by decide) (hdb:(x==("__debug__":Str))=false:=by decide) (he:starEach (e::es) X.env=(false,eval e X.env)::starEach es X.env:=by rfl) (hpl:(backTo pos (starEach es X.env)).any (·.1)=false:=by rfl) :
  PE X (.Call (.Name x p) (e::es) [] pos) (tE X.K W (bW g fl)):=bc (IZ hc hG hm hv ha hn hdb he hpl) fun _ _ _=>zH hg
theorem rX {p:Pos} (hm:X.mg "list"=none) (ha:PE X e (tE X.K W fa)) (hG:Gl X "list":=by rfl) (hs:starEach [e] X.env=[(false,eval e X.env)]:=by rfl) :
  PE X (.Call (.Name "list" p) [e] [] pos) (tE X.K W (et fa)):=bc (IZ lq hG hm wm (da_cons ha da_nil hs) (by decide) (by decide) hs rfl) fun _ _ _=>qR
theorem yN {f:Addr} {fd:FuncData} {ps:List Str} {k n:Nat} {den:List PySem.PyData->bA} {x:Str} {p:Pos} (F:dk X.prog X.w X.K X.mg X.base iY k f fd ps (lR X.K n den)) (hr:Room k X.A) (hm:X.mg x=some (.ref f)) (hk:PySem.W.keepIn X.K (.ref f)=true)
  (hb:Binds X.K fd ps []) (ha:PA X (e::es) (tA X.K W fl)) (hg:Gl X x:=by rfl) (hdb:(x==("__debug__":Str))=false:=by decide) (he:starEach (e::es) X.env=(false,eval e X.env)::starEach es X.env:=by rfl)
  (hpl:(backTo pos (starEach es X.env)).any (·.1)=false:=by rfl):PE X (.Call (.Name x p) (e::es) [] pos) (tE X.K W (aj n den fl)):=bc (pO F hr hg hm hk hb .nil zN ha hdb he hpl) fun _ _ _=>pF
theorem Gn {tg:Expr} {p:Pos} (hm:X.mg "range"=none) (ha:PA X [a] (tA X.K W fl)) (hg:Gl X "range":=by rfl) (hs:starEach [a] X.env=[(false,eval a X.env)]:=by rfl):PI X tg (.Call (.Name "range" p) [a] [] pos) (tI X.K W (hU fl)):=qx (qZ hg hm ha hs) fun _ _ _=>ur
theorem Gm {tg:Expr} {p:Pos} (hm:X.mg "range"=none) (ha:PA X [a,b] (tA X.K W fl)) (hg:Gl X "range":=by rfl) (hs:starEach [a,b] X.env=[(false,eval a X.env),(false,eval b X.env)]:=by rfl) (hs2:starEach [b] X.env=[(false,eval b X.env)]:=by rfl) :
  PI X tg (.Call (.Name "range" p) [a,b] [] pos) (tI X.K W (ym fl)):=qx (qY hg hm ha hs hs2) fun _ _ _=>Bl
noncomputable def bD:FB:=fun Γ=>.ok true Γ
theorem yM {scope:Scope} {x:Str} {px:Pos} {iter elt:Expr} {ifs:List Expr} {fi:FI} {fe:F1} {fc:FB} (s:Sh) (i:Nat) (S:cW X.N [i] X.env.scope scope) (hN:X.N.Nodup) (hi':PI X (.Name x px) iter (tI X.K W fi))
  (hc:∀cells C s₀ H₀ ex,PF (blk X scope cells C s₀ H₀ ex) ifs (tT X.K W0 fc)) (he:∀cells C s₀ H₀ ex,PE (blk X scope cells C s₀ H₀ ex) elt (tE X.K W0 fe))
  (hcalm:X.calm=true:=by rfl) (hx:X.N[i]?=some x:=by rfl) (hl:∀cells C s₀ H₀ ex,Loc (blk X scope cells C s₀ H₀ ex).env.scope x:=by first | exact fun _ _ _ _ _=>Or.inl rfl | exact fun _ _ _ _ _=>Or.inr rfl)
  (hf:∀cells C s₀ H₀ ex,(blk X scope cells C s₀ H₀ ex).fn x=true\/(blk X scope cells C s₀ H₀ ex).env.scope.names.lookup x=some .local:=by first | exact fun _ _ _ _ _=>Or.inr rfl | exact fun _ _ _ _ _=>Or.inl rfl)
  (hs:∀x,foldedSetIterable iter X.env x=pure x:=by intro _;rfl):PE X (.ListComp elt [⟨.Name x px,iter,ifs,0⟩] scope pos) (tE X.K W (aN s i fi fc fe)):=
 bc (pN S hcalm hi' (fun cells C s₀ H₀ ex=>wG (X:=blk X scope cells C s₀ H₀ ex) (i:=i) hN hx (hl cells C s₀ H₀ ex) (hf cells C s₀ H₀ ex)) hc he hs) fun _ _ _=>Hv
theorem C0 (own:Bool) (i:Nat) {x:Str} {pos':Pos} (hN:X.N.Nodup) (ha:PE X a (tE X.K W fa)) (hi:X.N[i]?=some x:=by rfl) (hx:Loc X.env.scope x:=by first | exact Or.inl rfl | exact Or.inr rfl) (hs:swapsWith a (some (.Name x pos')) pos.line X.env=pure false:=by rfl)
  (hf:X.fn x=true\/X.env.scope.names.lookup x=some .local:=by first | exact .inl rfl | exact .inr rfl):PS X (.Assign [.Name x pos'] a pos) (tS X.K W (aE own i fa)):=dq (D1 hN hi hx ha hs hf) fun _ _ _=>Hj
theorem oC (own:Bool) (j:Nat) {scope:Scope} {x y:Str} {px pos' spos:Pos} {iter elt:Expr} {ifs:List Expr} {fi:FI} {fe:F1} {fc:FB} (s:Sh) (i:Nat) (S:cW X.N [i] X.env.scope scope) (hN:X.N.Nodup) (hi':PI X (.Name x px) iter (tI X.K W fi))
  (hc:∀cells C s₀ H₀ ex,PF (blk X scope cells C s₀ H₀ ex) ifs (tT X.K W0 fc)) (he:∀cells C s₀ H₀ ex,PE (blk X scope cells C s₀ H₀ ex) elt (tE X.K W0 fe))
  (hsw:swapsWith (.ListComp elt [⟨.Name x px,iter,ifs,0⟩] scope pos) (some (.Name y pos')) spos.line X.env=pure true:=by rfl)
  (hy:X.N[j]?=some y:=by rfl) (hly:X.env.scope.names.lookup y=some .local:=by rfl)
  (hcalm:X.calm=true:=by rfl) (hx:X.N[i]?=some x:=by rfl) (hl:∀cells C s₀ H₀ ex,Loc (blk X scope cells C s₀ H₀ ex).env.scope x:=by first | exact fun _ _ _ _ _=>Or.inl rfl | exact fun _ _ _ _ _=>Or.inr rfl)
  (hf:∀cells C s₀ H₀ ex,(blk X scope cells C s₀ H₀ ex).fn x=true\/(blk X scope cells C s₀ H₀ ex).env.scope.names.lookup x=some .local:=by first | exact fun _ _ _ _ _=>Or.inr rfl | exact fun _ _ _ _ _=>Or.inl rfl)
  (hs:∀x,foldedSetIterable iter X.env x=pure x:=by intro _;rfl):PS X (.Assign [.Name y pos'] (.ListComp elt [⟨.Name x px,iter,ifs,0⟩] scope pos) spos) (tS X.K W (aE own j (aN s i fi fc fe))):=
 dq (Jd hN hy hly S hcalm hi' (fun cells C s₀ H₀ ex=>wG (X:=blk X scope cells C s₀ H₀ ex) (i:=i) hN hx (hl cells C s₀ H₀ ex) (hf cells C s₀ H₀ ex)) hc he hsw hs) fun D σ H h=>by
  have h2:kE (tE X.K W (aN s i fi fc fe)) (gName j) D σ H:=Hj h
  exact Hv h2
theorem rS (i:Nat) {x:Str} {p apos cpos:Pos} (ha:PE X a (tE X.K W fa)) (hN:X.N[i]?=some x:=by rfl) (hv:De X.env.scope x:=by first | exact Or.inl rfl | exact Or.inr (Or.inl rfl) | exact Or.inr (Or.inr rfl)) (hd:(x==("__debug__":Str))=false:=by decide)
  (hcd:(x==("__classdict__":Str))=false:=by decide) (hs:starEach [a] X.env=[(false,eval a X.env)]:=by rfl)
  (hbase:attributeBase (.Name x p) "append" X.env (eval (.Name x p) X.env)=eval (.Name x p) X.env:=by rfl) (hline:(apos.endLine==cpos.line)=true:=by rfl)
  (hfew:((backTo cpos (starEach [a] X.env)).all (fun x=>!x.1)&&(backToKw cpos (keywordEach [] X.env)).all (fun x=>x.1.isSome)
   && decide ([a].length+([]:List Keyword).length+(if ([]:List Keyword).isEmpty then 0 else 1)<30))=true:=by rfl)
  (hsw:swapsWith (.Call (.Attribute (.Name x p) "append" apos) [a] [] cpos) none pos.line X.env=pure false:=by rfl) :
  PS X (.Expr (.Call (.Attribute (.Name x p) "append" apos) [a] [] cpos) pos) (tS X.K W (aV i fa)):=
 dq (Ea (zL PySem.F.plainAttrs_list PySem.F.slot_list_append PySem.F.type_list_append IX (wB hN hv hd hcd) (da_cons ha da_nil hs) hbase hfew hline hs rfl) hsw) fun _ _ _=>qS
theorem C1 (i:Nat) {x:Str} {px:Pos} {iter:Expr} {body:List Stmt} {fi:FI} {g:FS} (hp:PassesOwn (model X.prog X.w) X.A X.env X.xe) (hN:X.N.Nodup) (hi':PI X (.Name x px) iter (tI X.K W fi)) (hb:PSs X body (tS X.K W g)) (hcalm:X.calm=true:=by rfl)
  (hx:X.N[i]?=some x:=by rfl) (hl:Loc X.env.scope x:=by first | exact Or.inl rfl | exact Or.inr rfl) (hf:X.fn x=true\/X.env.scope.names.lookup x=some .local:=by first | exact .inl rfl | exact .inr rfl)
  (hs:∀x,foldedSetIterable iter X.env x=pure x:=by intro _;rfl):PS X (.For (.Name x px) iter body [] pos) (tS X.K W (eJ i fi g)):=
 dq (Iu hp hcalm hi' (wG hN hx hl hf) hb hs) fun _ _ _=>Bm
end
structure Cp (X:Cx) (N gl:List Str) (vs cs ls lo gs:List Nat):Prop where
 hN:X.N=N
 nd:N.Nodup
 nm:∀x∈N,(x==("__debug__":Str))=false/\(x==("__classdict__":Str))=false
 ng:∀x∈gl,(x==("__debug__":Str))=false/\x ≠ "__name__"
 vis:∀(i:Nat) x,N[i]?=some x->vs.contains i=true->De X.env.scope x
 cel:∀(i:Nat) x,N[i]?=some x->cs.contains i=true->X.env.scope.names.lookup x=some .cell\/X.env.scope.names.lookup x=some .free
 loc:∀(i:Nat) x,N[i]?=some x->ls.contains i=true->Loc X.env.scope x/\(X.fn x=true\/X.env.scope.names.lookup x=some .local)
 loo:∀(i:Nat) x,N[i]?=some x->lo.contains i=true->X.env.scope.names.lookup x=some .local
 glb:∀(j:Nat) x,gl[j]?=some x->gs.contains j=true->Gl X x
 calm:X.calm=true
 kind:X.env.scope.kind=.function
noncomputable def eX (sc:Scope) (ks:List NameKind) (o:Option Str):Bool:=match o with
 | some x=>(match sc.names.lookup x with
  | some k=>ks.any fun z=>decide (z=k)
  | none=>false)
 | none=>true
noncomputable def kr (N gl:List Str) (vs cs ls lo gs:List Nat) (sc:Scope):Bool:=
 decide (sc.kind=.function)&&(vs.all fun i=>eX sc [.local,.cell,.free] N[i]?)&&(cs.all fun i=>eX sc [.cell,.free] N[i]?)&&(ls.all fun i=>eX sc [.local,.cell] N[i]?)&&(lo.all fun i=>eX sc [.local] N[i]?)&&(gs.all fun j=>eX sc [.globalImplicit] gl[j]?)
noncomputable def wK (N gl:List Str):Bool:=decide N.Nodup&&(N.all fun x=>!(x==("__debug__":Str))&&!(x==("__classdict__":Str)))&&(gl.all fun x=>!(x==("__debug__":Str))&&!decide (x = "__name__"))
theorem DG {sc:Scope} {ks:List NameKind} {x:Str} (h:eX sc ks (some x)=true):∃k∈ks,sc.names.lookup x=some k:=by
 unfold eX at h;simp only at h
 split at h
 ·rename_i k e
  simp only [any_eq_true,decide_eq_true_eq] at h
  obtain ⟨z,hz,rfl⟩:=h;exact ⟨z,hz,e⟩
 ·cases h
theorem D5 {P:Nat->Bool} {l:List Nat} {i:Nat} (h:l.all P=true) (hi:l.contains i=true):P i=true:=by
 rw [all_eq_true] at h;exact h i (by simpa using hi)
structure Mr (N gl:List Str) (vs cs ls lo gs:List Nat) (sc:Scope):Prop where
 kind:sc.kind=.function
 vis:∀(i:Nat) x,N[i]?=some x->vs.contains i=true->De sc x
 cel:∀(i:Nat) x,N[i]?=some x->cs.contains i=true->sc.names.lookup x=some .cell\/sc.names.lookup x=some .free
 loc:∀(i:Nat) x,N[i]?=some x->ls.contains i=true->Loc sc x
 loo:∀(i:Nat) x,N[i]?=some x->lo.contains i=true->sc.names.lookup x=some .local
 glb:∀(j:Nat) x,gl[j]?=some x->gs.contains j=true->sc.names.lookup x=some .globalImplicit
theorem Dp {N gl:List Str} {vs cs ls lo gs:List Nat} {sc:Scope} (h:kr N gl vs cs ls lo gs sc=true):Mr N gl vs cs ls lo gs sc:=by
 unfold kr at h;simp only [Bool.and_eq_true,decide_eq_true_eq] at h
 obtain ⟨⟨⟨⟨⟨h0,h1⟩,h2⟩,h3⟩,h4⟩,h5⟩:=h;refine ⟨h0,fun i x e hi=>?_,fun i x e hi=>?_,fun i x e hi=>?_,fun i x e hi=>?_,fun i x e hi=>?_⟩
 ·have q:=D5 h1 hi
  rw [e] at q;obtain ⟨k,hk,q⟩:=DG q;simp only [mem_cons,not_mem_nil,or_false] at hk
  rcases hk with rfl | rfl | rfl
  ·exact .inl q
  ·exact .inr (.inl q)
  ·exact .inr (.inr q)
 ·have q:=D5 h2 hi
  rw [e] at q;obtain ⟨k,hk,q⟩:=DG q;simp only [mem_cons,not_mem_nil,or_false] at hk
  rcases hk with rfl | rfl
  ·exact .inl q
  ·exact .inr q
 ·have q:=D5 h3 hi
  rw [e] at q;obtain ⟨k,hk,q⟩:=DG q;simp only [mem_cons,not_mem_nil,or_false] at hk
  rcases hk with rfl | rfl
  ·exact .inl q
  ·exact .inr q
 ·have q:=D5 h4 hi
  rw [e] at q;obtain ⟨k,hk,q⟩:=DG q;simp only [mem_cons,not_mem_nil,or_false] at hk
  rw [hk] at q;exact q
 ·have q:=D5 h5 hi
  rw [e] at q;obtain ⟨k,hk,q⟩:=DG q;simp only [mem_cons,not_mem_nil,or_false] at hk
  rw [hk] at q;exact q
theorem D8 {N gl:List Str} (h:wK N gl=true):N.Nodup/\(∀x∈N,(x==("__debug__":Str))=false/\(x==("__classdict__":Str))=false)/\∀x∈gl,(x==("__debug__":Str))=false/\x ≠ "__name__":=by
 unfold wK at h;simp only [Bool.and_eq_true,decide_eq_true_eq,all_eq_true,Bool.not_eq_true',decide_eq_false_iff_not] at h
 exact ⟨h.1.1,h.1.2,h.2⟩
theorem Cp.fn {P:Program} {w:World} {K:Fg} {mg:Str->Option Value} {base:Heap} {N gl:List Str} {vs cs ls lo gs:List Nat} {qual:Str} {sc:Scope} {f:Addr} {cd:Value} {A:Around} {outer:List Env} {s:Shared} {H:Hp} {E:XK}
  (h:kr N gl vs cs ls lo gs sc=true) (h':wK N gl=true):Cp (fg iY P w K mg base N qual sc f cd A outer s H E).nox N gl vs cs ls lo gs:=by
 obtain ⟨a,b,c⟩:=D8 h'
 have q:=Dp h
 exact ⟨rfl,a,b,c,q.vis,q.cel,fun i x e hi=>⟨q.loc i x e hi,.inl rfl⟩,q.loo,q.glb,rfl,q.kind⟩
theorem zF {env:Env} {x:Str} {k:NameKind}:∀{names:List (Str×NameKind)},names.lookup x=some k ->
  (names.map fun (n,k)=>if (k==NameKind.free&&env.scope.kind==.function&&env.kindOf n==some .cell) then (n,NameKind.cell) else (n,k)).lookup x=some k \/
  (k=.free/\(names.map fun (n,k)=>if (k==NameKind.free&&env.scope.kind==.function&&env.kindOf n==some .cell) then (n,NameKind.cell) else (n,k)).lookup x=some .cell)
 | [],h=>by simp at h
 | (n,k')::r,h=>by
  have ih:=@zF env x k r
  rw [map_cons];show List.lookup x ((if (k'==NameKind.free&&env.scope.kind==.function&&env.kindOf n==some .cell)=true then (n,NameKind.cell) else (n,k'))::_)=_\/_/\List.lookup x ((if (k'==NameKind.free&&env.scope.kind==.function&&env.kindOf n==some .cell)=true then (n,NameKind.cell) else (n,k'))::_)=_
  by_cases hc:(k'==NameKind.free&&env.scope.kind==.function&&env.kindOf n==some .cell)=true
  ·rw [if_pos hc]
   cases hx:x==n with
   | true=>
    simp only [lookup_cons,hx] at h ⊢
    cases h;simp only [Bool.and_eq_true,beq_iff_eq] at hc
    exact .inr ⟨hc.1.1,trivial⟩
   | false=>
    simp only [lookup_cons,hx] at h ⊢
    exact ih h
  ·rw [if_neg hc]
   cases hx:x==n with
   | true=>
    simp only [lookup_cons,hx] at h ⊢
    cases h;exact .inl rfl
   | false=>
    simp only [lookup_cons,hx] at h ⊢
    exact ih h
theorem wV {scope:Scope} {env:Env} {x:Str} {k:NameKind} (h:scope.names.lookup x=some k):(relabel scope env).names.lookup x=some k\/(k=.free/\(relabel scope env).names.lookup x=some .cell):=zF h
theorem Cp.blk {X:Cx} {N gl:List Str} {vs cs ls lo gs vs' cs' ls' lo' gs':List Nat} {scope:Scope} (S:Cp X N gl vs cs ls lo gs) (h:kr N gl vs' cs' ls' lo' gs' scope=true) (cells C s₀ H₀ ex) :
  Cp (blk X scope cells C s₀ H₀ ex) N gl vs' cs' ls' lo' gs':=by
 have q:=Dp h
 refine ⟨S.hN,S.nd,S.nm,S.ng,fun i x e hi=>?_,fun i x e hi=>?_,fun i x e hi=>?_,fun i x e hi=>?_,fun i x e hi=>?_,S.calm,q.kind⟩
 ·show De (relabel scope X.env) x
  rcases q.vis i x e hi with z | z | z
  ·rcases wV (env:=X.env) z with y | ⟨y,_⟩
   ·exact .inl y
   ·cases y
  ·rcases wV (env:=X.env) z with y | ⟨y,_⟩
   ·exact .inr (.inl y)
   ·cases y
  ·rcases wV (env:=X.env) z with y | ⟨_,y⟩
   ·exact .inr (.inr y)
   ·exact .inr (.inl y)
 ·show (relabel scope X.env).names.lookup x=some .cell\/(relabel scope X.env).names.lookup x=some .free
  rcases q.cel i x e hi with z | z
  ·rcases wV (env:=X.env) z with y | ⟨y,_⟩
   ·exact .inl y
   ·cases y
  ·rcases wV (env:=X.env) z with y | ⟨_,y⟩
   ·exact .inr y
   ·exact .inl y
 ·show Loc (relabel scope X.env) x/\((scope.names.any fun y=>y.1==x&&y.2==.cell)=true\/(relabel scope X.env).names.lookup x=some .local)
  rcases q.loc i x e hi with z | z
  ·rcases wV (env:=X.env) z with y | ⟨y,_⟩
   ·exact ⟨.inl y,.inr y⟩
   ·cases y
  ·rcases wV (env:=X.env) z with y | ⟨y,_⟩
   ·refine ⟨.inr y,.inl ?_⟩
    rw [any_eq_true];exact ⟨(x,.cell),jk z,by simp⟩
   ·cases y
 ·show (relabel scope X.env).names.lookup x=some .local
  rcases wV (env:=X.env) (q.loo i x e hi) with y | ⟨y,_⟩
  ·exact y
  ·cases y
 ·show (relabel scope X.env).names.lookup x=some .globalImplicit
  rcases wV (env:=X.env) (q.glb i x e hi) with y | ⟨y,_⟩
  ·exact y
  ·cases y
noncomputable def gO (N:List Str) (i:Nat) (cs:List Nat) (sc:Scope):Bool:=
 decide (sc.kind=.function)&&(sc.names.all fun p=>!decide (p.2=.free)||cs.any fun j=>decide (N[j]?=some p.1)) &&
 ((List.range N.length).all fun j=>j==i||(sc.names.all fun p=>!decide (some p.1=N[j]?)||(!decide (p.2=.local)&&!decide (p.2=.cell)))) &&
 (sc.names.all fun p=>!decide (p.2=.local)||decide (sc.names.lookup p.1=some .local)) &&
 (sc.names.all fun p=>!decide (p.2=.free)||sc.names.all fun q=>!decide (q.1=p.1)||!decide (q.2=.cell))
theorem Hz {X:Cx} {N gl:List Str} {vs cs ls lo gs:List Nat} {scope:Scope} {i:Nat} (S:Cp X N gl vs cs ls lo gs) (h:gO N i cs scope=true):cW X.N [i] X.env.scope scope:=by
 unfold gO at h;simp only [Bool.and_eq_true,decide_eq_true_eq,all_eq_true,Bool.or_eq_true,Bool.not_eq_true',decide_eq_false_iff_not,any_eq_true,mem_range,beq_iff_eq] at h
 obtain ⟨⟨⟨⟨h0,h1⟩,h2⟩,h3⟩,h4⟩:=h;refine ⟨h0,fun n hn=>?_,fun j x e hj=>?_,fun x hx e=>?_,fun n hn hc=>?_⟩
 ·rcases h1 _ hn with z | ⟨j,hj,e⟩
  ·exact absurd rfl z
  ·exact S.cel j n e (by simpa using hj)
 ·rw [S.hN] at e
  rcases h2 j (List.getElem?_eq_some_iff.mp e).1 with z | z
  ·rw [z];exact List.mem_singleton.mpr rfl
  ·exfalso
   rcases hj with y | y
   ·rcases z _ y with w | w
    ·exact w e.symm
    ·exact w.1 rfl
   ·rcases z _ y with w | w
    ·exact w e.symm
    ·exact w.2 rfl
 ·rcases h3 x hx with z | z
  ·exact absurd e z
  ·exact z
 ·rcases h4 _ hn with z | z
  ·exact z rfl
  ·rcases z _ hc with w | w
   ·exact w rfl
   ·exact w rfl
structure Fx (X Y:Cx):Prop where
 prog:Y.prog=X.prog
 w:Y.w=X.w
 K:Y.K=X.K
 mg:Y.mg=X.mg
 base:Y.base=X.base
 A:Y.A=X.A
noncomputable def Rm (X:Cx):Prop:=X.A.units+64<cLine
noncomputable def G4 (X:Cx) (x:Str) (n:Nat) (den:List PySem.PyData->bA):Prop:=∃(k:Nat) (f:Addr) (fd:FuncData) (ps:List Str),dk X.prog X.w X.K X.mg X.base iY k f fd ps (lR X.K n den)/\Room k X.A/\X.mg x=some (.ref f)/\PySem.W.keepIn X.K (.ref f)=true/\Binds X.K fd ps []
noncomputable def Con (X:Cx) (x:Str) (d:PySem.PyData):Prop:=∃u v,X.mg x=some u/\RelV v u/\∀H,Rep X.K H v d
section
variable {X Y:Cx} {x:Str} {m:Nat} {d:PySem.PyData}
theorem Fx.n (F:Fx X Y) (h:X.mg x=none):Y.mg x=none:=by rw [F.mg];exact h
end
section
variable {X:Cx} {N gl:List Str} {vs cs ls lo gs:List Nat} {W:XW} {a b c e:Expr} {es:List Expr} {pos p:Pos} {fa fb fc:F1} {fl:FL} {ga gb:FB} {g1 g2:FS}
theorem cv (S:Cp X N gl vs cs ls lo gs) (i:Nat) {x:Str} (hN:N[i]?=some x) (hv:vs.contains i=true):PE X (.Name x pos) (tE X.K W (af i)):=by
 have m:=S.nm x (mem_of_getElem? hN)
 exact vZ (wB (by rw [S.hN];exact hN) (S.vis i x hN hv) m.1 m.2)
theorem Cp.g (S:Cp X N gl vs cs ls lo gs) {j:Nat} {x:Str} (hj:gl[j]?=some x) (hg:gs.contains j=true):Gl X x/\(x==("__debug__":Str))=false/\x ≠ "__name__":=
 ⟨S.glb j x hj hg,S.ng x (mem_of_getElem? hj)⟩
theorem ck (S:Cp X N gl vs cs ls lo gs) (j:Nat) {x:Str} {d:PySem.PyData} (hj:gl[j]?=some x) (hg:gs.contains j=true) (h:Con X x d):PE X (.Name x pos) (tE X.K W (eK d)):=by
 obtain ⟨u,v,h1,h2,h3⟩:=h;have q:=S.g hj hg
 exact yL q.1 h1 h2 h3 q.2.1
noncomputable def EZ:R2:=fun x y H Q=>pG (fun i j=>.bl (decide (i<j))) x y H Q\/∃i j,x=.str i/\y=.str j/\Q (.bl (decide (i.cps.toList<j.cps.toList))) H
theorem Fw:OpR X (compareOp .Lt) EZ:=op_lt.or rl
noncomputable def CN:PySem.PyData->PySem.PyData->Option PySem.PyData
 | .str i,.str j=>some (.bool (!decide (i.cps.toList<j.cps.toList)))
 | _,_=>none
noncomputable abbrev oy:PySem.PyData->PySem.PyData->Option PySem.PyData:=fun a b=>(Mi a b).or (CN a b)
noncomputable def Bv:R2:=fun x y H Q=>pG (fun i j=>.bl (decide (j<=i))) x y H Q\/∃i j,x=.str i/\y=.str j/\Q (.bl (!decide (i.cps.toList<j.cps.toList))) H
theorem rn:OpR X (compareOp .GtE) (fun x y H Q=>∃i j,x=.str i/\y=.str j/\Q (.bl (!decide (i.cps.toList<j.cps.toList))) H):=by
 intro pins s σ H x y v u Q I rx ry h;obtain ⟨i,j,rfl,rfl,q⟩:=h;obtain ⟨t,rfl⟩:=rx;obtain ⟨t',rfl⟩:=ry;exact PySem.P.ge_str (D6 I q rfl)
theorem Fy:OpR X (compareOp .GtE) Bv:=op_ge.or rn
theorem yu {K:Fg}:GOp K (fun x y H Q=>∃i j,x=.str i/\y=.str j/\Q (.bl (!decide (i.cps.toList<j.cps.toList))) H) CN:=by
 intro x y H Q a b d ra rb e k
 cases ra<;>cases rb<;>simp only [CN] at e<;>try cases e
 rename_i i j;exact ⟨i,j,rfl,rfl,k _ (.bl _)⟩
theorem CD {K:Fg}:GOp K Bv oy:=(Dq fun _ _=>.bl _).or yu
structure Ck (X:Cx) (op:CmpOp) (r:R2) (g:PySem.PyData->PySem.PyData->Option PySem.PyData):Prop where
 o:OpR X (compareOp op) r
 g:GOp X.K r g
theorem nV (R:Rm X):Ck X .Lt EZ iV:=⟨Fw,CC⟩
theorem Fd (R:Rm X):Ck X .LtE (pG fun i j=>.bl (decide (i<=j))) CM:=⟨Fq,Dq fun _ _=>.bl _⟩
theorem qW (R:Rm X):Ck X .Gt (pG fun i j=>.bl (decide (j<i))) jz:=⟨Fu,Dq fun _ _=>.bl _⟩
theorem Kc (R:Rm X):Ck X .GtE Bv oy:=⟨Fy,CD⟩
theorem bu (R:Rm X):Ck X .Eq (qV X.K false) aZ:=⟨B7 R,CF⟩
theorem Bz (R:Rm X):Ck X .NotEq (qV X.K true) qf:=⟨BZ R,CB⟩
theorem uD (R:Rm X):Ck X .In (uz X.K false) (dS false):=⟨B6 R,vx⟩
theorem pI (R:Rm X):Ck X .NotIn (uz X.K true) (dS true):=⟨rj R,vx⟩
theorem ct {op:CmpOp} {r:R2} {g:PySem.PyData->PySem.PyData->Option PySem.PyData} (k:Ck X op r g) (ha:PE X a (tE X.K W fa)) (hb:PE X b (tE X.K W fb)) (hm:behindInMarks op b=false):PT X (.Compare a [op] [b] pos) (tT X.K W (aO ao (ay g fa fb))):=CZ k.o k.g ha hb hm
theorem cc {x:Str} {n:Nat} {den:List PySem.PyData->bA} (S:Cp X N gl vs cs ls lo gs) (j:Nat) (hj:gl[j]?=some x) (hg:gs.contains j=true) (C:G4 X x n den) (ha:PA X (e::es) (tA X.K W fl)) (he:starEach (e::es) X.env=(false,eval e X.env)::starEach es X.env) (hpl:(backTo pos (starEach es X.env)).any (·.1)=false) :
  PE X (.Call (.Name x p) (e::es) [] pos) (tE X.K W (aj n den fl)):=by
 obtain ⟨k,f,fd,ps,F,hr,hm,hk,hb⟩:=C;exact yN F hr hm hk hb ha (S.g hj hg).1 (S.g hj hg).2.1 he hpl
noncomputable abbrev wO (X:Cx) (N gl:List Str) (vs cs ls lo gs:List Nat) (R:Cx->Prop):Prop:=∀Y:Cx,Cp Y N gl vs cs ls lo gs->Fx X Y->R Y
theorem co {scope:Scope} {x:Str} {px:Pos} {iter elt:Expr} {ifs:List Expr} {fi:FI} {fe:F1} {fc:FB} {vs' cs' lo' gs':List Nat} (S:Cp X N gl vs cs ls lo gs) (s:Sh) (i:Nat) (hx:N[i]?=some x) (h1:gO N i cs scope=true) (h2:kr N gl vs' cs' [i] lo' gs' scope=true)
  (hi':PI X (.Name x px) iter (tI X.K W fi)) (hc:wO X N gl vs' cs' [i] lo' gs' fun Y=>PF Y ifs (tT Y.K W0 fc)) (he:wO X N gl vs' cs' [i] lo' gs' fun Y=>PE Y elt (tE Y.K W0 fe)) (hs:∀x,foldedSetIterable iter X.env x=pure x) :
  PE X (.ListComp elt [⟨.Name x px,iter,ifs,0⟩] scope pos) (tE X.K W (aN s i fi fc fe)):=by
 have B:=fun cells C s₀ H₀ ex=>S.blk h2 cells C s₀ H₀ ex
 have L:=fun cells C s₀ H₀ ex=>(B cells C s₀ H₀ ex).loc i x hx (by simp)
 exact yM (X:=X) s i (Hz S h1) (by rw [S.hN];exact S.nd) hi' (fun cells C s₀ H₀ ex=>hc _ (B cells C s₀ H₀ ex) ⟨rfl,rfl,rfl,rfl,rfl,rfl⟩) (fun cells C s₀ H₀ ex=>he _ (B cells C s₀ H₀ ex) ⟨rfl,rfl,rfl,rfl,rfl,rfl⟩)
  S.calm (by rw [S.hN];exact hx) (fun cells C s₀ H₀ ex=>(L cells C s₀ H₀ ex).1) (fun cells C s₀ H₀ ex=>(L cells C s₀ H₀ ex).2) hs
theorem Je {elt:Expr} {gens:List Comprehension} {scope:Scope} {y:Str} {pos':Pos} {line:Nat} (hk:X.env.scope.kind=.function) (hy:X.env.scope.names.lookup y=some .local) (hl:(pos'.line==pos.line)=true)
  (hn:(scope.names.any fun (n,k)=>n==y&&(k==NameKind.local||k==NameKind.cell))=false):swapsWith (.ListComp elt gens scope pos) (some (.Name y pos')) line X.env=pure true:=by
 have e1:(X.env.blockKind==ScopeKind.function)=true:=by unfold Env.blockKind;rw [hk];rfl
 have e2:(X.env.kindOf y==some NameKind.local)=true:=by unfold Env.kindOf;rw [hy];rfl
 show (pure (X.env.blockKind==.function&&X.env.kindOf y==some .local&&pos'.line==pos.line&&!(scope.names.any fun (n,k)=>n==y&&(k==NameKind.local||k==NameKind.cell))):Sem Bool)=pure true
 rw [e1,e2,hl,hn];rfl
theorem cs_append (S:Cp X N gl vs cs ls lo gs) (i:Nat) {x:Str} {apos cpos:Pos} (hi:N[i]?=some x) (hv:vs.contains i=true) (ha:PE X a (tE X.K W fa)) (hs:starEach [a] X.env=[(false,eval a X.env)])
  (hbase:attributeBase (.Name x p) "append" X.env (eval (.Name x p) X.env)=eval (.Name x p) X.env) (hline:(apos.endLine==cpos.line)=true)
  (hfew:((backTo cpos (starEach [a] X.env)).all (fun x=>!x.1)&&(backToKw cpos (keywordEach [] X.env)).all (fun x=>x.1.isSome)
   && decide ([a].length+([]:List Keyword).length+(if ([]:List Keyword).isEmpty then 0 else 1)<30))=true)
  (hsw:swapsWith (.Call (.Attribute (.Name x p) "append" apos) [a] [] cpos) none pos.line X.env=pure false) :
  PS X (.Expr (.Call (.Attribute (.Name x p) "append" apos) [a] [] cpos) pos) (tS X.K W (aV i fa)):=
 rS i ha (by rw [S.hN];exact hi) (S.vis i x hi hv) (S.nm x (mem_of_getElem? hi)).1 (S.nm x (mem_of_getElem? hi)).2 hs hbase hline hfew hsw
end
noncomputable def eU (g:PySem.PyData->Option PySem.PyData) (fa:F1):F1:=aY fa fun p Γ=>match g p.d with
 | some d=>.ok ⟨.leaf,d⟩ Γ
 | none=>.no
noncomputable def iN:PySem.PyData->Option PySem.PyData
 | .int i=>some (.int (-i))
 | _=>none
noncomputable def kZ (fa fb:F1):F1:=aY fa fun p=>aY fb fun q=>fun Γ=>match p.s,p.d,q.d with
 | .lst .leaf,.list ds,.int k=>if cH k&&decide (ds.length*k.toNat<=sizeLine) then .ok ⟨.lst .leaf,.list (List.replicate k.toNat ds).flatten⟩ Γ else .no
 | _,_,_=>.no
noncomputable def fq:Option (Option PV)->Bool
 | some (some ⟨.lst .leaf,.list _⟩)=>true
 | _=>false
section
variable {K:Fg} {W:XW} {σ:St} {H:Hp} {Q:VK} {D:eu} {fa fb:F1} {fl:FL}
theorem ER {r:V->Hp->VK->Prop} {g:PySem.PyData->Option PySem.PyData} (hg:∀x H Q a d,Rep K H x a->g a=some d->(∀v,Sc v d->Q v H)->r x H Q) (h:tE K W (eU g fa) σ H Q):KP r (tE K W fa) σ H Q:=by
 refine wC h fun He O Fs Γ1 p v H1 G Fs1 nd A h1=>?_
 cases e:g p.d with
 | none=>rw [e] at h1;exact h1.elim
 | some d=>
  rw [e] at h1;exact hg v H1 Q p.d d A.own.rep e fun u hu=>Wants.scal h1 hu A.same A.env.dropL (fun a ha=>ha) nd fun a ha=>A.new a (mem_append_right _ ha)
theorem mT {α β:Type} {xs:List α} {ys:List β} (hl:xs.length=ys.length):∀(k j:Nat) {x:α} {y:β},(List.replicate k xs).flatten[j]?=some x->(List.replicate k ys).flatten[j]?=some y->∃i:Nat,xs[i]?=some x/\ys[i]?=some y
 | 0,j,x,y,h,_=>by simp at h
 | k+1,j,x,y,h1,h2=>by
  rw [replicate_succ,flatten_cons] at h1 h2
  by_cases hj:j<xs.length
  ·rw [getElem?_append_left hj] at h1
   rw [getElem?_append_left (by omega)] at h2
   exact ⟨j,h1,h2⟩
  ·rw [getElem?_append_right (by omega)] at h1
   rw [getElem?_append_right (by omega),<-hl] at h2
   exact mT hl k (j-xs.length) h1 h2
theorem IU:∀{Fs:List (List Addr)},(∀F∈Fs,F=[])->Fs.flatten=[]
 | [],_=>rfl
 | F::r,h=>by rw [flatten_cons,h F mem_cons_self,IU fun G hG=>h G (mem_cons_of_mem _ hG)];rfl
theorem Own.leaves {O:List Addr} {G:List Addr} {v:V} {ds:List PySem.PyData} (h:Own K O H (.lst .leaf) G v (.list ds)):∃l vs,v=.ref l/\G=[l]/\H l=some (.lst vs)/\vs.length=ds.length/\∀(j:Nat) u d,vs[j]?=some u->ds[j]?=some d->Rep K (cN H O) u d:=by
 cases h with
 | @lst _ l vs _ Fs hsv hp hl hf nd q=>
  have hF:∀F∈Fs,F=[]:=fun F hF=>by
   obtain ⟨j,hj,e⟩:=List.getElem_of_mem hF;have o:=q j (vs[j]'(by omega)) (ds[j]'(by omega)) F (getElem?_eq_getElem _) (getElem?_eq_getElem _) (by rw [getElem?_eq_getElem hj,e])
   cases o;rfl
  refine ⟨l,vs,rfl,by rw [IU hF],hp,hl,fun j u d h1 h2=>?_⟩
  have hj:=(List.getElem?_eq_some_iff.mp h2).1
  have o:=q j u d (Fs[j]'(by omega)) h1 h2 (getElem?_eq_getElem _)
  generalize Fs[j]'(by omega)=F at o
  cases o with
  | leaf r=>exact r
theorem Own.mkLeaves {O:List Addr} {l:Addr} {vs:List V} {ds:List PySem.PyData} (hp:H l=some (.lst vs)) (hl:vs.length=ds.length) (q:∀(j:Nat) u d,vs[j]?=some u->ds[j]?=some d->Rep K (cN H O) u d):Own K O H (.lst .leaf) [l] (.ref l) (.list ds):=by
 have hF:(List.replicate ds.length ([]:List Addr)).flatten=[]:=IU fun F hF=>(List.mem_replicate.mp hF).2
 have o:Own K O H (.lst .leaf) (l::(List.replicate ds.length ([]:List Addr)).flatten) (.ref l) (.list ds):=by
  refine .lst rfl hp hl (by simp) (by rw [hF];simp) fun j u d F h1 h2 h3=>?_
  have:F=[]:=(List.mem_replicate.mp (mem_of_getElem? h3)).2
  subst this;exact .leaf (q j u d h1 h2)
 rw [hF] at o;exact o
theorem Be (h:tE K W (kZ fa fb) σ H Q):xg Bt (tE K W fa) (tE K W fb) σ H Q:=by
 refine Au (R:=fun v u H2=>Bt v u H2 Q) h fun He O Fs Γ2 p q v u H1 H2 G1 G2 Fs2 nd s1 s2 E new o1 o2 w=>?_
 obtain ⟨s,d⟩:=p;obtain ⟨s',d'⟩:=q;dsimp only at w o1 o2
 split at w
 ·rename_i ds k
  have hq:=o2.rep
  cases hq;obtain ⟨l,vs,rfl,rfl,hp,hl,hr⟩:=o1.leaves;by_cases hc:(cH k&&decide (ds.length*k.toNat<=sizeLine))=true
  ·rw [if_pos hc] at w
   simp only [Bool.and_eq_true,decide_eq_true_eq,cH] at hc
   refine ⟨l,k,vs,rfl,rfl,hp,by omega,by omega,by rw [hl];exact hc.2,fun p' hp'=>?_⟩
   have nd2:O.Nodup:=nd
   have E1:EnvOk K He O Fs2 H2 σ Γ2:=E.drop (fun a ha=>mem_append_right _ (mem_append_right _ ha)) nd
   have E2:=E1.hide (G:=[p']) (ip (o:=.lst (List.replicate k.toNat vs).flatten) hp') (by simp) (by simpa using hp') (fun a ha=>by rw [List.mem_singleton.mp ha,gf];exact Option.some_ne_none _)
   refine w (.ref p') _ [p'] Fs2 ⟨(s1.trans s2).trans (ip hp'),E2,fun a ha=>?_,?_⟩
   ·rcases List.mem_append.mp ha with z | z
    ·rw [List.mem_singleton.mp z]
     exact .inr (s1.free (s2.free hp'))
    ·exact new a (mem_append_right _ (mem_append_right _ z))
   ·refine Own.mkLeaves gf (by rw [IS,IS,hl]) fun j x d h1 h2=>?_
    obtain ⟨i,e1,e2⟩:=mT hl _ j h1 h2;refine (hr i x d e1 e2).mono (sF (ip hp') fun a ha=>?_)
    rcases List.mem_append.mp ha with z | z
    ·rcases List.mem_append.mp z with z | z
     ·rw [List.mem_singleton.mp z];exact .inr hp'
     ·exact .inl (mem_append_left _ (mem_append_right _ (mem_append_right _ z)))
    ·exact .inl (mem_append_right _ z)
  ·rw [if_neg hc] at w;exact w.elim
 ·exact w.elim
theorem pj {Q':VK} (h:tE K W fa σ H Q) (hq:∀v H',Q v H'->Q' v H'):tE K W fa σ H Q':=by
 obtain ⟨He,O,Fs,Γ,E,h⟩:=h;refine ⟨He,O,Fs,Γ,E,?_⟩
 cases e:fa Γ with
 | ok p Γ'=>rw [e] at h;exact fun v H' G Fs' A=>hq v H' (h v H' G Fs' A)
 | er c Γ'=>rw [e] at h;exact h
 | no=>rw [e] at h;exact h
theorem ot {o:Option (Option PV)} (h:fq o=true):∃ds,o=some (some ⟨.lst .leaf,.list ds⟩):=by
 unfold fq at h;split at h
 ·exact ⟨_,rfl⟩
 ·cases h
end
section
variable {X:Cx}
theorem AI:LL X (unaryOp .USub) (fun x H Q=>∃i,x=.int i/\Q (.int (-i)) H):=by
 intro pins s σ H x v Q I rx h;obtain ⟨i,rfl,q⟩:=h;obtain ⟨t,rfl⟩:=rx;exact neg_int ⟨.int (-i),H,I.tok _,⟨_,rfl⟩,q⟩
end
noncomputable def dP:Expr->Bool
 | .Starred ..=>true
 | _=>false
theorem fv {e:Expr} {es:List Expr} {env:Env} (h:dP e=false):starEach (e::es) env=(false,eval e env)::starEach es env:=by
 cases e<;>first | rfl | cases h
theorem iG {a:Expr} {env:Env} (h:dP a=false):starEach [a] env=[(false,eval a env)]:=fv h
theorem tX {a b:Expr} {env:Env} (h:dP a=false) (h2:dP b=false):starEach [a,b] env=[(false,eval a env),(false,eval b env)]:=by rw [fv h,iG h2]
noncomputable def DefOk (P:Program) (w:World) (K:Fg) (mg:Str->Option Value) (base:Heap) (j:Nat) (x:Str) (n:Nat) (den:List PySem.PyData->bA):Prop:=
 ∃(f:Addr) (fd:FuncData) (ps:List Str),dk P w K mg base iY j f fd ps (lR K n den)/\mg x=some (.ref f)/\PySem.W.keepIn K (.ref f)=true/\Binds K fd ps []
noncomputable def fC (K:Fg) (mg:Str->Option Value) (x:Str) (d:PySem.PyData):Prop:=∃u v,mg x=some u/\RelV v u/\∀H,Rep K H v d
theorem DefOk.cal {X:Cx} {j k n:Nat} {x:Str} {den:List PySem.PyData->bA} (h:DefOk X.prog X.w X.K X.mg X.base j x n den) (hr:Room k X.A) (hj:decide (j<=k)=true):G4 X x n den:=by
 obtain ⟨f,fd,ps,F,a,b,c⟩:=h;exact ⟨j,f,fd,ps,F,hr.mono (of_decide_eq_true hj),a,b,c⟩
noncomputable def HM:PySem.PyData->V
 | .none=>.non
 | .bool b=>.bl b
 | .int i=>.int i
 | .str x=>.str x
 | _=>.non
noncomputable def sg:List Value->List PySem.PyData->Bool
 | .int i _::r,.int j::ds=>decide (i=j)&&sg r ds
 | .str x _::r,.str y::ds=>decide (x=y)&&sg r ds
 | [],[]=>true
 | _,_=>false
theorem Hn:∀{us:List Value} {ds:List PySem.PyData},sg us ds=true->Vals (ds.map HM) us/\∀d∈ds,Sc (HM d) d
 | [],[],_=>⟨.nil,fun d hd=>(nomatch hd)⟩
 | .int i t::r,.int j::ds,h=>by
  simp only [sg,Bool.and_eq_true,decide_eq_true_eq] at h
  obtain ⟨rfl,h⟩:=h;obtain ⟨a,b⟩:=Hn h;refine ⟨.cons ⟨t,rfl⟩ a,fun d hd=>?_⟩
  rcases List.mem_cons.mp hd with z | z
  ·rw [z];exact .int i
  ·exact b d z
 | .str i t::r,.str j::ds,h=>by
  simp only [sg,Bool.and_eq_true,decide_eq_true_eq] at h
  obtain ⟨rfl,h⟩:=h;obtain ⟨a,b⟩:=Hn h;refine ⟨.cons ⟨t,rfl⟩ a,fun d hd=>?_⟩
  rcases List.mem_cons.mp hd with z | z
  ·rw [z];exact .str i
  ·exact b d z
noncomputable def si (its:Array Value) (ds:List PySem.PyData):Bool:=decide (its.size<=sizeLine)&&sg its.toList ds
theorem yO {K:Fg} {mg:Str->Option Value} {x:Str} {a:Addr} {dd:Option Addr} {its:Array Value} {n:Nat} {sl:Array (Option Value)} {ds:List PySem.PyData} (hm:mg x=some (.ref a)) (l:K.lookup a=some ⟨.type "tuple",dd,.seq its n,sl⟩) (h:si its ds=true):fC K mg x (.tuple ds):=by
 unfold si at h;simp only [Bool.and_eq_true,decide_eq_true_eq] at h
 obtain ⟨v,s⟩:=Hn h.2;refine ⟨.ref a,.ref a,hm,rfl,fun H=>.tup (vs:=ds.map HM) (.inr ⟨_,its,n,l,rfl,rfl,h.1,v⟩) (by simp) fun i v d h1 h2=>?_⟩
 rw [getElem?_map,h2] at h1
 cases h1;exact (s d (mem_of_getElem? h2)).rep
theorem yQ {K:Fg} {mg:Str->Option Value} {x:Str} {i:Int} {t:Tok} (hm:mg x=some (.int i t)):fC K mg x (.int i):=⟨.int i t,.int i,hm,⟨t,rfl⟩,fun H=>.int i⟩
theorem Cf {K:Fg} {m:List PySem.PyData->bA} {H:Hp} {a:Addr} {ns:List Int} {E:XK} (h:m [.list (ns.map .int)]=.ok ⟨.leaf,.bool true⟩) (hS:SqL K H a (ns.map V.int)):lR K 1 m [.ref a] H (fun v _=>v=.bl true) E:=by
 refine ⟨rfl,[],[.list (ns.map .int)],nodup_nil,(fun _ z=>nomatch z),⟨rfl,fun i v d h1 h2=>?_⟩,?_⟩
 ·rw [Hr]
  match i,h1,h2 with
  | 0,h1,h2=>
   cases h1
   cases h2;refine .lst hS (by simp) fun i v d h1 h2=>?_
   rw [getElem?_map] at h1 h2
   cases e:ns[i]? with
   | none=>rw [e] at h1;cases h1
   | some z=>
    rw [e] at h1 h2
    cases h1
    cases h2;exact .int z
  | i+1,h1,h2=>simp at h1
 ·rw [h]
  intro v H' G r
  have o:=r.own.rep
  cases o;rfl
end T
namespace TQ
open PySem PySem.Spec L2 T
open PyProof.Rows hiding St
structure Q (p:Prop):Prop where
 p:p
section
variable {X:Cx} {N gl:List Str} {vs cs ls lo gs:List Nat} {W:XW} {a b c e:Expr} {es:List Expr} {pos p:Pos} {fa fb fc:F1} {fl:FL} {ga gb:FB} {g1 g2 g:FS}
theorem w_cv (S:Cp X N gl vs cs ls lo gs) (i:Nat) {x:Str} (hN:N[i]?=some x) (hv:vs.contains i=true):Q (PE X (.Name x pos) (tE X.K W (af i))):=⟨T.cv S i hN hv⟩
theorem sY (S:Cp X N gl vs cs ls lo gs) (i:Nat) {x:Str} (hN:N[i]?=some x) (hv:vs.contains i=true):Q (PE X (.Name x pos) (tE X.K W (cP i))):=⟨by
 have m:=S.nm x (mem_of_getElem? hN)
 exact yK (wB (by rw [S.hN];exact hN) (S.vis i x hN hv) m.1 m.2)⟩
theorem dz (S:Cp X N gl vs cs ls lo gs) (j:Nat) {x:Str} {d:PySem.PyData} (hj:gl[j]?=some x) (hg:gs.contains j=true) (h:Con X x d):Q (PE X (.Name x pos) (tE X.K W (eK d))):=⟨T.ck S j hj hg h⟩
theorem w_de_int {j:Int} {k pos}:Q (PE X (.Constant (.int j) k pos) (tE X.K W (eK (.int j)))):=⟨bc BM fun _ _ _=>uq fun _=>.int j⟩
theorem zk {j:Bool} {k pos}:Q (PE X (.Constant (.bool j) k pos) (tE X.K W (eK (.bool j)))):=⟨bc zM fun _ _ _=>uq fun _=>.bl j⟩
theorem I0 {k pos}:Q (PE X (.Constant .none k pos) (tE X.K W (eK .none))):=⟨bc BL fun _ _ _=>uq fun _=>.non⟩
theorem dw {j:Str} {k pos}:Q (PE X (.Constant (.str j) k pos) (tE X.K W (eK (.str j)))):=⟨T.de_str ⟩
theorem ly (ha:Q (PE X a (tE X.K W fa))) (hb:Q (PE X b (tE X.K W fb))):Q (PE X (.BinOp a .Add b pos) (tE X.K W (ay aW fa fb))):=⟨have ha:=ha.p;have hb:=hb.p;bc (fH B8 ha hb) fun _ _ _=>ix (Dq fun _ _=>.int _)⟩
theorem DD (ha:Q (PE X a (tE X.K W fa))) (hb:Q (PE X b (tE X.K W fb))):Q (PE X (.BinOp a .Sub b pos) (tE X.K W (ay gSub fa fb))):=⟨have ha:=ha.p;have hb:=hb.p;bc (fH BW ha hb) fun _ _ _=>ix (Dq fun _ _=>.int _)⟩
theorem DC (ha:Q (PE X a (tE X.K W fa))) (hb:Q (PE X b (tE X.K W fb))):Q (PE X (.BinOp a .Mult b pos) (tE X.K W (ay jM fa fb))):=⟨have ha:=ha.p;have hb:=hb.p;bc (fH B0 ha hb) fun _ _ _=>ix (qc (fun i j h=>by
 simp only [sr,Bool.or_eq_true,Bool.and_eq_true,decide_eq_true_eq] at h
 exact h) fun _ _=>.int _)⟩
theorem Ed (ha:Q (PE X a (tE X.K W fa))) (hb:Q (PE X b (tE X.K W fb))):Q (PE X (.BinOp a .FloorDiv b pos) (tE X.K W (ay hV fa fb))):=⟨have ha:=ha.p;have hb:=hb.p;bc (fH xX ha hb) fun _ _ _=>ix (qc (fun i j h=>by
 simp only [yV,Bool.and_eq_true,decide_eq_true_eq] at h
 exact h) fun _ _=>.int _)⟩
theorem iq (ha:Q (PE X a (tE X.K W fa))) (hb:Q (PE X b (tE X.K W fb))):Q (PE X (.BinOp a .Mod b pos) (tE X.K W (ay bN fa fb))):=⟨have ha:=ha.p;have hb:=hb.p;bc (fH B1 ha hb) fun _ _ _=>ix (qc (fun i j h=>by
 simp only [yU,decide_eq_true_eq] at h
 exact h) fun _ _=>.int _)⟩
theorem IK (ha:Q (PE X a (tE X.K W fa))) (hb:Q (PE X b (tE X.K W fb))):Q (PE X (.BinOp a .Pow b pos) (tE X.K W (ay jL fa fb))):=⟨have ha:=ha.p;have hb:=hb.p;bc (fH BY ha hb) fun _ _ _=>ix (qc (fun i j h=>by
 simp only [yS,Bool.and_eq_true,decide_eq_true_eq] at h
 exact ⟨h.1.1,h.1.2,h.2⟩) fun _ _=>.int _)⟩
theorem IJ (ha:Q (PE X a (tE X.K W fa))) (hb:Q (PE X b (tE X.K W fb))):Q (PE X (.BinOp a .Mult b pos) (tE X.K W (kZ fa fb))):=⟨have ha:=ha.p;have hb:=hb.p;bc (fH BX ha hb) fun _ _ _=>Be⟩
theorem II (ha:Q (PE X a (tE X.K W fa))):Q (PE X (.UnaryOp .USub a pos) (tE X.K W (eU iN fa))):=⟨have ha:=ha.p;bc (Fl AI ha) fun _ _ _=>ER fun x H Q a d r e k=>by
 cases r<;>simp only [iN] at e<;>cases e
 exact ⟨_,rfl,k _ (.int _)⟩⟩
theorem sV (ha:Q (PE X a (tE X.K W fa))):Q (PE X (.UnaryOp .Not a pos) (tE X.K W (rO fa))):=⟨have ha:=ha.p;bc (BK ha) fun _ _ _=>Bf⟩
theorem Jz {op:CmpOp} {r:R2} {g:PySem.PyData->PySem.PyData->Option PySem.PyData} (k:Ck X op r g) (ha:Q (PE X a (tE X.K W fa))) (hb:Q (PE X b (tE X.K W fb))) (hm:behindInMarks op b=false):Q (PE X (.Compare a [op] [b] pos) (tE X.K W (ay g fa fb))):=⟨have ha:=ha.p;have hb:=hb.p;C5 k.o k.g ha hb hm⟩
theorem Eu {op op':CmpOp} {r r':R2} {g g':PySem.PyData->PySem.PyData->Option PySem.PyData} (k:Ck X op r g) (k':Ck X op' r' g') (ha:Q (PE X a (tE X.K W fa))) (hb:Q (PE X b (tE X.K W fb))) (hc:Q (PE X c (tE X.K W fc))) (hm:lastMarks [op,op'] [b,c]=false):Q (PE X (.Compare a [op,op'] [b,c] pos) (tE X.K W (dn g g' fa fb fc))):=⟨have ha:=ha.p;have hb:=hb.p;have hc:=hc.p;wa k.o k.g k'.o k'.g ha hb hc hm⟩
theorem wW {op} (h:Q (PE X a (tE X.K W fa))):Q (PE X (.BoolOp op [a] pos) (tE X.K W fa)):=⟨L2.pe_one h.p⟩
theorem DB (ha:Q (PE X a (tE X.K W fa))) (hb:Q (PE X (.BoolOp .And (b::es) pos) (tE X.K W fb))):Q (PE X (.BoolOp .And (a::b::es) pos) (tE X.K W (jo fa fb))):=⟨have ha:=ha.p;have hb:=hb.p;bc (BO ha hb) fun _ _ _=>Br⟩
theorem Hy (ha:Q (PE X a (tE X.K W fa))) (hb:Q (PE X (.BoolOp .Or (b::es) pos) (tE X.K W fb))):Q (PE X (.BoolOp .Or (a::b::es) pos) (tE X.K W (yD fa fb))):=⟨have ha:=ha.p;have hb:=hb.p;bc (Fm ha hb) fun _ _ _=>ET⟩
theorem Ax (hc:Q (PT X c (tT X.K W ga))) (ha:Q (PE X a (tE X.K W fa))) (hb:Q (PE X b (tE X.K W fb))):Q (PE X (.IfExp c a b pos) (tE X.K W (nJ ga fa fb))):=⟨have hc:=hc.p;have ha:=ha.p;have hb:=hb.p;bc (uQ hc ha hb) fun _ _ _=>EU⟩
theorem w_de_idx (ha:Q (PE X a (tE X.K W fa))) (hb:Q (PE X b (tE X.K W fb))) (hs:iW b):Q (PE X (.Subscript a b pos) (tE X.K W (av fa fb))):=⟨have ha:=ha.p;have hb:=hb.p;bc (Fo Ct ha hb hs) fun _ _ _=>Bk⟩
theorem eA (s:Sh) (h:Q (PA X es (tA X.K W fl))):Q (PE X (.List es pos) (tE X.K W (aG s fl))):=⟨have h:=h.p;bc (uP h) fun _ _ _=>pD⟩
theorem fS {x1} (h:Q (PA X es (tA X.K W fl))):Q (PE X (.Tuple es x1 pos) (tE X.K W (bx fl))):=⟨have h:=h.p;bc (uN h) fun _ _ _=>Ba⟩
theorem sG :Q (PA X [] (tA X.K W ah)):=⟨T.da_nil ⟩
theorem j6 (ha:Q (PE X e (tE X.K W fa))) (hr:Q (PA X es (tA X.K W fl))) (hs:starEach (e::es) X.env=(false,eval e X.env)::starEach es X.env):Q (PA X (e::es) (tA X.K W (ae fa fl))):=⟨T.da_cons ha.p hr.p hs⟩
theorem Jy {scope:Scope} {x:Str} {px:Pos} {iter elt:Expr} {ifs:List Expr} {fi:FI} {fe:F1} {fc:FB} {vs' cs' lo' gs':List Nat} (S:Cp X N gl vs cs ls lo gs) (s:Sh) (i:Nat) (hx:N[i]?=some x) (h1:gO N i cs scope=true) (h2:kr N gl vs' cs' [i] lo' gs' scope=true) (hi':Q (PI X (.Name x px) iter (tI X.K W fi))) (hc:wO X N gl vs' cs' [i] lo' gs' fun Y=>Q (PF Y ifs (tT Y.K W0 fc))) (he:wO X N gl vs' cs' [i] lo' gs' fun Y=>Q (PE Y elt (tE Y.K W0 fe))) (hs:∀x,foldedSetIterable iter X.env x=pure x):Q (PE X (.ListComp elt [⟨.Name x px,iter,ifs,0⟩] scope pos) (tE X.K W (aN s i fi fc fe))):=⟨T.co S s i hx h1 h2 hi'.p (fun Y S F=>(hc Y S F).p) (fun Y S F=>(he Y S F).p) hs⟩
theorem gh {scope:Scope} {x y:Str} {px pos' spos:Pos} {iter elt:Expr} {ifs:List Expr} {fi:FI} {fe:F1} {fc:FB} {vs' cs' lo' gs':List Nat} (S:Cp X N gl vs cs ls lo gs) (own:Bool) (j:Nat) (s:Sh) (i:Nat) (hy:N[j]?=some y) (hyl:lo.contains j=true) (hx:N[i]?=some x) (hsl:(pos'.line==pos.line)=true) (hsn:(scope.names.any fun (n,k)=>n==y&&(k==NameKind.local||k==NameKind.cell))=false) (h1:gO N i cs scope=true) (h2:kr N gl vs' cs' [i] lo' gs' scope=true) (hi':Q (PI X (.Name x px) iter (tI X.K W fi))) (hc:wO X N gl vs' cs' [i] lo' gs' fun Y=>Q (PF Y ifs (tT Y.K W0 fc))) (he:wO X N gl vs' cs' [i] lo' gs' fun Y=>Q (PE Y elt (tE Y.K W0 fe))) (hs:∀x,foldedSetIterable iter X.env x=pure x):Q (PS X (.Assign [.Name y pos'] (.ListComp elt [⟨.Name x px,iter,ifs,0⟩] scope pos) spos) (tS X.K W (aE own j (aN s i fi fc fe)))):=⟨by
 have hi':=hi'.p
 have hc:=fun Y S F=>(hc Y S F).p
 have he:=fun Y S F=>(he Y S F).p
 have B:=fun cells C s₀ H₀ ex=>S.blk h2 cells C s₀ H₀ ex
 have L:=fun cells C s₀ H₀ ex=>(B cells C s₀ H₀ ex).loc i x hx (by simp)
 exact oC (X:=X) own j s i (Hz S h1) (by rw [S.hN];exact S.nd) hi' (fun cells C s₀ H₀ ex=>hc _ (B cells C s₀ H₀ ex) ⟨rfl,rfl,rfl,rfl,rfl,rfl⟩) (fun cells C s₀ H₀ ex=>he _ (B cells C s₀ H₀ ex) ⟨rfl,rfl,rfl,rfl,rfl,rfl⟩)
  (Je S.kind (S.loo j y hy hyl) hsl hsn) (by rw [S.hN];exact hy) (S.loo j y hy hyl) S.calm (by rw [S.hN];exact hx) (fun cells C s₀ H₀ ex=>(L cells C s₀ H₀ ex).1) (fun cells C s₀ H₀ ex=>(L cells C s₀ H₀ ex).2) hs⟩
theorem tj (S:Cp X N gl vs cs ls lo gs) (j:Nat) (hj:gl[j]?=some ("len":Str)) (hg:gs.contains j=true) (hm:X.mg "len"=none) (ha:Q (PA X (e::es) (tA X.K W fl))) (he:starEach (e::es) X.env=(false,eval e X.env)::starEach es X.env) (hpl:(backTo pos (starEach es X.env)).any (·.1)=false):Q (PE X (.Call (.Name "len" p) (e::es) [] pos) (tE X.K W (bW bt fl))):=⟨have ha:=ha.p;Ah (call_len_seq.or lr) CG GE hm ha (S.g hj hg).1 (S.g hj hg).2.2 (S.g hj hg).2.1 he hpl⟩
theorem AA (S:Cp X N gl vs cs ls lo gs) (j:Nat) (hj:gl[j]?=some ("all":Str)) (hg:gs.contains j=true) (hm:X.mg "all"=none) (ha:Q (PA X (e::es) (tA X.K W fl))) (he:starEach (e::es) X.env=(false,eval e X.env)::starEach es X.env) (hpl:(backTo pos (starEach es X.env)).any (·.1)=false):Q (PE X (.Call (.Name "all" p) (e::es) [] pos) (tE X.K W (bW (gJ false) fl))):=⟨have ha:=ha.p;Ah (sq S.calm) CI GG hm ha (S.g hj hg).1 (S.g hj hg).2.2 (S.g hj hg).2.1 he hpl⟩
theorem tm (S:Cp X N gl vs cs ls lo gs) (j:Nat) (hj:gl[j]?=some ("int":Str)) (hg:gs.contains j=true) (hm:X.mg "int"=none) (ha:Q (PA X (e::es) (tA X.K W fl))) (he:starEach (e::es) X.env=(false,eval e X.env)::starEach es X.env) (hpl:(backTo pos (starEach es X.env)).any (·.1)=false):Q (PE X (.Call (.Name "int" p) (e::es) [] pos) (tE X.K W (bW ox fl))):=⟨have ha:=ha.p;Gu sj CH GF hm ha (S.g hj hg).1 (S.g hj hg).2.2 (S.g hj hg).2.1 he hpl⟩
theorem w_cb_list (S:Cp X N gl vs cs ls lo gs) (j:Nat) (hj:gl[j]?=some ("list":Str)) (hg:gs.contains j=true) (hm:X.mg "list"=none) (ha:Q (PE X e (tE X.K W fa))) (hs:starEach [e] X.env=[(false,eval e X.env)]):Q (PE X (.Call (.Name "list" p) [e] [] pos) (tE X.K W (et fa))):=⟨have ha:=ha.p;rX hm ha (S.g hj hg).1 hs⟩
theorem JA {x:Str} {n:Nat} {den:List PySem.PyData->bA} (S:Cp X N gl vs cs ls lo gs) (j:Nat) (hj:gl[j]?=some x) (hg:gs.contains j=true) (C:G4 X x n den) (ha:Q (PA X (e::es) (tA X.K W fl))) (he:starEach (e::es) X.env=(false,eval e X.env)::starEach es X.env) (hpl:(backTo pos (starEach es X.env)).any (·.1)=false):Q (PE X (.Call (.Name x p) (e::es) [] pos) (tE X.K W (aj n den fl))):=⟨T.cc S j hj hg C ha.p he hpl⟩
theorem gj {tg:Expr} (S:Cp X N gl vs cs ls lo gs) (j:Nat) (hj:gl[j]?=some ("range":Str)) (hg:gs.contains j=true) (hm:X.mg "range"=none) (ha:Q (PA X [a] (tA X.K W fl))) (hs:starEach [a] X.env=[(false,eval a X.env)]):Q (PI X tg (.Call (.Name "range" p) [a] [] pos) (tI X.K W (hU fl))):=⟨have ha:=ha.p;Gn hm ha (S.g hj hg).1 hs⟩
theorem Et {tg:Expr} (S:Cp X N gl vs cs ls lo gs) (j:Nat) (hj:gl[j]?=some ("range":Str)) (hg:gs.contains j=true) (hm:X.mg "range"=none) (ha:Q (PA X [a,b] (tA X.K W fl))) (hs:starEach [a,b] X.env=[(false,eval a X.env),(false,eval b X.env)]) (hs2:starEach [b] X.env=[(false,eval b X.env)]):Q (PI X tg (.Call (.Name "range" p) [a,b] [] pos) (tI X.K W (ym fl))):=⟨have ha:=ha.p;Gm hm ha (S.g hj hg).1 hs hs2⟩
theorem w_di_seq {tg:Expr} (ha:Q (PE X a (tE X.K W fa))):Q (PI X tg a (tI X.K W (b9 fa))):=⟨have ha:=ha.p;qx (Hu ha) fun _ _ _=>xA⟩
theorem Jx {op:CmpOp} {r:R2} {g:PySem.PyData->PySem.PyData->Option PySem.PyData} (k:Ck X op r g) (ha:Q (PE X a (tE X.K W fa))) (hb:Q (PE X b (tE X.K W fb))) (hm:behindInMarks op b=false):Q (PT X (.Compare a [op] [b] pos) (tT X.K W (aO ao (ay g fa fb)))):=⟨T.ct k ha.p hb.p hm⟩
theorem Es {op op':CmpOp} {r r':R2} {g g':PySem.PyData->PySem.PyData->Option PySem.PyData} (k:Ck X op r g) (k':Ck X op' r' g') (ha:Q (PE X a (tE X.K W fa))) (hb:Q (PE X b (tE X.K W fb))) (hc:Q (PE X c (tE X.K W fc))) (hm:lastMarks [op,op'] [b,c]=false):Q (PT X (.Compare a [op,op'] [b,c] pos) (tT X.K W (aO ao (dn g g' fa fb fc)))):=⟨have ha:=ha.p;have hb:=hb.p;have hc:=hc.p;vR k.o k.g k'.o k'.g ha hb hc hm⟩
theorem wI (ha:Q (PT X a (tT X.K W ga))):Q (PT X (.UnaryOp .Not a pos) (tT X.K W (cU ga))):=⟨have ha:=ha.p;qw (BB ha) fun _ _ _=>xE⟩
theorem zj (ha:Q (PT X a (tT X.K W ga))):Q (PW X (.BoolOp .Or [a] pos) (tT X.K W ga)):=⟨have ha:=ha.p;BA ha⟩
theorem qB (ha:Q (PT X a (tT X.K W ga))) (hb:Q (PW X (.BoolOp .Or (b::es) pos) (tT X.K W gb))):Q (PW X (.BoolOp .Or (a::b::es) pos) (tT X.K W (eN ga gb))):=⟨have ha:=ha.p;have hb:=hb.p;GO (Ff ha hb) fun _ _ _=>Bp⟩
theorem zm (h:Q (PW X a (tT X.K W ga))):Q (PT X a (tT X.K W ga)):=⟨L2.PW.pt h.p⟩
theorem sN (ha:Q (PE X a (tE X.K W fa))) (he:∀whole,isTrue a X.env whole=(do let v <-whole;standAt a.pos;holding [v] (truthy v))):Q (PT X a (tT X.K W (aO bY fa))):=⟨have ha:=ha.p;qw (uF ha he) fun _ _ _=>Bb⟩
theorem fE :Q (PSs X [] (tS X.K W aP)):=⟨G5 pJ fun _ _ _=>xw⟩
theorem w_ds_one {st:Stmt} (h1:Q (PS X st (tS X.K W g1))):Q (PSs X [st] (tS X.K W g1)):=⟨have h1:=h1.p;Aw h1⟩
theorem br {st:Stmt} {bf:List Stmt} (h1:Q (PS X st (tS X.K W g1))) (h2:Q (PSs X bf (tS X.K W g2))):Q (PSs X (st::bf) (tS X.K W (ak g1 g2))):=⟨have h1:=h1.p;have h2:=h2.p;G5 (sM h1 h2) fun _ _ _=>um⟩
theorem sU (ha:Q (PE X a (tE X.K W fa))):Q (PS X (.Return (some a) pos) (tS X.K W (aS fa))):=⟨have ha:=ha.p;dq (Hi ha) fun _ _ _=>uo⟩
theorem du {A B:List Stmt} (hc:Q (PT X c (tT X.K W ga))) (ha:Q (PSs X A (tS X.K W g1))) (hb:Q (PSs X B (tS X.K W g2))):Q (PS X (.If c A B pos) (tS X.K W (bO ga g1 g2))):=⟨have hc:=hc.p;have ha:=ha.p;have hb:=hb.p;dq (Fi hc ha hb) fun _ _ _=>Bj⟩
theorem DA (S:Cp X N gl vs cs ls lo gs) (i:Nat) {x:Str} {px:Pos} {iter:Expr} {body:List Stmt} {fi:FI} {g:FS} (hx:N[i]?=some x) (hl:ls.contains i=true) (hp:PassesOwn (model X.prog X.w) X.A X.env X.xe) (hi':Q (PI X (.Name x px) iter (tI X.K W fi))) (hb:Q (PSs X body (tS X.K W g))) (hs:∀x,foldedSetIterable iter X.env x=pure x):Q (PS X (.For (.Name x px) iter body [] pos) (tS X.K W (eJ i fi g))):=⟨have hi':=hi'.p;have hb:=hb.p;C1 i hp (by rw [S.hN];exact S.nd) hi' hb S.calm (by rw [S.hN];exact hx) (S.loc i x hx hl).1 (S.loc i x hx hl).2 hs⟩
theorem sW (S:Cp X N gl vs cs ls lo gs) (own:Bool) (i:Nat) {x:Str} {pos':Pos} (hi:N[i]?=some x) (hl:ls.contains i=true) (hs:swapsWith a (some (.Name x pos')) pos.line X.env=pure false) (ha:Q (PE X a (tE X.K W fa))):Q (PS X (.Assign [.Name x pos'] a pos) (tS X.K W (aE own i fa))):=⟨have ha:=ha.p;C0 own i (by rw [S.hN];exact S.nd) ha (by rw [S.hN];exact hi) (S.loc i x hi hl).1 hs (S.loc i x hi hl).2⟩
theorem HK (S:Cp X N gl vs cs ls lo gs) (i:Nat) {x:Str} {apos cpos:Pos} (hi:N[i]?=some x) (hv:vs.contains i=true) (ha:Q (PE X a (tE X.K W fa))) (hs:starEach [a] X.env=[(false,eval a X.env)]) (hbase:attributeBase (.Name x p) "append" X.env (eval (.Name x p) X.env)=eval (.Name x p) X.env) (hline:(apos.endLine==cpos.line)=true) (hfew:((backTo cpos (starEach [a] X.env)).all (fun x=>!x.1)&&(backToKw cpos (keywordEach [] X.env)).all (fun x=>x.1.isSome)
   && decide ([a].length+([]:List Keyword).length+(if ([]:List Keyword).isEmpty then 0 else 1)<30))=true) (hsw:swapsWith (.Call (.Attribute (.Name x p) "append" apos) [a] [] cpos) none pos.line X.env=pure false):Q (PS X (.Expr (.Call (.Attribute (.Name x p) "append" apos) [a] [] cpos) pos) (tS X.K W (aV i fa))):=⟨T.cs_append S i hi hv ha.p hs hbase hline hfew hsw⟩
theorem w_df_nil :Q (PF X [] (tT X.K W0 bD)):=⟨GS uM fun σ H Q h=>by
 obtain ⟨He,O,Fs,Γ,E,h⟩:=h;exact h H Fs (Same.refl _) E fun _ z=>.inl z⟩
theorem lH (h:Q (PT X c (tT X.K W0 ga))):Q (PF X [c] (tT X.K W0 ga)):=⟨have h:=h.p;uL h⟩
end
end TQ
namespace T
open PySem PySem.Spec L2
open PyProof.Rows hiding St
noncomputable def fm:FS:=fun _=>.no
noncomputable def lz:PySem.PyData->String
 | .none => "NoneType"
 | .bool _ => "bool"
 | .int _ => "int"
 | .str _ => "str"
 | .list _ => "list"
 | .tuple _ => "tuple"
 | .dict _ => "dict"
noncomputable def fx (t c:String):Bool:=t==c||(t == "bool"&&c == "int")
noncomputable def kinds:List String:=["bool", "int", "str", "list", "tuple"]
theorem ye {K:Fg} {c:String} (hc:c∈kinds):∀t∈["NoneType", "bool", "int", "str", "list", "tuple"],PySem.W.kitOne K (.type t) (.type c)=some (fx t c):=by
 intro t ht;unfold kinds at hc;simp only [mem_cons,not_mem_nil,or_false] at hc ht
 rcases hc with rfl | rfl | rfl | rfl | rfl<;>rcases ht with rfl | rfl | rfl | rfl | rfl | rfl<;>kernel_rfl
section
variable {X:Cx} {pins:List (Addr×Obj)} {σ:St} {H:Hp} {s:Shared} {A:Around} {E:Value->Shared->Prop} {Q:Value->Shared->Prop} {c:Value} {b:Bool}
theorem oq {x:V} {u:Value} {d:PySem.PyData} (I:Inv X pins σ H s) (rx:RelV x u) (r:Rep X.K H x d) (e:PySem.W.kitOne X.K (.type (lz d)) c=some b) (h:∀tk,Q (.bool b) { s with toks:=tk }) :
  wpAny (model X.prog X.w) A (call (.builtin "isinstance") [u,c]) Q E s:=by
 cases r with
 | non=>exact Ay I rx .non e h
 | bl y=>exact Ay I rx (.bl y) e h
 | int i=>exact Ay I rx (.int i) e h
 | str y=>exact Ay I rx (.str y) e h
 | @lst p vs ds hs hl q=>
  rcases hs with (z | ⟨o,z⟩) | ⟨o,its,n,hk,hc,hd,hz,_⟩
  ·exact Ay I rx (.lst z) e h
  ·exact Ay I rx (.frz z) e h
  ·cases (show u=Value.ref p from rx)
   exact PySem.W.kia_one PySem.W.kitx_list I.kIn ⟨o,I.kIn _ o hk,hc⟩ e nofun h
 | @tup p vs ds hs hl q=>
  rcases hs with (z | ⟨o,z⟩) | ⟨o,its,n,hk,hc,hd,hz,_⟩
  ·exact Ay I rx (.tup z) e h
  ·cases (show u=Value.ref p from rx)
   obtain ⟨_,_,_,n,p1,h1,h2,_⟩:=(show ObjOk X.prog X.w H s.heap p (.frz o (.tup vs)) from I.hok p _ z);exact PySem.W.kia_one PySem.W.kitx_tuple I.kIn ⟨p1,h1,h2⟩ e nofun h
  ·cases (show u=Value.ref p from rx)
   exact PySem.W.kia_one PySem.W.kitx_tuple I.kIn ⟨o,I.kIn _ o hk,hc⟩ e nofun h
end
noncomputable def Bu (K:Fg) (c:String):List V->Hp->VK->Prop:=fun xs H Q=>∃x d,xs=[x,.ty c]/\Rep K H x d/\Q (.bl (fx (lz d) c)) H
theorem wg {X:Cx} {c:String} (hc:c∈kinds):CallR X (.builtin "isinstance") (Bu X.K c):=by
 intro pins s σ H xs us Q I rv h;obtain ⟨x,d,rfl,r,q⟩:=h;match us,rv with
 | [u,t],.cons r1 (.cons r2 .nil)=>
  cases (show t=Value.type c from r2)
  have ht:lz d∈["NoneType", "bool", "int", "str", "list", "tuple"]:=by cases r<;>simp [lz]
  exact oq I r1 r (ye hc _ ht) fun tk=>⟨.bl _,H,I.tok tk,rfl,q⟩
noncomputable def mX (c:String) (fa:F1):F1:=aY fa fun p Γ=>.ok ⟨.leaf,.bool (fx (lz p.d) c)⟩ Γ
theorem Bh {K:Fg} {W:XW} {σ:St} {H:Hp} {Q:VK} {fa:F1} {c:String} (h:tE K W (mX c fa) σ H Q):zz (Bu K c) (dW (tE K W fa) (dW (tC (.ty c)) lO)) σ H Q:=by
 show tE K W fa σ H fun x H1=>Bu K c [x,.ty c] H1 Q
 refine wC h fun He O Fs Γ1 p v H1 G Fs1 nd A w=>?_
 exact ⟨v,p.d,rfl,A.own.rep,Wants.scal w (.bl _) A.same A.env.dropL (fun a ha=>ha) nd fun a ha=>A.new a (mem_append_right _ ha)⟩
noncomputable def bK (c:FB) (g:FS):Nat->Ev->dr
 | 0,_=>.no
 | n+1,Γ=>match c Γ with
  | .ok true Γ1=>(match g Γ1 with
   | .nx Γ2=>bK c g n Γ2
   | .ct Γ2=>bK c g n Γ2
   | .bk Γ2=>.nx Γ2
   | .rt p=>.rt p
   | .er e Γ2=>.er e Γ2
   | .no=>.no)
  | .ok false Γ1=>.nx Γ1
  | .er e Γ1=>.er e Γ1
  | .no=>.no
noncomputable def gW (n:Nat) (c:FB) (g:FS):FS:=bK c g n
section
variable {K:Fg} {W:XW} {σ:St} {H:Hp} {Q:VK} {D:eu} {fa fb:F1} {fl:FL}
theorem ui {n:Nat} {c:FB} {g:FS} (h:tS K W (gW n c g) D σ H):tJ (tT K W c) (tS K W g) D σ H:=by
 obtain ⟨He,O,Fs,Γ,E,h⟩:=h;refine ⟨fun m σ' H'=>∃Γk Fk,EnvOk K He O Fk H' σ' Γk/\bZ K W He O D (bK c g m Γk),⟨n,Γ,Fs,E,h⟩,?_⟩
 rintro m σ' H' ⟨Γk,Fk,Ek,hw⟩
 cases m with
 | zero=>exact hw.elim
 | succ m=>
  refine ⟨He,O,Fk,Γk,Ek,?_⟩
  rw [bK] at hw
  cases e:c Γk with
  | er x Γ1=>rw [e] at hw;exact fun H2 Fs2 s E2=>hw σ' H2 Fs2 E2
  | no=>rw [e] at hw;exact hw
  | ok b Γ1=>
   rw [e] at hw;intro H2 Fs2 s2 E2 n2
   cases b with
   | false=>rw [if_neg Bool.false_ne_true];exact hw σ' H2 Fs2 E2
   | true=>
    rw [if_pos rfl];refine ⟨fun σ3 H3=>∃Γ3 F3,EnvOk K He O F3 H3 σ3 Γ3/\bZ K W He O D (bK c g m Γ3),fun σ3 H3 q=>⟨m,Nat.lt_succ_self _,q⟩,He,O,Fs2,Γ1,E2,?_⟩
    have hw:bZ K W He O D (match g Γ1 with | .nx Γ2=>bK c g m Γ2 | .ct Γ2=>bK c g m Γ2 | .bk Γ2=>.nx Γ2 | .rt p=>.rt p | .er e Γ2=>.er e Γ2 | .no=>.no):=hw
    cases eb:g Γ1 with
    | nx Γ'=>rw [eb] at hw;exact fun σ2 H2 F2 E2=>⟨Γ',F2,E2,hw⟩
    | ct Γ'=>rw [eb] at hw;exact fun σ2 H2 F2 E2=>⟨Γ',F2,E2,hw⟩
    | bk Γ'=>rw [eb] at hw;exact fun σ2 H2 F2 E2=>hw σ2 H2 F2 E2
    | rt p=>rw [eb] at hw;exact fun u H2 G r=>hw u H2 G r
    | er x Γ'=>rw [eb] at hw;exact fun σ2 H2 F2 E2=>hw σ2 H2 F2 E2
    | no=>rw [eb] at hw;exact hw
theorem EnvOk.chgF {He:Hp} {O:List Addr} {Fs:List (List Addr)} {Γ:Ev} {i:Nat} {ds:List PySem.PyData} (E:EnvOk K He O Fs H σ Γ) (h:Γ[i]?=some (some ⟨.lst .leaf,.list ds⟩)) :
  ∃l vs,σ[i]?=some (some (.ref l))/\H l=some (.lst vs)/\vs.length=ds.length/\(∀(j:Nat) u d,vs[j]?=some u->ds[j]?=some d->Rep K (cN H (O++Fs.flatten)) u d) /\
   ∀(vs':List V) (ds':List PySem.PyData),vs'.length=ds'.length->(∀(j:Nat) u d,vs'[j]?=some u->ds'[j]?=some d->Rep K (cN H (O++Fs.flatten)) u d)->EnvOk K He O Fs (bU H l (.lst vs')) σ (Γ.set i (some ⟨.lst .leaf,.list ds'⟩)):=by
 obtain ⟨hv,v,F,h1,E1,o1,sub⟩:=E.move h;have hi:i<Γ.length:=(List.getElem?_eq_some_iff.mp h).1
 obtain ⟨_,v0,F0,h10,h20,o0⟩:=E.slot i _ h;obtain ⟨l,vs,rfl,rfl,hp,hl,hr⟩:=o1.leaves;obtain ⟨l',vs',e0,e1,hp',hl',hr'⟩:=o0.leaves;rw [h1] at h10
 cases h10
 cases e0;rw [hp] at hp'
 cases hp'
 refine ⟨l,vs,h1,hp,hl,hr',fun ws ds' hw q=>?_⟩
 have hlF:l∈Fs.flatten:=sub l (mem_append_left _ (List.mem_singleton.mpr rfl))
 have hHe:He l=none:=E.fresh l hlF
 have E4:=E1.mutO (o:=.lst ws) (mem_append_left _ (List.mem_singleton.mpr rfl)) hp hHe
 have ownL:Own K ([l]++O++(Fs.set i []).flatten) (bU H l (.lst ws)) (.lst .leaf) [l] (.ref l) (.list ds'):=by
  refine Own.mkLeaves gf hw fun j u d a1 a2=>?_
  rw [qb (mem_append_left _ (mem_append_left _ (List.mem_singleton.mpr rfl)))];refine (q j u d a1 a2).mono (sF (Same.refl _) fun a ha=>.inl ?_)
  rcases List.mem_append.mp ha with z | z
  ·rcases List.mem_append.mp z with z | z
   ·rw [List.mem_singleton.mp z];exact mem_append_right _ hlF
   ·exact mem_append_left _ z
  ·exact mem_append_right _ (sub a (mem_append_right _ z))
 have fin:=EnvOk.put (i:=i) (p:=⟨.lst .leaf,.list ds'⟩) (v:=.ref l) E4 ownL rfl (fun a ha=>by rw [List.mem_singleton.mp ha];exact hHe) (by rw [length_set];exact hi)
 rw [set_set,set_set,Eg h1] at fin;rw [e1] at h20;rw [Eg h20] at fin;exact fin
end
noncomputable def nU (K:Fg):List V->Hp->VK->Prop:=fun xs H Q=>∃(p:Addr) (ns:List Int),xs=[.ref p]/\SqL K H p (ns.map V.int)/\ns.length<64/\∀l,H l=none->Q (.ref l) (bU H l (.lst ((PySem.W.sortI ns).map V.int)))
theorem qa:∀{ns:List Int} {us:List Value},Vals (ns.map V.int) us->IntsAre us ns
 | [],_,.nil=>.nil
 | n::ns,_,.cons r t=>by
  obtain ⟨tk,rfl⟩:=(show ∃t,_=Value.int n t from r)
  exact .cons _ _ (qa t)
theorem o6:∀{ns:List Int} {us:List Value},IntsAre us ns->Vals (ns.map V.int) us
 | _,_,.nil=>.nil
 | _,_,.cons _ _ t=>.cons ⟨_,rfl⟩ (o6 t)
theorem jt {X:Cx}:CallR X (.builtin "sorted") (nU X.K):=by
 intro pins s σ H xs us Q I rv h;obtain ⟨p,ns,rfl,hS,h64,q⟩:=h;obtain ⟨u,rfl,ru⟩:=rv.one
 cases ru;obtain ⟨its,r,pl,hz⟩:=I.list hS;have hI:=qa r
 have hl:its.length=ns.length:=by rw [<-r.length,length_map]
 refine sorted_ints pl.isList hI (by omega) fun out ns' a1 a2 a3=>?_
 have e:=PySem.W.eq_sortI a2 a3
 subst e;obtain ⟨n,ho⟩:=sortedAll_at s.heap its out;have hlen:(PySem.W.sortI ns).length=ns.length:=(PySem.W.sortI_perm ns).length_eq
 have hb:=qJ (n:=ns.length) (by omega)
 refine ⟨.ref (s.heap.objs.size+1),bU H (s.heap.objs.size+1) (.lst ((PySem.W.sortI ns).map V.int)),I.laid (t':=s.toks) (fun b o e=>sortedAll_old e) (Nat.le_succ _) ⟨by rw [length_map,hlen];omega,out.toList,n,o6 a1,by simpa [seqObj] using ho⟩,rfl,q _ (I.hok.fresh (Nat.le_succ _))⟩
theorem o5:∀{xs:List V} {us:List Value},xs.length=us.length->(∀(i:Nat) x u,xs[i]?=some x->us[i]?=some u->RelV x u)->Vals xs us
 | [],[],_,_=>.nil
 | x::xs,u::us,hl,h=>.cons (h 0 x u rfl rfl) (o5 (by simpa using hl) fun i x u a b=>h (i+1) x u (by simpa using a) (by simpa using b))
 | [],_::_,hl,_=>by simp at hl
 | _::_,[],hl,_=>by simp at hl
noncomputable def KU (ta:TA):TE:=fun σ H Q=>ta σ H fun vs H1=>∃j:Int,vs=[.int j]/\-(2 ^ 62)<=j/\j<=sizeLine/\∀l,H1 l=none->Q (.ref l) (bU H1 l (.lst (fw 0 j.toNat)))
theorem kN {X:Cx} {a:Expr} {ta:TA} {p p2 pos pos2:Pos} (hg:Gl X "list") (hm:X.mg "list"=none) (hg2:Gl X "range") (hm2:X.mg "range"=none) (hc:X.calm=true) (ha:PA X [a] ta) (hs:starEach [a] X.env=[(false,eval a X.env)])
  (hs1:starEach [.Call (.Name "range" p2) [a] [] pos2] X.env=[(false,eval (.Call (.Name "range" p2) [a] [] pos2) X.env)]):PE X (.Call (.Name "list" p) [.Call (.Name "range" p2) [a] [] pos2] [] pos) (KU ta):=by
 intro pins s σ H Q I h;refine Call_ (wR I hg hm wm (PyProof.Rows.callWith_type1 ?_ hs1 rfl))
 rw [hs1];show wpAny _ _ (spliced ((false,eval (.Call (.Name "range" p2) [a] [] pos2) X.env)::[])) _ _ s
 refine Calls.spliced_cons (Call_ (wR I hg2 hm2 boot_range (PyProof.Rows.callWith_type1 (bF (ha pos2 pins s σ H _ I h) fun us s1 ⟨vs,H1,I1,r1,q1⟩=>?_) hs rfl)))
 obtain ⟨j,e,q1,q2,q⟩:=q1;subst e;obtain ⟨u,rfl,ru⟩:=r1.one;obtain ⟨t,rfl⟩:=(show ∃t,u=Value.int j t from ru)
 refine call_range_1 (Calls.spliced_nil ?_)
 have hz:(sizeLine:Int)<2 ^ 62:=by decide
 refine call_list_range (n:=j.toNat) (I.ok.hd hc) (IsRange.new ..) (small_one (by omega) (by omega) q1 (by omega)) (by rw [rangeSize_one];split<;>omega) (by have:(sizeLine:Nat)=2 ^ 24:=rfl;omega) fun h' tk acc' c' hk ho hacc=>?_
 have I2:Inv X pins σ H1 { s1 with heap:=s1.heap.push { cls:=.type "range",data:=.fields #[.int 0 s1.toks,.int j t,.int 1 (s1.toks+1)] },toks:=s1.toks+1+1 }:=I1.kept fun b o e=>Heap.get?_push_of_some _ e
 have hv:Vals (fw 0 j.toNat) acc'.toList:=by
  refine o5 (by have:=hacc.1;simp only [Array.length_toList,fw,length_map,List.length_range];omega) fun i x u e1 e2=>?_
  obtain ⟨t2,rfl⟩:=hacc.2 i u (by rw [<-Array.getElem?_toList];exact e2)
  unfold fw at e1;rw [getElem?_map] at e1
  cases e3:(List.range j.toNat)[i]? with
  | none=>rw [e3] at e1;cases e1
  | some k=>
   rw [e3] at e1;obtain ⟨k1,k2⟩:=List.getElem?_eq_some_iff.mp e3
   simp at k2
   subst k2
   cases e1;exact ⟨t2,by simp⟩
 refine ⟨.ref _,bU H1 _ (.lst (fw 0 j.toNat)),I2.laid (t':=tk) (fun b o e=>hk b o e) (Nat.le_refl _) ⟨?_,acc'.toList,c',hv,by simpa using ho⟩,rfl,q _ (I2.hok.fresh (Nat.le_refl _))⟩
 simp only [fw,length_map,List.length_range]
 omega
section
variable {K:Fg} {W:XW} {σ:St} {H:Hp} {Q:VK} {fa:F1} {fl:FL}
theorem AftL.newSc {He:Hp} {O:List Addr} {Fs Gs Fs1:List (List Addr)} {Γ1:Ev} {ps:List PV} {us:List V} {H1:Hp} {l:Addr} {vs:List V} {ds:List PySem.PyData} (A:AftL K He O Fs H σ Γ1 ps us H1 Gs Fs1) (nd:O.Nodup) (hl:H1 l=none) (hv:vs.length=ds.length) (hs:∀(i:Nat) v d,vs[i]?=some v->ds[i]?=some d->Sc v d) :
  Aft K He O Fs H σ Γ1 ⟨.lst .leaf,.list ds⟩ (.ref l) (bU H1 l (.lst vs)) [l] Fs1:=by
 refine ⟨A.same.trans (ip hl),A.env.dropL.hide (ip hl) (by simp) (by simpa using hl) (fun a ha=>by rw [List.mem_singleton.mp ha,gf];exact Option.some_ne_none _),fun a ha=>?_,?_⟩
 ·rcases List.mem_append.mp ha with z | z
  ·rw [List.mem_singleton.mp z];exact .inr (A.same.free hl)
  ·exact A.new a (mem_append_right _ z)
 ·exact Own.mkLeaves gf hv fun j u d e1 e2=>(hs j u d e1 e2).rep
noncomputable def vL (fl:FL):F1:=fun Γ=>(fl Γ).bind fun ps Γ'=>match jG (ps.map (·.d)) with
 | some j=>if j<=sizeLine then .ok ⟨.lst .leaf,.list (cj 0 j.toNat)⟩ Γ' else .no
 | none=>.no
theorem EW (h:tE K W (vL fl) σ H Q):KU (tA K W fl) σ H Q:=by
 obtain ⟨He,O,Fs,Γ,E,h⟩:=h;refine ⟨He,O,Fs,Γ,E,?_⟩
 unfold vL at h
 cases e:fl Γ with
 | er c Γ'=>rw [e] at h;exact h
 | no=>rw [e] at h;exact h
 | ok ps Γ1=>
  rw [e] at h;intro vs H1 Gs Fs1 A;have h:Wants K W He O Fs H σ Q (match jG (ps.map (·.d)) with | some j=>if j<=sizeLine then .ok ⟨.lst .leaf,.list (cj 0 j.toNat)⟩ Γ1 else .no | none=>.no):=h
  cases er:jG (ps.map (·.d)) with
  | none=>rw [er] at h;exact h.elim
  | some j=>
   rw [er] at h;obtain ⟨e1,e2,e3⟩:=pA er;have r:=A.reps
   rw [e1] at r;have h:Wants K W He O Fs H σ Q (if j<=sizeLine then .ok ⟨.lst .leaf,.list (cj 0 j.toNat)⟩ Γ1 else .no):=h
   by_cases hj:j<=sizeLine
   ·rw [if_pos hj] at h
    have hv:vs=[.int j]:=by
     have hl:=r.1
     match vs,hl with
     | [v],_=>
      have q:=r.2 0 v (.int j) rfl rfl
      cases q;rfl
    refine ⟨j,hv,e2,hj,fun l hl=>h _ _ _ _ (A.newSc E.ndO hl (by simp [fw,cj]) fun i v d a1 a2=>?_)⟩
    have q:=IF (K:=K) (H:=H1) (lo:=0) (n:=j.toNat)
    refine (q.2 i v d a1 a2).sc ?_
    unfold cj at a2;rw [getElem?_map] at a2
    cases e3:(List.range j.toNat)[i]? with
    | none=>rw [e3] at a2;cases a2
    | some k=>rw [e3] at a2;cases a2;rfl
   ·rw [if_neg hj] at h;exact h.elim
noncomputable def intsOf:List PySem.PyData->Option (List Int)
 | []=>some []
 | .int i::r=>(intsOf r).map (i :: ·)
 | _=>none
theorem kl:∀{ds:List PySem.PyData} {ns:List Int},intsOf ds=some ns->ds=ns.map .int
 | [],ns,h=>by cases h;rfl
 | .int i::r,ns,h=>by
  unfold intsOf at h
  cases e:intsOf r with
  | none=>rw [e] at h;cases h
  | some ms=>rw [e] at h;cases h;rw [kl e];rfl
 | .none::_,_,h=>by cases h
 | .bool _::_,_,h=>by cases h
 | .str _::_,_,h=>by cases h
 | .list _::_,_,h=>by cases h
 | .tuple _::_,_,h=>by cases h
 | .dict _::_,_,h=>by cases h
noncomputable def gk:List PySem.PyData->Option (List Int)
 | [.list ds]=>intsOf ds
 | _=>none
theorem nQ {ds:List PySem.PyData} {ns:List Int} (h:gk ds=some ns):ds=[.list (ns.map .int)]:=by
 unfold gk at h;split at h
 ·rw [kl h]
 ·cases h
noncomputable def eo (fl:FL):F1:=fun Γ=>(fl Γ).bind fun ps Γ'=>match gk (ps.map (·.d)) with
 | some ns=>if ns.length<64 then .ok ⟨.lst .leaf,.list ((PySem.W.sortI ns).map .int)⟩ Γ' else .no
 | none=>.no
theorem uk (h:tE K W (eo fl) σ H Q):zz (nU K) (tA K W fl) σ H Q:=by
 obtain ⟨He,O,Fs,Γ,E,h⟩:=h;refine ⟨He,O,Fs,Γ,E,?_⟩
 unfold eo at h
 cases e:fl Γ with
 | er c Γ'=>rw [e] at h;exact h
 | no=>rw [e] at h;exact h
 | ok ps Γ1=>
  rw [e] at h;intro vs H1 Gs Fs1 A;have r:=A.reps
  have h:Wants K W He O Fs H σ Q (match gk (ps.map (·.d)) with | some ns=>if ns.length<64 then .ok ⟨.lst .leaf,.list ((PySem.W.sortI ns).map .int)⟩ Γ1 else .no | none=>.no):=h
  cases ei:gk (ps.map (·.d)) with
   | none=>rw [ei] at h;exact h.elim
   | some ns=>
    rw [ei] at h;rw [nQ ei] at r;have h:Wants K W He O Fs H σ Q (if ns.length<64 then .ok ⟨.lst .leaf,.list ((PySem.W.sortI ns).map .int)⟩ Γ1 else .no):=h
    by_cases hn:ns.length<64
    ·rw [if_pos hn] at h
     have hl:=r.1
     match vs,hl with
     | [v],_=>
      have q:=r.2 0 v (.list (ns.map .int)) rfl rfl
      cases q with
      | @lst p ws _ hq hwl hw=>
       have ew:ws=ns.map V.int:=by
        apply ext_getElem?
        intro i;by_cases hi:i<ws.length
        ·have hi2:i<ns.length:=by rw [length_map] at hwl;omega
         have q:=hw i (ws[i]'hi) (.int (ns[i]'hi2)) (getElem?_eq_getElem _) (by rw [getElem?_map,getElem?_eq_getElem hi2];rfl)
         rw [getElem?_eq_getElem hi,getElem?_map,getElem?_eq_getElem hi2];generalize ws[i]'hi=u at q
         cases q;rfl
        ·rw [getElem?_eq_none (by omega),getElem?_eq_none (by rw [length_map] at hwl ⊢;omega)]
       rw [ew] at hq;refine ⟨p,ns,rfl,hq,hn,fun l hl=>h _ _ _ _ (A.newSc E.ndO hl (by simp) fun i v d a1 a2=>?_)⟩
       rw [getElem?_map] at a1 a2
       cases e3:(PySem.W.sortI ns)[i]? with
       | none=>rw [e3] at a1;cases a1
       | some z=>
        rw [e3] at a1 a2
        cases a1
        cases a2;exact .int z
    ·rw [if_neg hn] at h;exact h.elim
end
theorem Inv.turnedL {X:Cx} {pins:List (Addr×Obj)} {σ:St} {H:Hp} {s:Shared} {h':Heap} {t':Nat} {fp:List Addr} (I:L2.Inv X pins σ H s) (k:∀b o,b∉fp->s.heap.get? b=some o->h'.get? b=some o) (hf:∀b∈fp,gP X pins H b):L2.Inv X pins σ H { s with heap:=h',toks:=t' }:=by
 have nit:∀b u,H b=some u->b∉fp:=fun b u e z=>by have:=(hf b z).1;rw [e] at this;cases this
 have hL:X.env.locals∉fp:=fun z=>(hf _ z).2.1 rfl
 refine I.step (g':=s.gens) (d':=s.drawn) (ch:=fp) (fun b hb=>?_) (fun b o _ _ hc e _=>k b o hc e) (fun b o _ _ hc e _=>⟨o.slots,k b o hc e⟩) (fun _ _ _ _ n=>n)
  (fun b o hc e=>⟨o,k b o hc e⟩) (fun _ _ e=>e) (fun _ _ _ e=>e) (fun b ps e=>⟨#[],by rw [e];simp⟩) (fun m hm=>?_) (fun b u e=>?_) I.bare
 ·obtain ⟨f0,f1,f2,f3,f4,f5⟩:=hf b hb
  exact ⟨f3,f1,f4,f5⟩
 ·obtain ⟨o,es,ep,ho,r⟩:=hm
  exact ⟨o,es,ep,k _ o hL ho,r⟩
 ·refine (I.hok b u e).stay (fun c v hc q=>k c v ?_ q) (fun _ q=>q) fun _ _ q=>q
  rcases hc with z | z
  ·rw [z];exact nit b u e
  ·exact nit c _ z
theorem Inv.turnedT {X:Cx} {pins:List (Addr×Obj)} {σ:St} {H:Hp} {s:Shared} {h':Heap} {t':Nat} {fp:List Addr} {T:Addr} {xs:List V} (I:L2.Inv X pins σ H s) (k:∀b o,b∉fp->s.heap.get? b=some o->h'.get? b=some o) (hf:∀b∈fp,gP X pins H b) (hT:s.heap.objs.size<=T)
  (new:ObjOk X.prog X.w (bU H T (.tup xs)) h' T (.tup xs)):L2.Inv X pins σ (bU H T (.tup xs)) { s with heap:=h',toks:=t' }:=by
 have hTn:H T=none:=I.hok.fresh hT
 have nit:∀b u,H b=some u->b∉fp:=fun b u e z=>by have:=(hf b z).1;rw [e] at this;cases this
 have up:∀b u,H b=some u->bU H T (.tup xs) b=some u:=fun b u e=>by rw [d0 (wZ e hTn)];exact e
 have hL:X.env.locals∉fp:=fun z=>(hf _ z).2.1 rfl
 refine I.step (g':=s.gens) (d':=s.drawn) (ch:=fp) (fun b hb=>?_) (fun b o _ _ hc e _=>k b o hc e) (fun b o _ _ hc e _=>⟨o.slots,k b o hc e⟩) (fun b o _ e n=>by rw [d0 (Nat.ne_of_lt (Nat.lt_of_lt_of_le (Heap.lt_size e) hT))];exact n)
  (fun b o hc e=>⟨o,k b o hc e⟩) (fun b _ e=>up b _ e) (fun b _ _ e=>up b _ e) (fun b ps e=>⟨#[],by rw [up b _ e];simp⟩) (fun m hm=>?_) (fun b u e=>?_) I.bare
 ·obtain ⟨f0,f1,f2,f3,f4,f5⟩:=hf b hb
  exact ⟨f3,f1,f4,f5⟩
 ·obtain ⟨o,es,ep,ho,r⟩:=hm
  exact ⟨o,es,ep,k _ o hL ho,r⟩
 ·by_cases hb:b=T
  ·subst hb
   rw [gf] at e
   cases e;exact new
  ·rw [d0 hb] at e
   refine (I.hok b u e).stay (fun c v hc q=>k c v ?_ q) (fun c q=>up c _ q) fun c _ q=>up c _ q
   rcases hc with z | z
   ·rw [z];exact nit b u e
   ·exact nit c _ z
noncomputable def KF (K:Fg) (a:Addr):It:=
 ⟨fun i H=>∃xs x,SqL K H a xs/\xs[i]?=some x,fun i H x H'=>∃T v,x=.ref T/\H T=none/\H'=bU H T (.tup [.int i,v])/\∀xs,SqL K H a xs->xs[i]?=some v,fun i H=>∃xs,SqL K H a xs/\xs.length<=i⟩
theorem qH {P:Program} {w:World} {K:Fg} {elts:List Expr} {k:Nat} {pos:Pos} (a e it:Addr) (hei:e≠it) (hae:a≠e) (hai:a≠it) :
  wy P w K (.Tuple elts k pos) (KF K a) [e,it] e (fun i h=>(∃old,IsEnum h e it i old)/\h.IsListIter it a i) where
 mem:=by simp
 obj:=fun i h st b hb=>by
  obtain ⟨⟨old,he⟩,o,e1,c,d⟩:=st;simp only [mem_cons,not_mem_nil,or_false] at hb
  rcases hb with rfl | rfl
  ·exact ⟨_,he,fun v z=>by
    have z':Data.fields _=Data.cell v:=z
    cases z'⟩
  ·exact ⟨o,e1,fun v z=>by rw [d] at z;cases z⟩
 keep:=fun i h h' st kk=>by
  obtain ⟨⟨old,he⟩,hit⟩:=st;exact ⟨⟨old,kk e (by simp) _ he⟩,hit.at fun o q=>kk it (by simp) o q⟩
 item:=by
  intro X hP hw hK hc i pins s σ H E I hf st hg;subst hP hw hK;obtain ⟨xs,x,hq,hx⟩:=hg;obtain ⟨its,rv,p,hz⟩:=I.list hq;obtain ⟨u,hu,ru⟩:=rv.get hx;have W:=WalksT.enumerate (prog:=X.prog) (w:=X.w) (A:=X.A) (I.ok.hd hc) e it a hei hae hai its.toArray
  have hil:i<its.toArray.size:=by
   have:=(List.getElem?_eq_some_iff.mp hu).1
   simpa using this
  refine W.item i s _ _ hil ⟨st.1,st.2,p.isList⟩ fun T vals h' tk hv hT hTT hMid kk=>?_
  obtain ⟨t,y,hy,rfl⟩:=hv;have ey:y=u:=by
   rw [List.getElem?_toArray,hu] at hy;exact (Option.some.inj hy).symm
  subst ey;refine ⟨.ref T,rfl,W.go elts k pos i T _ _ _ hMid fun h2 st2 kk2=>?_⟩
  have hTn:H T=none:=I.hok.fresh hT
  have hTw:T∉[e,it]:=W.apart i T _ hMid
  have kAll:∀b o,b∉[e,it]->s.heap.get? b=some o->h2.get? b=some o:=fun b o hb q=>kk2 b o hb (kk b o hb q)
  have I1:L2.Inv X pins σ H { s with heap:=h2,toks:=tk }:=Inv.turnedL I kAll hf
  have tT:h2.IsTuple T #[.int i t,y]:=by
   obtain ⟨o,q1,q2⟩:=hTT;exact ⟨o,kk2 T o hTw q1,q2⟩
  have hvs:Vals [.int (i:Int),x] [.int i t,y]:=.cons (show RelV (.int (i:Int)) (.int i t) from ⟨t,rfl⟩) (.cons ru .nil)
  have I3:L2.Inv X pins σ (bU H T (.tup [.int i,x])) { s with heap:=h2,toks:=tk }:=Inv.turnedT (t':=tk) I kAll hf hT ⟨by show 2<=sizeLine;decide,[.int i t,y],hvs,(show IsTup h2 T _ from tT)⟩
  refine ⟨.ref T,bU H T (.tup [.int i,x]),I3,rfl,⟨T,x,rfl,hTn,rfl,fun ys hy=>by rw [I.list_inj hy hq];exact hx⟩,⟨st2.1,st2.2.1⟩,fun b hb=>?_⟩
  have hbT:b≠T:=fun z=>by rw [z] at hb;exact hTw hb
  rw [d0 hbT];exact (hf b hb).1
 done:=by
  intro X hP hw hK hc i pins s σ H E I hf st hg;subst hP hw hK;obtain ⟨xs,hq,hx⟩:=hg;obtain ⟨its,rv,p,hz⟩:=I.list hq;have hl:=rv.length
  obtain ⟨⟨old,he⟩,hit⟩:=st;refine wpAny_pyNext_enum_end (I.ok.hd hc) he hit p.isList (Array.getElem?_eq_none (by simp;omega)) fun h' hk=>⟨rfl,Inv.turnedL (t':=s.toks) I (fun b o hb q=>hk b o (fun z=>hb (by simp [z])) q) hf⟩
 self:=fun _ _ _ _ _ st h=>by
  obtain ⟨⟨old,he⟩,hit⟩:=st;exact wpAny_pyIter_enum he h
noncomputable def zW (K:Fg) (ta:TA):TI:=fun σ H R=>ta σ H fun vs H1=>∃a,vs=[.ref a]/\(∃xs,SqL K H1 a xs)/\R (KF K a) H1
theorem xP {X:Cx} {elts:List Expr} {kt:Nat} {ptg:Pos} {l:Expr} {ta:TA} {p pos:Pos} (hg:Gl X "enumerate") (hm:X.mg "enumerate"=none) (ha:PA X [l] ta) (hs:starEach [l] X.env=[(false,eval l X.env)]) :
  PI X (.Tuple elts kt ptg) (.Call (.Name "enumerate" p) [l] [] pos) (zW X.K ta):=by
 intro pins s σ H R I h;refine Call_ (wR I hg hm boot_enumerate (PyProof.Rows.callWith_type1 (bF (ha pos pins s σ H _ I h) fun us s1 ⟨vs,H1,I1,r1,q1⟩=>?_) hs rfl))
 obtain ⟨a,e,⟨xs,hq⟩,q⟩:=q1;subst e;obtain ⟨u,rfl,ru⟩:=r1.one
 cases ru;obtain ⟨its,rv,pl,hz⟩:=I1.list hq;refine call_enumerate_list pl.isList fun h' he hit hsz hk=>?_
 have ha1:a<s1.heap.objs.size:=by
  obtain ⟨o,q1,_⟩:=pl.isList;exact Heap.lt_size q1
 refine wpAny_pyIter_enum (s:={ s1 with heap:=h' }) he ?_
 have I2:L2.Inv X pins σ H1 { s1 with heap:=h' }:=I1.kept (t':=s1.toks) hk
 refine ⟨s1.heap.objs.size+1,[s1.heap.objs.size+1,s1.heap.objs.size],_,KF X.K a,H1,rfl,I2,qH a _ _ (Nat.succ_ne_self _) (Nat.ne_of_lt (Nat.lt_succ_of_lt ha1)) (Nat.ne_of_lt ha1),⟨⟨_,he⟩,hit⟩,fun b hb=>?_,q⟩
 simp only [mem_cons,not_mem_nil,or_false] at hb
 have hb2:s1.heap.objs.size<=b:=by
  rcases hb with z | z
  ·rw [z];exact Nat.le_succ _
  ·rw [z];exact Nat.le_refl _
 have f:=I1.fpOk hb2 (I1.hok.fresh hb2)
 exact f
noncomputable def lp (N:List Str) (is:List Nat) (cs:List Nat) (sc:Scope):Bool:=
 decide (sc.kind=.function)&&(sc.names.all fun p=>!decide (p.2=.free)||cs.any fun j=>decide (N[j]?=some p.1)) &&
 ((List.range N.length).all fun j=>is.contains j||(sc.names.all fun p=>!decide (some p.1=N[j]?)||(!decide (p.2=.local)&&!decide (p.2=.cell)))) &&
 (sc.names.all fun p=>!decide (p.2=.local)||decide (sc.names.lookup p.1=some .local)) &&
 (sc.names.all fun p=>!decide (p.2=.free)||sc.names.all fun q=>!decide (q.1=p.1)||!decide (q.2=.cell))
theorem kx {X:Cx} {N gl:List Str} {vs cs ls lo gs is:List Nat} {scope:Scope} (S:Cp X N gl vs cs ls lo gs) (h:lp N is cs scope=true):cW X.N is X.env.scope scope:=by
 unfold lp at h;simp only [Bool.and_eq_true,decide_eq_true_eq,all_eq_true,Bool.or_eq_true,Bool.not_eq_true',decide_eq_false_iff_not,any_eq_true,mem_range] at h
 obtain ⟨⟨⟨⟨h0,h1⟩,h2⟩,h3⟩,h4⟩:=h;refine ⟨h0,fun n hn=>?_,fun j x e hj=>?_,fun x hx e=>?_,fun n hn hc=>?_⟩
 ·rcases h1 _ hn with z | ⟨j,hj,e⟩
  ·exact absurd rfl z
  ·exact S.cel j n e (by simpa using hj)
 ·rw [S.hN] at e
  rcases h2 j (List.getElem?_eq_some_iff.mp e).1 with z | z
  ·simpa using z
  ·exfalso
   rcases hj with y | y
   ·rcases z _ y with w | w
    ·exact w e.symm
    ·exact w.1 rfl
   ·rcases z _ y with w | w
    ·exact w e.symm
    ·exact w.2 rfl
 ·rcases h3 x hx with z | z
  ·exact absurd e z
  ·exact z
 ·rcases h4 _ hn with z | z
  ·exact z rfl
  ·rcases z _ hc with w | w
   ·exact w rfl
   ·exact w rfl
end T
namespace TQ
open PySem PySem.Spec L2 T
open PyProof.Rows hiding St
section
variable {X:Cx} {N gl:List Str} {vs cs ls lo gs:List Nat} {W:XW} {a b c e:Expr} {es:List Expr} {pos p:Pos} {fa fb fc:F1} {fl:FL} {ga gb:FB} {g1 g2 g:FS}
theorem w_ds_no {st:Stmt}:Q (PS X st (tS X.K W fm)):=⟨fun pins s σ H D I h=>by
 obtain ⟨He,O,Fs,Γ,E,h⟩:=h;exact h.elim⟩
theorem dA (ha:Q (PE X e (tE X.K W fa))) (hs:swapsWith e none pos.line X.env=pure false):Q (PS X (.Expr e pos) (tS X.K W (aR fa))):=⟨have ha:=ha.p;dq (Ea ha hs) fun _ _ _=>xC⟩
theorem lJ {X:Cx} {N gl:List Str} {vs cs ls lo gs:List Nat} {W:XW} {a:Expr} {pos p p2:Pos} {fa:F1} {c:String} {x:Str} (S:Cp X N gl vs cs ls lo gs) (j k:Nat) (hj:gl[j]?=some ("isinstance":Str)) (hg:gs.contains j=true) (hk:gl[k]?=some x) (hg2:gs.contains k=true) (hc:kinds.contains c=true) (hv:bootBuiltins x=some (.type c)) (hm:X.mg "isinstance"=none) (hm2:X.mg x=none) (ha:Q (PE X a (tE X.K W fa))) (hs:starEach [a,.Name x p2] X.env=(false,eval a X.env)::starEach [.Name x p2] X.env) (hs2:starEach [.Name x p2] X.env=(false,eval (.Name x p2) X.env)::starEach [] X.env) (hpl:(backTo pos (starEach [.Name x p2] X.env)).any (·.1)=false):Q (PE X (.Call (.Name "isinstance" p) [a,.Name x p2] [] pos) (tE X.K W (mX c fa))):=⟨have ha:=ha.p;bc (Dx (wg (by simpa using hc)) (S.g hj hg).1 hm Jo (nF ha (nF (pP (v:=.ty c) (S.g hk hg2).1 hm2 hv rfl (S.g hk hg2).2.2 (S.g hk hg2).2.1) wU hs2) hs) (S.g hj hg).2.2 (S.g hj hg).2.1 hs hpl) fun _ _ _=>Bh⟩
theorem iw (S:Cp X N gl vs cs ls lo gs) (j:Nat) (hj:gl[j]?=some ("sorted":Str)) (hg:gs.contains j=true) (hm:X.mg "sorted"=none) (ha:Q (PA X (e::es) (tA X.K W fl))) (he:starEach (e::es) X.env=(false,eval e X.env)::starEach es X.env) (hpl:(backTo pos (starEach es X.env)).any (·.1)=false):Q (PE X (.Call (.Name "sorted" p) (e::es) [] pos) (tE X.K W (eo fl))):=⟨have ha:=ha.p;bc (Dx jt (S.g hj hg).1 hm nC ha (S.g hj hg).2.2 (S.g hj hg).2.1 he hpl) fun _ _ _=>uk⟩
theorem eP {p2 pos2:Pos} (S:Cp X N gl vs cs ls lo gs) (j k:Nat) (hj:gl[j]?=some ("list":Str)) (hg:gs.contains j=true) (hm:X.mg "list"=none) (hk:gl[k]?=some ("range":Str)) (hg2:gs.contains k=true) (hm2:X.mg "range"=none) (ha:Q (PA X [a] (tA X.K W fl))) (hs:starEach [a] X.env=[(false,eval a X.env)]) (hs1:starEach [.Call (.Name "range" p2) [a] [] pos2] X.env=[(false,eval (.Call (.Name "range" p2) [a] [] pos2) X.env)]):Q (PE X (.Call (.Name "list" p) [.Call (.Name "range" p2) [a] [] pos2] [] pos) (tE X.K W (vL fl))):=⟨have ha:=ha.p;bc (kN (S.g hj hg).1 hm (S.g hk hg2).1 hm2 S.calm ha hs hs1) fun _ _ _=>EW⟩
theorem nL (n:Nat) {body:List Stmt} (hp:PassesOwn (model X.prog X.w) X.A X.env X.xe) (hc:Q (PT X c (tT X.K W ga))) (hb:Q (PSs X body (tS X.K W g))):Q (PS X (.While c body [] pos) (tS X.K W (gW n ga g))):=⟨have hc:=hc.p;have hb:=hb.p;dq (uH hp hc hb) fun _ _ _=>ui⟩
end
end TQ
namespace L2
open PySem PySem.Spec PyProof.Rows
section
variable {κ:Type} [DecidableEq κ]
noncomputable def eI (kvs:List (κ×V)) (k:κ):Option V:=(kvs.find? fun kv=>decide (kv.1=k)).map (·.2)
noncomputable def fV (kvs:List (κ×V)) (k:κ) (v:V):List (κ×V):=
 if (kvs.any fun kv=>decide (kv.1=k))=true then kvs.map (fun kv=>if kv.1=k then (kv.1,v) else kv) else kvs++[(k,v)]
theorem Ec {p:κ×V} {r:List (κ×V)} {k:κ} (e:p.1=k):eI (p::r) k=some p.2:=by simp [eI,find?_cons,e]
theorem Eh {p:κ×V} {r:List (κ×V)} {k:κ} (e:¬p.1=k):eI (p::r) k=eI r k:=by simp [eI,find?_cons,e]
theorem HD (k:κ):∀kvs:List (κ×V),(kvs.any fun kv=>decide (kv.1=k))=(eI kvs k).isSome
 | []=>rfl
 | p::r=>by
  rw [List.any_cons];by_cases e:p.1=k
  ·simp only [Ec e,decide_eq_true e,Bool.true_or,Option.isSome_some]
  ·rw [Eh e,decide_eq_false e,Bool.false_or];exact HD k r
theorem Jm (kvs:List (κ×V)) (k:κ) (v:V):(fV kvs k v).length<=kvs.length+1:=by
 unfold fV;split
 ·rw [length_map];omega
 ·rw [length_append,length_cons,length_nil];omega
theorem uE {kvs:List (κ×V)} {k:κ} (v:V) (h:eI kvs k=none):fV kvs k v=kvs++[(k,v)]:=by
 unfold fV;rw [HD,h];exact if_neg (by decide)
theorem RelO.isSome_eq {o:Option V} {u:Option Value} (r:RelO o u):o.isSome=u.isSome:=by
 cases o with
 | none=>cases u with
  | none=>rfl
  | some _=>exact (show False from r).elim
 | some _=>cases u with
  | none=>exact (show False from r).elim
  | some _=>rfl
theorem KV.val {kvs:List (κ×V)} {vs:List (κ×Value)} (r:KV kvs vs) (k:κ):RelO (eI kvs k) (valueAt vs k):=by
 unfold KV at r;induction r with
 | nil=>exact True.intro
 | @cons p q ps qs h t ih=>
  obtain ⟨h1,h2⟩:=h;by_cases e:p.1=k
  ·have e':q.1=k:=h1.symm.trans e
   have b:valueAt (q::qs) k=some q.2:=by simp [valueAt,find?_cons,e']
   rw [Ec e,b];exact h2
  ·have e':¬q.1=k:=fun z=>e (h1.trans z)
   have b:valueAt (q::qs) k=valueAt qs k:=by simp [valueAt,find?_cons,e']
   rw [Eh e,b];exact ih
theorem KV.any {kvs:List (κ×V)} {vs:List (κ×Value)} (r:KV kvs vs) (k:κ):(kvs.any fun kv=>decide (kv.1=k))=vs.any fun kv=>decide (kv.1=k):=by
 unfold KV at r;induction r with
 | nil=>rfl
 | cons h t ih=>rw [List.any_cons,List.any_cons,ih,h.1]
theorem KV.repl {kvs:List (κ×V)} {vs:List (κ×Value)} (r:KV kvs vs) (k:κ) {y:V} {u:Value} (ry:RelV y u) :
  KV (kvs.map fun kv=>if kv.1=k then (kv.1,y) else kv) (vs.map fun kv=>if kv.1=k then (kv.1,u) else kv):=by
 unfold KV at r ⊢
 induction r with
 | nil=>exact .nil
 | @cons p q ps qs h t ih=>
  rw [map_cons,map_cons];refine .cons ?_ ih
  obtain ⟨h1,h2⟩:=h;by_cases e:p.1=k
  ·rw [if_pos e,if_pos (h1.symm.trans e)];exact ⟨h1,ry⟩
  ·rw [if_neg e,if_neg (fun z=>e (h1.trans z))];exact ⟨h1,h2⟩
theorem KV.put {kvs:List (κ×V)} {vs:List (κ×Value)} (r:KV kvs vs) (k:κ) {y:V} {u:Value} (ry:RelV y u):KV (fV kvs k y) (stored vs k u):=by
 unfold fV stored;rw [r.any k];by_cases e:(vs.any fun kv=>decide (kv.1=k))=true
 ·rw [if_pos e,if_pos e];exact r.repl k ry
 ·rw [if_neg e,if_neg e];exact Paired.snoc r ⟨rfl,ry⟩
theorem KV.length {kvs:List (κ×V)} {vs:List (κ×Value)} (r:KV kvs vs):kvs.length=vs.length:=Paired.length r
end
theorem mO {P:Program} {w:World} {k:cV} {u:Value} (r:RelV (kV k) u):(bp P w).is k u=true:=by
 cases k with
 | inl i=>obtain ⟨t,e⟩:=(show ∃t,u=Value.int i t from r);subst e;exact mI P w i t
 | inr x=>obtain ⟨t,e⟩:=(show ∃t,u=Value.str x t from r);subst e;exact mH P w x t
theorem IW {P:Program} {w:World}:∀{ks:List cV} {us:List Value},Vals (ks.map kV) us->ItemsAre (bp P w) ks us
 | [],_,r=>by rw [map_nil] at r;cases r;exact .nil
 | k::ks,_,r=>by
  rw [map_cons] at r
  cases r with
  | cons h t=>exact .cons (mO h) (IW t)
noncomputable abbrev KT (H:Hp):List (List cV×V)->List (List cV×Addr×Value)->Prop:=Paired fun p q=>p.1=q.1/\H q.2.1=some (.tup (p.1.map kV))/\RelV p.2 q.2.2
theorem KT.val {H:Hp} {kvs:List (List cV×V)} {xs:List (List cV×Addr×Value)} (r:KT H kvs xs) (k:List cV):RelO (eI kvs k) ((atKey xs k).map (·.2)):=by
 induction r with
 | nil=>exact True.intro
 | @cons p q ps qs h t ih=>
  obtain ⟨h1,_,h2⟩:=h;by_cases e:p.1=k
  ·have e':q.1=k:=h1.symm.trans e
   have b:atKey (q::qs) k=some q.2:=by simp [atKey,find?_cons,e']
   rw [Ec e,b];exact h2
  ·have e':¬q.1=k:=fun z=>e (h1.trans z)
   have b:atKey (q::qs) k=atKey qs k:=by simp [atKey,find?_cons,e']
   rw [Eh e,b];exact ih
theorem KT.repl {H:Hp} {kvs:List (List cV×V)} {xs:List (List cV×Addr×Value)} (r:KT H kvs xs) (k:List cV) {y:V} {u:Value} (ry:RelV y u) :
  KT H (kvs.map fun kv=>if kv.1=k then (kv.1,y) else kv) (xs.map (putAt k u)):=by
 induction r with
 | nil=>exact .nil
 | @cons p q ps qs h t ih=>
  rw [map_cons,map_cons];refine .cons ?_ ih
  obtain ⟨h1,h2,h3⟩:=h;unfold putAt;by_cases e:p.1=k
  ·rw [if_pos e,if_pos (h1.symm.trans e)];exact ⟨h1,h2,ry⟩
  ·rw [if_neg e,if_neg (fun z=>e (h1.trans z))];exact ⟨h1,h2,h3⟩
theorem KT.put {H:Hp} {kvs:List (List cV×V)} {xs:List (List cV×Addr×Value)} (r:KT H kvs xs) (k:List cV) {b:Addr} {y:V} {u:Value} (hb:H b=some (.tup (k.map kV))) (ry:RelV y u) :
  KT H (fV kvs k y) (storedH xs k b u):=by
 have e:(kvs.any fun kv=>decide (kv.1=k))=(atKey xs k).isSome:=by
  rw [HD,(r.val k).isSome_eq,Option.isSome_map]
 unfold fV storedH;rw [e];by_cases q:(atKey xs k).isSome=true
 ·rw [if_pos q,if_pos q];exact r.repl k ry
 ·rw [if_neg q,if_neg q];exact Paired.snoc r ⟨rfl,hb,ry⟩
theorem KT.keeps {H H':Hp} {kvs:List (List cV×V)} {xs:List (List cV×Addr×Value)} (r:KT H kvs xs) (ht:∀b ys,H b=some (.tup ys)->H' b=some (.tup ys)):KT H' kvs xs:=
 Paired.mapP r fun _ _ z=>⟨z.1,ht _ _ z.2.1,z.2.2⟩
section
variable {P:Program} {w:World} {H:Hp} {h:Heap} {a:Addr}
theorem zG {u:HO} (ok:HOk P w H h) (e:Rd H a u):ObjOk P w H h a u:=e.ok ok
theorem qq {kvs:List (cV×V)} (ok:HOk P w H h) (e:Rd H a (.dK kvs)):kvs.length<=sizeLine/\(a==sysModules)=false/\∃vs,KV kvs vs/\h.DictOf (bp P w) a vs:=
 show ObjOk P w H h a (.dK kvs) from zG ok e
theorem Gk {kvs:List (cV×V)} (ok:HOk P w H h) (e:H a=some (.dK kvs)):kvs.length<=sizeLine/\(a==sysModules)=false/\∃vs,KV kvs vs/\h.DictOf (bp P w) a vs:=qq ok (.inl e)
theorem Hd {ks:List cV} (ok:HOk P w H h) (e:H a=some (.tup (ks.map kV))):(tupleKind (bp P w)).is h ks a:=by
 obtain ⟨_,its,r,o,h1,h2,n,h3⟩:=(show ObjOk P w H h a (.tup (ks.map kV)) from ok a _ e);exact ⟨o,its.toArray,n,h1,h2,h3,by simpa using IW r⟩
theorem qp {kvs:List (List cV×V)} (ok:HOk P w H h) (e:Rd H a (.dT kvs)):kvs.length<=sizeLine/\(a==sysModules)=false /\
  ∃xs,KT H kvs xs/\h.DictOfH (tupleKind (bp P w)) a xs:=by
 obtain ⟨z,y,xs,r,o,es,ep,h1,h2,h3,h4,h5⟩:=(show ObjOk P w H h a (.dT kvs) from zG ok e);refine ⟨z,y,xs,r,o,es,ep,h1,h2,h3,h4,fun x hx=>?_,h5⟩
 have all:∀{l:List (List cV×V)} {m:List (List cV×Addr×Value)},KT H l m->∀x∈m,(tupleKind (bp P w)).is h x.1 x.2.1:=by
  intro l m q;induction q with
  | nil=>intro x hx;exact nomatch hx
  | @cons p q ps qs hq t ih=>
   intro x hx;rcases List.mem_cons.mp hx with e | hx
   ·subst e
    exact Hd ok (by rw [<-hq.1];exact hq.2.1)
   ·exact ih x hx
 exact all r x hx
theorem Gg {kvs:List (List cV×V)} (ok:HOk P w H h) (e:H a=some (.dT kvs)):kvs.length<=sizeLine/\(a==sysModules)=false /\
  ∃xs,KT H kvs xs/\h.DictOfH (tupleKind (bp P w)) a xs:=qp ok (.inl e)
end
noncomputable def DGet (H:Hp) (a:Addr) (y:V) (r:Option V):Prop:=
 (∃kvs k,Rd H a (.dK kvs)/\y=kV k/\r=eI kvs k)\/∃kvs k b,Rd H a (.dT kvs)/\y=.ref b/\H b=some (.tup (k.map kV))/\r=eI kvs k
noncomputable def DPut (H:Hp) (a:Addr) (y v:V) (H':Hp):Prop:=
 (∃kvs k,H a=some (.dK kvs)/\y=kV k/\kvs.length<sizeLine/\H'=bU H a (.dK (fV kvs k v))) \/
 ∃kvs k b,H a=some (.dT kvs)/\y=.ref b/\H b=some (.tup (k.map kV))/\kvs.length<sizeLine/\H'=bU H a (.dT (fV kvs k v))
theorem DGet.k {H:Hp} {a:Addr} {kvs:List (cV×V)} {k:cV} (e:H a=some (.dK kvs)):DGet H a (kV k) (eI kvs k):=.inl ⟨kvs,k,.inl e,rfl,rfl⟩
theorem DPut.k {H:Hp} {a:Addr} {kvs:List (cV×V)} {k:cV} {v:V} (e:H a=some (.dK kvs)) (hl:kvs.length<sizeLine):DPut H a (kV k) v (bU H a (.dK (fV kvs k v))):=.inl ⟨kvs,k,e,rfl,hl,rfl⟩
section
variable {X:Cx} {pins:List (Addr×Obj)} {σ:St} {H:Hp} {s:Shared} {a:Addr} {y v:V} {u r:Value} {o:Option V} {A:Around} {E:Value->Shared->Prop}
theorem Inv.big (I:Inv X pins σ H s):sysModules<s.heap.objs.size:=by
 have h:mainGlobals<s.heap.objs.size:=(I.mod.glob.keeps I.bk).lt
 exact Nat.lt_trans (by decide) h
theorem rZ {Q:Value->Shared->Prop} (hu:A.units+1<cLine) (I:Inv X pins σ H s) (g:DGet H a y (some v)) (ry:RelV y u) (h:∀w' s',Inv X pins σ H s'->RelV v w'->Q w' s') :
  wpAny (model X.prog X.w) A (getItem (.ref a) u) Q E s:=by
 rcases g with ⟨kvs,k,e,ey,l⟩ | ⟨kvs,k,b,e,ey,eb,l⟩
 ·subst ey
  obtain ⟨z,hd,vs,rel,dd⟩:=qq I.hok e;obtain ⟨w',hw,rw'⟩:=RelO.some_of (v:=v) (o:=valueAt vs k) (by rw [l];exact rel.val k)
  exact wpAny_getItem_of (mO ry) dd.mapOf hw (h w' _ (I.tok _) rw')
 ·subst ey
  cases (show u=Value.ref b from ry)
  obtain ⟨z,hd,xs,rel,dd⟩:=qp I.hok e;obtain ⟨w',hw,rw'⟩:=RelO.some_of (v:=v) (o:=(atKey xs k).map (·.2)) (by rw [l];exact rel.val k)
  obtain ⟨p,hp,hp2⟩:=Option.map_eq_some_iff.mp hw;refine wpAny_getItem_heap (tupleKind_room_in1 hu) (Hd I.hok eb) dd hp ?_
  rw [hp2];exact h w' _ (I.tok _) rw'
theorem Kv {Q:Value->Shared->Prop} (hu:A.units+1<cLine) (I:Inv X pins σ H s) (g:DGet H a y o) (ry:RelV y u) (h:∀s',Inv X pins σ H s'->Q (.bool o.isSome) s') :
  wpAny (model X.prog X.w) A (compareOp .In u (.ref a)) Q E s:=by
 rcases g with ⟨kvs,k,e,ey,l⟩ | ⟨kvs,k,b,e,ey,eb,l⟩
 ·subst ey
  obtain ⟨z,hd,vs,rel,dd⟩:=qq I.hok e;refine wpAny_in_of (mO ry) hd dd.mapOf ?_
  rw [<-(rel.val k).isSome_eq,<-l];exact h _ (I.tok _)
 ·subst ey
  cases (show u=Value.ref b from ry)
  obtain ⟨z,hd,xs,rel,dd⟩:=qp I.hok e;refine wpAny_in_heap (tupleKind_room_in1 hu) (Hd I.hok eb) hd dd ?_
  have q:=(rel.val k).isSome_eq
  rw [Option.isSome_map] at q;rw [<-q,<-l];exact h _ (I.tok _)
theorem IP {h':Heap} {t':Nat} {ob:HO} (I:Inv X pins σ H s) (mu:GW (H a)) (hs:Heap.SameBut a s.heap h') (he:∃q,h'.get? a=some q) (new:ObjOk X.prog X.w (bU H a ob) h' a ob) :
  Inv X pins σ (bU H a ob) { s with heap:=h',toks:=t' }:=
 I.write (x:=a) (e:=a) mu (.inl rfl) (fun b q hb z=>(hs.2 b hb).trans z) he new
theorem C3 {P:Program} {w:World} {H':Hp} {h':Heap} {kvs:List (cV×V)} {vs:List (cV×Value)} (z:kvs.length<=sizeLine) (hd:(a==sysModules)=false) (rel:KV kvs vs) (dd:h'.DictOf (bp P w) a vs) :
  ObjOk P w H' h' a (.dK kvs):=⟨z,hd,vs,rel,dd⟩
theorem rY {H':Hp} {Q:Unit->Shared->Prop} (hu:A.units+1<cLine) (I:Inv X pins σ H s) (g:DPut H a y v H') (ry:RelV y u) (rv:RelV v r) (h:∀s',Inv X pins σ H' s'->Q () s') :
  wpAny (model X.prog X.w) A (setItem (.ref a) u r) Q E s:=by
 rcases g with ⟨kvs,k,e,ey,l,eH⟩ | ⟨kvs,k,b,e,ey,eb,l,eH⟩
 ·subst ey eH
  obtain ⟨z,hd,vs,rel,dd⟩:=Gk I.hok e;have hz:vs.length<=sizeLine:=by rw [<-rel.length];exact z
  have hl:(fV kvs k v).length<=sizeLine:=by have:=Jm kvs k v;omega
  refine wpAny_setItem_pairs (hsz:=hz) (mO ry) dd fun h' dd' hs=>h _ ?_
  have he:∃q,h'.get? a=some q:=let ⟨q,_,_,hq,_⟩:=dd';⟨q,hq⟩
  exact IP I (by rw [e];exact True.intro) hs he (C3 hl hd (rel.put k rv) dd')
 ·subst ey eH
  cases (show u=Value.ref b from ry)
  obtain ⟨z,hd,xs,rel,dd⟩:=Gg I.hok e;have hz:xs.length<=sizeLine:=by rw [<-Paired.length rel];exact z
  have hl:(fV kvs k v).length<=sizeLine:=by have:=Jm kvs k v;omega
  refine wpAny_setItem_heap (hsz:=hz) (tupleKind_room_in1 hu) (Hd I.hok eb) dd fun h' dd' hs=>h _ ?_
  obtain ⟨q,es,ep,hq,h2,h3,h4,_,h5⟩:=dd'
  refine IP I (by rw [e];exact True.intro) hs ⟨q,hq⟩ ⟨hl,hd,_,(rel.put k eb rv).keeps fun c ys ec=>?_,q,es,ep,hq,h2,h3,h4,h5⟩
  rw [d0 (FF ec e nofun)];exact ec
end
noncomputable def GV (i:Expr):Prop:=∀ov iv,subscripted i false ov iv=operate [ov,iv] (getItem ov iv)
theorem xk {prog:Program} {w:World} {A:Around} {E:Value->Shared->Prop} {s:Shared} {env:Env} {value slice:Expr} {pos:Pos} {T id:String} {Q:Value->Shared->Prop}
  (hl:typeLookup (.type T) "__getitem__"=pure (some (.builtin id))) (hs:GV slice)
  (h:wpAny (model prog w) A (eval value env) (fun o s₁=>wpAny (model prog w) A (eval slice env) (fun i s₂=>s₂.TypeIs o T/\wpAny (model prog w) A (getItem o i) Q E s₂) E s₁) E s) :
  wpAny (model prog w) A (eval (.Subscript value slice pos) env) Q E s:=by
 refine Subscript_ (wpAny_mono h (fun o s₁ h₁=>wpAny_mono h₁ (fun i s₂ h₂=>?_) fun _ _ x=>x) fun _ _ x=>x)
 obtain ⟨hT,h₂⟩:=h₂;unfold subscriptTail;refine wpAny_bind ?_
 rw [getitemInPython_of_ne hT.not_modules];refine wpAny_bind (wpAny_specialOf hT hl ?_)
 have fin:wpAny (model prog w) A (subscripted slice false o i) (fun r s₃=>wpAny (model prog w) A (letTemporaryGo value o r >>= fun _=>pure r) Q E s₃) E s₂:=by
  rw [hs o i];exact wpAny_operating (wpAny_mono h₂ (fun r s₃ h₃=>wpAny_bind (wpAny_letTemporaryGo (wpAny_pure h₃))) fun _ _ x=>x)
 first
  | exact wpAny_pure (wpAny_bind fin)
  | exact wpAny_bind (wpAny_pure (wpAny_bind fin))
  | exact wpAny_bind fin
theorem m7 {X:Cx} {pins:List (Addr×Obj)} {σ:St} {H:Hp} {s:Shared} {a:Addr} {y:V} {o:Option V} (I:Inv X pins σ H s) (g:DGet H a y o):s.TypeIs (.ref a) "dict":=by
 rcases g with ⟨kvs,k,e,_,_⟩ | ⟨kvs,k,b,e,_,_,_⟩
 ·obtain ⟨_,_,vs,_,dd⟩:=qq I.hok e
  exact dd.typeIs
 ·obtain ⟨_,_,xs,_,dd⟩:=qp I.hok e
  exact dd.typeIs
noncomputable def tQ (td ty:TE):TE:=fun σ H Q=>td σ H fun x H1=>ty σ H1 fun y H2=>∃a v,x=.ref a/\DGet H2 a y (some v)/\Q v H2
noncomputable def AR (ty td:TE):TE:=fun σ H Q=>ty σ H fun y H1=>td σ H1 fun x H2=>∃a o,x=.ref a/\DGet H2 a y o/\Q (.bl o.isSome) H2
noncomputable def zD (td ty tv:TE):TS:=fun D σ H=>tv σ H fun v H1=>td σ H1 fun x H2=>ty σ H2 fun y H3=>∃a H4,x=.ref a/\DPut H3 a y v H4/\D.nx σ H4
section
variable {X:Cx} {o i e value:Expr} {pos pos' tpos:Pos} {td ty tv:TE}
theorem xR (hu:X.A.units+1<cLine) (ho:PE X o td) (hi:PE X i ty) (hs:GV i):PE X (.Subscript o i pos) (tQ td ty):=by
 intro pins s σ H Q I h;refine xk PySem.F.slot_dict_getitem.lookup hs (bF (ho pins s σ H _ I h) fun u s1 ⟨x,H1,I1,rx,q1⟩=>bF (hi pins s1 σ H1 _ I1 q1) fun iv s2 ⟨y,H2,I2,ry,a,v,ex,g,q2⟩=>?_)
 subst ex;obtain rfl:u=Value.ref a:=rx
 exact ⟨m7 I2 g,rZ hu I2 g ry fun w' s3 I3 rw'=>⟨v,H2,I3,rw',q2⟩⟩
theorem BQ (hu:X.A.units+1<cLine) (hi:PE X i ty) (ho:PE X o td):PC X .In i o (AR ty td):=by
 intro pins s σ H Q I h;refine bF (hi pins s σ H _ I h) fun iv s1 ⟨y,H1,I1,ry,q1⟩=>bF (ho pins s1 σ H1 _ I1 q1) fun u s2 ⟨x,H2,I2,rx,a,ov,ex,g,q2⟩=>?_
 subst ex;obtain rfl:u=Value.ref a:=rx
 exact Kv hu I2 g ry fun s3 I3=>⟨.bl ov.isSome,H2,I3,rfl,q2⟩
theorem xI (hu:X.A.units+1<cLine) (ho:PE X o td) (hi:PE X i ty) (hv:PE X value tv) (hs:swapsWith value (some (.Subscript o i pos')) pos.line X.env=pure false) :
  PS X (.Assign [.Subscript o i pos'] value pos) (zD td ty tv):=by
 intro pins s σ H D I h;refine wpAny_Assign_Subscript (bF (hv pins s σ H _ I h) fun r s1 ⟨v,H1,I1,rv,q1⟩=>bF (ho pins s1 σ H1 _ I1 q1) fun u s2 ⟨x,H2,I2,rx,q2⟩=>bF (hi pins s2 σ H2 _ I2 q2) fun iv s3 ⟨y,H3,I3,ry,a,H4,ex,g,q3⟩=>?_) hs
 subst ex;obtain rfl:u=Value.ref a:=rx
 exact rY hu I3 g ry rv fun s4 I4=>⟨σ,H4,I4,q3⟩
end
theorem vT {P:Program} {w:World} {H:Hp} (h:Heap) (hb:sysModules<h.objs.size):ObjOk P w H (h.push { cls:=.type "dict",data:=.dict #[] }) h.objs.size (.dK []):=
 ⟨Nat.zero_le _,beq_eq_false_iff_ne.mpr (Ne.symm (Nat.ne_of_lt hb)),[],.nil,Heap.DictOf.new h⟩
noncomputable def tP:TE:=fun _ H Q=>∀p,H p=none->Q (.ref p) (bU H p (.dK []))
section
variable {X:Cx} {pos:Pos}
theorem uR:PE X (.Dict [] [] pos) tP:=fun pins s σ H Q I h=>
 wpAny_Dict_empty ⟨.ref s.heap.objs.size,_,I.laid (a:=s.heap.objs.size) (o:=.dK []) (t':=s.toks) (fun _ _ q=>Heap.get?_push_of_some _ q) (Nat.le_refl _) (vT s.heap I.big),rfl,h _ (I.hok.fresh (Nat.le_refl _))⟩
end
end L2
namespace T
open PySem PySem.Spec L2
open PyProof.Rows hiding St
noncomputable def eh:PySem.PyData->Bool
 | .none=>true
 | _=>false
noncomputable def jN (neg:Bool):PySem.PyData->PySem.PyData->Option PySem.PyData
 | a,.none=>some (.bool (if neg then !eh a else eh a))
 | _,_=>none
theorem mF {K:Fg} {H:Hp} {x:V} {a:PySem.PyData} (r:Rep K H x a):decide (x=V.non)=eh a:=by
 cases r<;>simp [eh]
theorem yr {K:Fg}:GOp K (fun x y H Q=>y=.non/\Q (.bl (decide (x=.non))) H) (jN false):=by
 intro x y H Q a b d ra rb e k
 cases rb<;>simp only [jN] at e<;>try cases e
 exact ⟨rfl,by rw [mF ra];exact k _ (.bl _)⟩
theorem vw {K:Fg}:GOp K (fun x y H Q=>y=.non/\Q (.bl (!decide (x=.non))) H) (jN true):=by
 intro x y H Q a b d ra rb e k
 cases rb<;>simp only [jN] at e<;>try cases e
 exact ⟨rfl,by rw [mF ra];exact k _ (.bl _)⟩
theorem Kb {X:Cx} (R:Rm X):Ck X .Is (fun x y H Q=>y=.non/\Q (.bl (decide (x=.non))) H) (jN false):=⟨B3,yr⟩
theorem xG {X:Cx} (R:Rm X):Ck X .IsNot (fun x y H Q=>y=.non/\Q (.bl (!decide (x=.non))) H) (jN true):=⟨xW,vw⟩
noncomputable def Ly:PySem.PyData->PySem.PyData->Option PySem.PyData
 | .str i,.str j=>if i.length+j.length<=sizeLine then some (.str (i++j)) else none
 | _,_=>none
noncomputable def gL (fa fb:F1):F1:=aY fa fun p=>aY fb fun q=>fun Γ=>match p.d,q.d with
 | .list xs,.list ys=>if aH p xs&&aH q ys&&decide (xs.length+ys.length<=sizeLine) then .ok ⟨.lst .leaf,.list (xs++ys)⟩ Γ else .no
 | _,_=>.no
noncomputable def mY (fa fb:F1):F1:=aY fa fun p=>aY fb fun q=>fun Γ=>match p.d,q.d with
 | .tuple xs,.tuple ys=>if !p.s.isView&&aH q ys&&!xs.isEmpty&&decide (xs.length+ys.length<=sizeLine) then .ok ⟨.leaf,.tuple (xs++ys)⟩ Γ else .no
 | _,_=>.no
noncomputable def rN (fa fb:F1):F1:=aY fa fun p=>aY fb fun q=>fun Γ=>match p.d,q.d with
 | .tuple xs,.int k=>if !p.s.isView&&decide (1<=k)&&decide (k<=xs.length) then .ok ⟨.leaf,.tuple (xs.drop k.toNat)⟩ Γ else .no
 | _,_=>.no
noncomputable def uC (K:Fg):R2:=fun x y H Q=>∃l b xs zs,x=.ref l/\y=.ref b/\SqL K H l xs/\SqL K H b zs/\xs.length+zs.length<=sizeLine/\∀p,H p=none->Q (.ref p) (bU H p (.lst (xs++zs)))
theorem yR {prog:Program} {w:World} {A:Around} {E:Value->Shared->Prop} {s:Shared} {l b:Addr} {vs ws:List Value} {Q:Value->Shared->Prop} (hl:s.heap.IsList l vs.toArray) (hb:s.heap.IsList b ws.toArray) (hz:vs.length+ws.length<=sizeLine)
  (h:Q (.ref s.heap.objs.size) { s with heap:=s.heap.push { cls:=.type "list",data:=.seq (vs++ws).toArray } }):wpAny (model prog w) A (binaryOp .Add (.ref l) (.ref b)) Q E s:=by
 obtain ⟨⟨cls,dd,data,sl⟩,ho,hc,n,hd⟩:=id hl;obtain ⟨⟨cls2,dd2,data2,sl2⟩,ho2,hc2,n2,hd2⟩:=id hb;simp only at hc hd hc2 hd2
 subst hc hd hc2 hd2;have e:vs.toArray++ws.toArray=(vs++ws).toArray:=by simp
 rw [<-e] at h;exact concat_meets ⟨_,ho,rfl⟩ ⟨_,ho2,rfl⟩ noFill_list_add seq_list_add PySem.F.slot_list_add PySem.F.entry_list_add (PySem.F.args_list_add_2 _ _) (list_addW l b vs.toArray ws.toArray n n2 dd dd2 sl sl2 (by simpa using hz)) ⟨ho,ho2,h⟩
theorem pR {X:Cx}:OpR X (binaryOp .Add) (uC X.K):=by
 intro pins s σ H x y v u Q I rx ry h;obtain ⟨l,b,xs,zs,rfl,rfl,hH,hB,hz,q⟩:=h
 cases rx
 cases ry;obtain ⟨its,r,pl,z⟩:=I.list hH;obtain ⟨its2,r2,pl2,z2⟩:=I.list hB;refine yR pl.isList pl2.isList (by rw [<-r.length,<-r2.length];exact hz) ?_
 exact ⟨.ref _,_,I.lnew (t':=s.toks) (r.append r2) (by rw [length_append];exact hz),rfl,q _ I.fresh⟩
section
variable {K:Fg} {W:XW} {σ:St} {H:Hp} {Q:VK} {D:eu} {fa fb:F1} {fl:FL}
theorem Reps.app {vs ws:List V} {ds es:List PySem.PyData} (h:Reps K H vs ds) (h':Reps K H ws es):Reps K H (vs++ws) (ds++es):=by
 refine ⟨by rw [length_append,length_append,h.1,h'.1],fun i v d e1 e2=>?_⟩
 by_cases hi:i<vs.length
 ·rw [getElem?_append_left hi] at e1
  rw [getElem?_append_left (by rw [<-h.1];exact hi)] at e2
  exact h.2 i v d e1 e2
 ·rw [getElem?_append_right (by omega)] at e1
  rw [getElem?_append_right (by rw [<-h.1];omega),<-h.1] at e2
  exact h'.2 _ v d e1 e2
theorem Reps.drop {vs:List V} {ds:List PySem.PyData} (k:Nat) (h:Reps K H vs ds):Reps K H (vs.drop k) (ds.drop k):=by
 refine ⟨by rw [length_drop,length_drop,h.1],fun i v d e1 e2=>?_⟩
 rw [List.getElem?_drop] at e1 e2
 exact h.2 _ v d e1 e2
theorem C4 {G2 G1 O F:List Addr} (nd:(G2++(G1++O)++F).Nodup):(∀a∈G1,a∉O++F)/\(∀a∈G2,a∉O++F):=by
 rw [append_assoc,append_assoc] at nd;obtain ⟨_,n2,n3⟩:=List.nodup_append.mp nd;obtain ⟨_,_,n4⟩:=List.nodup_append.mp n2;exact ⟨fun a ha z=>n4 a ha a z rfl,fun a ha z=>n3 a ha a (mem_append_right _ z) rfl⟩
theorem tW {G2 G1 O F:List Addr}:∀a∈O++F,a∈G2++(G1++O)++F:=fun a ha=>by
 rcases List.mem_append.mp ha with z | z
 ·exact mem_append_left _ (mem_append_right _ (mem_append_right _ z))
 ·exact mem_append_right _ z
theorem IR {He H1:Hp} {O:List Addr} {Fs Fs1:List (List Addr)} {Γ1:Ev} {vs:List V} {ds:List PySem.PyData} {p:Addr} (E:EnvOk K He O Fs1 H1 σ Γ1) (s:Same H H1) (n:∀a∈Fs1.flatten,a∈Fs.flatten\/H a=none)
  (hr:Reps K (cN H1 (O++Fs1.flatten)) vs ds) (hp:H1 p=none):Aft K He O Fs H σ Γ1 ⟨.leaf,.tuple ds⟩ (.ref p) (bU H1 p (.tup vs)) [] Fs1:=by
 refine ⟨s.trans (ip hp),by rw [nil_append];exact E.grow (ip hp),by rw [nil_append];exact n,.leaf ?_⟩
 rw [nil_append];have hn:p∉O++Fs1.flatten:=fun z=>E.inH p z hp
 exact .tup (.of (wF gf hn)) hr.1 fun i v d h1 h2=>(hr.2 i v d h1 h2).mono (sF (ip hp) fun a ha=>.inl ha)
theorem pU {He H1:Hp} {O:List Addr} {Fs Fs1:List (List Addr)} {Γ1:Ev} {v:V} {d:PySem.PyData} (E:EnvOk K He O Fs1 H1 σ Γ1) (s:Same H H1) (n:∀a∈Fs1.flatten,a∈Fs.flatten\/H a=none)
  (hr:Rep K (cN H1 (O++Fs1.flatten)) v d):Aft K He O Fs H σ Γ1 ⟨.leaf,d⟩ v H1 [] Fs1:=
 ⟨s,by rw [nil_append];exact E,by rw [nil_append];exact n,.leaf (by rw [nil_append];exact hr)⟩
theorem uu (h:tE K W (gL fa fb) σ H Q):xg (uC K) (tE K W fa) (tE K W fb) σ H Q:=by
 refine Au (R:=fun v u H2=>uC K v u H2 Q) h fun He O Fs Γ2 p q v u H1 H2 G1 G2 Fs2 nd s1 s2 E new o1 o2 w=>?_
 obtain ⟨s,d⟩:=p;obtain ⟨s',d'⟩:=q;dsimp only at w o1 o2
 split at w
 ·rename_i xs ys
  cases hc:(aH ⟨s,.list xs⟩ xs&&aH ⟨s',.list ys⟩ ys&&decide (xs.length+ys.length<=sizeLine)) with
  | false=>rw [hc] at w;exact w.elim
  | true=>
   rw [hc] at w;simp only [Bool.and_eq_true,decide_eq_true_eq] at hc
   obtain ⟨⟨h1,h2⟩,h3⟩:=hc;obtain ⟨d1,d2⟩:=C4 E.nd;obtain ⟨p1,vs,rfl,q1,_,r1⟩:=o1.items (O':=O++Fs2.flatten) h1 tW d1
   obtain ⟨p2,ws,rfl,q2,_,r2⟩:=o2.items (O':=O++Fs2.flatten) h2 tW d2
   refine ⟨p1,p2,vs,ws,rfl,rfl,q1,q2,by rw [r1.1,r2.1];exact h3,fun p' hp'=>w _ _ _ _ (IC (E.drop (fun a ha=>mem_append_right _ (mem_append_right _ ha)) nd) (s1.trans s2) (fun a ha=>new a (mem_append_right _ (mem_append_right _ ha))) (r1.app r2) hp')⟩
 ·exact w.elim
theorem xD (h:tE K W (mY fa fb) σ H Q):xg (uA K) (tE K W fa) (tE K W fb) σ H Q:=by
 refine Au (R:=fun v u H2=>uA K v u H2 Q) h fun He O Fs Γ2 p q v u H1 H2 G1 G2 Fs2 nd s1 s2 E new o1 o2 w=>?_
 obtain ⟨s,d⟩:=p;obtain ⟨s',d'⟩:=q;dsimp only at w o1 o2
 split at w
 ·rename_i xs ys
  cases hc:(!s.isView&&aH ⟨s',.tuple ys⟩ ys&&!xs.isEmpty&&decide (xs.length+ys.length<=sizeLine)) with
  | false=>rw [hc] at w;exact w.elim
  | true=>
   rw [hc] at w;simp only [Bool.and_eq_true,decide_eq_true_eq,Bool.not_eq_true'] at hc
   obtain ⟨⟨⟨h1,h2⟩,h0⟩,h3⟩:=hc;obtain ⟨d1,d2⟩:=C4 E.nd;have E1:=E.drop (fun a ha=>mem_append_right _ (mem_append_right _ ha)) nd
   have nw:∀a∈Fs2.flatten,a∈Fs.flatten\/H a=none:=fun a ha=>new a (mem_append_right _ (mem_append_right _ ha))
   have r1:=o1.freeze (O':=O++Fs2.flatten) h1 tW d1
   obtain ⟨p2,ws,rfl,q2,_,r2⟩:=o2.itemsT (O':=O++Fs2.flatten) h2 tW d2
   cases r1 with
   | @tup a vs _ hq hl hr=>
    refine ⟨a,p2,vs,ws,rfl,rfl,fh hid_le hq,q2,fun z=>?_,by rw [hl,r2.1];exact h3,fun z=>?_,fun z p' hp'=>w _ _ _ _ (IR E1 (s1.trans s2) nw (Reps.app ⟨hl,hr⟩ r2) hp')⟩
    ·subst z
     cases xs with
     | nil=>simp at h0
     | cons _ _=>simp at hl
    ·subst z
     have e:ys=[]:=List.length_eq_zero_iff.mp (by rw [<-r2.1];rfl)
     subst e;have A:=pU (Fs:=Fs) (H:=H) (d:=.tuple (xs++[])) (v:=.ref a) E1 (s1.trans s2) nw (by rw [append_nil];exact .tup hq hl hr)
     exact w _ _ _ _ A
 ·exact w.elim
theorem Bc (h:tE K W (rN fa fb) σ H Q):KR (Bs K) (tE K W fa) (zw (tE K W fb)) pf σ H Q:=by
 refine Au (R:=fun v u H2=>∃i,u=.int i/\Bs K v (some i) none H2 Q) h fun He O Fs Γ2 p q v u H1 H2 G1 G2 Fs2 nd s1 s2 E new o1 o2 w=>?_
 obtain ⟨s,d⟩:=p;obtain ⟨s',d'⟩:=q;dsimp only at w o1 o2
 split at w
 ·rename_i xs k
  cases hc:(!s.isView&&decide (1<=k)&&decide (k<=xs.length)) with
  | false=>rw [hc] at w;exact w.elim
  | true=>
   rw [hc] at w;simp only [Bool.and_eq_true,decide_eq_true_eq,Bool.not_eq_true'] at hc
   obtain ⟨⟨h1,h2⟩,h3⟩:=hc;obtain ⟨d1,d2⟩:=C4 E.nd;have E1:=E.drop (fun a ha=>mem_append_right _ (mem_append_right _ ha)) nd
   have nw:∀a∈Fs2.flatten,a∈Fs.flatten\/H a=none:=fun a ha=>new a (mem_append_right _ (mem_append_right _ ha))
   have r1:=o1.freeze (O':=O++Fs2.flatten) h1 tW d1
   have ru:=o2.rep
   cases ru;refine ⟨k,rfl,?_⟩
   cases r1 with
   | @tup a vs _ hq hl hr=>
    have ek:k=((k.toNat:Nat):Int):=by omega
    refine ⟨a,vs,rfl,fh hid_le hq,fun z=>?_,fun p' hp'=>?_⟩
    ·have z1:=z.1
     rw [ek,HT.sIx_nat] at z1;omega
    ·have ec:r9 vs (some k) none=vs.drop k.toNat:=by
      unfold r9;rw [ek,HT.sIx_nat,HT.sIx_none,Int.toNat_natCast,List.take_of_length_le (by rw [length_drop];omega)]
      rw [Nat.min_eq_left (by omega)]
     rw [ec];exact w _ _ _ _ (IR E1 (s1.trans s2) nw (Reps.drop k.toNat ⟨hl,hr⟩) hp')
 ·exact w.elim
noncomputable def jn (fa:F1):F1:=aY fa fun p Γ=>match p.d with
 | .list ds=>if aH p ds then .ok ⟨.leaf,.tuple ds⟩ Γ else .no
 | .tuple ds=>if !p.s.isView then .ok ⟨.leaf,.tuple ds⟩ Γ else .no
 | _=>.no
theorem uj (h:tE K W (jn fa) σ H Q):zz (fun xs H Q=>∃p ys,xs=[.ref p]/\((SqL K H p ys/\∀l,H l=none->Q (.ref l) (bU H l (.tup ys)))\/(SqT K H p ys/\Q (.ref p) H))) (tA K W (ae fa ah)) σ H Q:=by
 refine Iv (QL:=fun xs H1=>∃p ys,xs=[.ref p]/\((SqL K H1 p ys/\∀l,H1 l=none->Q (.ref l) (bU H1 l (.tup ys)))\/(SqT K H1 p ys/\Q (.ref p) H1))) ?_
 refine wC h fun He O Fs Γ1 p v H1 G Fs1 nd A w=>?_
 obtain ⟨s,d⟩:=p
 cases d with
 | list ds=>
  have w:Wants K W He O Fs H σ Q (if aH ⟨s,.list ds⟩ ds then .ok ⟨.leaf,.tuple ds⟩ Γ1 else .no):=w
  cases hc:aH ⟨s,.list ds⟩ ds with
  | false=>rw [hc] at w;exact w.elim
  | true=>
   rw [hc] at w;obtain ⟨p,vs,rfl,hq,_,hr⟩:=A.own.items (O':=O++Fs1.flatten) hc jb A.disj
   exact ⟨p,vs,rfl,.inl ⟨hq,fun l hl=>w _ _ _ _ (IR A.go A.same A.newF hr hl)⟩⟩
 | tuple ds=>
  have w:Wants K W He O Fs H σ Q (if !s.isView then .ok ⟨.leaf,.tuple ds⟩ Γ1 else .no):=w
  cases hc:s.isView with
  | true=>rw [hc] at w;exact w.elim
  | false=>
   rw [hc] at w;have r1:=A.own.freeze (O':=O++Fs1.flatten) hc jb A.disj
   cases r1 with
   | @tup a vs _ hq hl hr=>exact ⟨a,vs,rfl,.inr ⟨fh hid_le hq,w _ _ _ _ (pU A.go A.same A.newF (.tup hq hl hr))⟩⟩
 | _=>exact w.elim
end
noncomputable def Km:List PySem.PyData->Option PySem.PyData
 | [.list ds]=>(intsOf ds).map fun ns=>.int ns.sum
 | _=>none
noncomputable def b8 (k:Str):List (Str×Int)->Option Int
 | []=>none
 | (x,i)::r=>if k=x then some i else b8 k r
noncomputable def tH (a:Addr) (es:Array DictEntry) (tab:List (Str×Int)):Bool:=!(a==sysModules)&&KTD.rowsLook KTD.flatLooks es.toList (tab.map fun p=>(p.1,.int p.2))
noncomputable def qA (K:Fg) (mg:Str->Option Value) (x:Str) (tab:List (Str×Int)):Prop:=∃a es ep,mg x=some (.ref a)/\K.lookup a=some ⟨.type "dict",none,.dict es ep,#[]⟩/\tH a es tab=true
noncomputable def Dm (X:Cx) (x:Str) (tab:List (Str×Int)):Prop:=qA X.K X.mg x tab
theorem yP {K:Fg} {mg:Str->Option Value} {x:Str} {a:Addr} {es:Array DictEntry} {ep:Nat} {tab:List (Str×Int)} (hm:mg x=some (.ref a)) (l:K.lookup a=some ⟨.type "dict",none,.dict es ep,#[]⟩) (h:tH a es tab=true):qA K mg x tab:=⟨a,es,ep,hm,l,h⟩
noncomputable def tF (tab:List (Str×Int)):List (Str×KTD.Dat):=(tab.map fun p=>(p.1,PySem.PyData.int p.2)).map fun p=>(p.1,KTD.Dat.flat p.2)
theorem lN {K:Fg} {h:Heap} {a:Addr} {es:Array DictEntry} {ep:Nat} {tab:List (Str×Int)} (hk:K.In h) (l:K.lookup a=some ⟨.type "dict",none,.dict es ep,#[]⟩) (hb:tH a es tab=true):KTD.Here h h a (tF tab):=by
 unfold tH at hb;simp only [Bool.and_eq_true,Bool.not_eq_true'] at hb
 refine ⟨KTD.TabOf.text ⟨hb.1,_,es,ep,hk a _ l,⟨rfl,rfl,rfl⟩,rfl,KTD.rows_of_look (fun d v z=>KTD.flat_of_looks z) hb.2⟩,fun b o z=>z⟩
theorem IH (k:Str):∀tab:List (Str×Int),KTD.datumAt k (tF tab)=(b8 k tab).map fun i=>KTD.Dat.flat (.int i)
 | []=>rfl
 | (x,i)::r=>by
  have ih:=IH k r
  unfold tF at ih ⊢
  simp only [map_cons,KTD.datumAt,b8]
  by_cases e:k=x
  ·simp [e]
  ·simp [e]
   simpa using ih
theorem mW {h:Heap} {k:Str} {P:Value->Prop} {i:Int} (hp:∀t,P (.int i t)):∀tab:List (Str×Int),b8 k tab=some i->KTD.EachL h k P (tF tab)
 | [],_=>trivial
 | [(x,j)],e=>fun hx=>by
  simp only [b8,hx,if_true,Option.some.injEq] at e
  subst e;exact hp
 | (x,j)::q::r,e=>by
  show (if decide (k=x)=true then KTD.Opened h P (.flat (.int j)) else KTD.EachL h k P (tF (q::r)))
  by_cases hx:k=x
  ·rw [if_pos (decide_eq_true hx)]
   rw [b8,if_pos hx] at e
   cases e;exact hp
  ·rw [if_neg (by simp [hx])]
   rw [b8,if_neg hx] at e;exact mW hp (q::r) e
noncomputable def vM (neg:Bool) (tab:List (Str×Int)) (fa:F1):F1:=aY fa fun p Γ=>match p.d with
 | .str k=>.ok ⟨.leaf,.bool (if neg then !(b8 k tab).isSome else (b8 k tab).isSome)⟩ Γ
 | _=>.no
noncomputable def qo (tab:List (Str×Int)) (fa:F1):F1:=aY fa fun p Γ=>match p.d with
 | .str k=>(match b8 k tab with
  | some i=>.ok ⟨.leaf,.int i⟩ Γ
  | none=>.no)
 | _=>.no
section
variable {K:Fg} {W:XW} {σ:St} {H:Hp} {Q:VK} {fa:F1}
theorem Bi {neg:Bool} {tab:List (Str×Int)} (h:tE K W (vM neg tab fa) σ H Q):tE K W fa σ H fun x H1=>∃k,x=.str k/\Q (.bl (if neg then !(b8 k tab).isSome else (b8 k tab).isSome)) H1:=by
 refine wC h fun He O Fs Γ1 p v H1 G Fs1 nd A w=>?_
 obtain ⟨s,d⟩:=p;have r:=A.own.rep
 cases r with
 | str k=>exact ⟨k,rfl,Wants.scal w (.bl _) A.same A.env (fun a ha=>mem_append_right _ ha) nd A.newF⟩
 | _=>exact w.elim
theorem xB {tab:List (Str×Int)} (h:tE K W (qo tab fa) σ H Q):tE K W fa σ H fun x H1=>∃k i,x=.str k/\b8 k tab=some i/\Q (.int i) H1:=by
 refine wC h fun He O Fs Γ1 p v H1 G Fs1 nd A w=>?_
 obtain ⟨s,d⟩:=p;have r:=A.own.rep
 cases r with
 | str k=>
  have w:Wants K W He O Fs H σ Q (match b8 k tab with | some i=>.ok ⟨.leaf,.int i⟩ Γ1 | none=>.no):=w
  cases e:b8 k tab with
  | none=>rw [e] at w;exact w.elim
  | some i=>
   rw [e] at w;exact ⟨k,i,rfl,e,Wants.scal w (.int _) A.same A.env (fun a ha=>mem_append_right _ ha) nd A.newF⟩
 | _=>exact w.elim
end
section
variable {X:Cx} {N gl:List Str} {vs cs ls lo gs:List Nat} {W:XW} {a b c e:Expr} {es:List Expr} {pos p:Pos} {fa fb fc:F1} {fl:FL} {g:FS}
theorem BP {x:Str} {tab:List (Str×Int)} (S:Cp X N gl vs cs ls lo gs) (j:Nat) (hj:gl[j]?=some x) (hg:gs.contains j=true) (Tb:Dm X x tab) (ha:PE X a (tE X.K W fa)):PC X .In a (.Name x p) (tE X.K W (vM false tab fa)):=by
 intro pins s σ H Q I h;obtain ⟨d,es,ep,hm,l,hb⟩:=Tb;refine bF (ha pins s σ H _ I (Bi h)) fun v s1 ⟨y,H1,I1,r1,k,ey,q⟩=>?_
 subst ey;obtain ⟨t,rfl⟩:=r1;refine zh I1 (S.g hj hg).1 hm ?_ (S.g hj hg).2.1
 refine KTD.in_text (lN I1.kIn l hb) ?_
 refine ⟨.bl _,H1,I1.tok _,?_,q⟩
 rw [<-KTD.isSome_datumAt,IH,Option.isSome_map];rfl
end
noncomputable def Ki (i:Nat) (q:PV) (Γ:Ev):Out PV:=match Γ[i]?,q.d with
 | some (some ⟨.lst .leaf,.list ds⟩),.int k=>(match gH ds.length k with
  | some j=>(match ds[j]? with
   | some d=>.ok ⟨.leaf,d⟩ Γ
   | none=>.no)
  | none=>.no)
 | _,_=>.no
noncomputable def vN (i:Nat) (fb:F1):F1:=fun Γ=>if fq Γ[i]? then (fb Γ).bind (Ki i) else .no
section
variable {K:Fg} {W:XW} {σ:St} {H:Hp} {Q:VK} {D:eu} {fa fb:F1} {fl:FL}
noncomputable def oU (i:Nat) (a:Int) (p:PV) (Γ:Ev):dr:=match p.d with
 | .int b=>if i<Γ.length then .nx (Γ.set i (some ⟨.leaf,.int (a+b)⟩)) else .no
 | _=>.no
noncomputable def gv (i:Nat) (f:F1):FS:=fun Γ=>match Γ[i]? with
 | some (some ⟨.leaf,.int a⟩)=>kc f (oU i a) Γ
 | _=>.no
theorem Bq {i:Nat} (h:tS K W (gv i fa) D σ H):EI i (tE K W fa) (Lx fun i j=>i+j) D σ H:=by
 obtain ⟨He,O,Fs,Γ,E,h⟩:=h;unfold gv at h;split at h
 ·rename_i a e0
  obtain ⟨_,v,F,h1,h2,h3⟩:=E.slot i _ e0;have r:=h3.rep
  cases r;refine ⟨.int a,h1,?_⟩
  refine j8 (D:=D) (k:=oU i a) ⟨He,O,Fs,Γ,E,h⟩ fun He O Fs Γ1 p u H1 G Fs1 _ fr A w=>?_
  unfold oU at w;split at w
  ·rename_i b eb
   have r:=A.own.rep
   rw [eb] at r
   cases r;by_cases hi:i<Γ1.length
   ·rw [if_pos hi] at w
    exact ⟨a,b,rfl,rfl,w _ _ _ (EnvOk.put (G:=[]) (p:=⟨.leaf,.int (a+b)⟩) (v:=.int (a+b)) A.go (.leaf (.int _)) rfl (fun a ha=>by simp at ha) hi)⟩
   ·rw [if_neg hi] at w;exact w.elim
  ·exact w.elim
 ·exact h.elim
noncomputable def CQ (i:Nat) (p:PV) (Γ:Ev):dr:=match Γ[i]?,p.d with
 | some (some ⟨.lst .leaf,.list ds⟩),.tuple es=>if aH p es&&decide (ds.length+es.length<=sizeLine) then .nx (Γ.set i (some ⟨.lst .leaf,.list (ds++es)⟩)) else .no
 | some (some ⟨.lst .leaf,.list ds⟩),.list es=>if aH p es&&decide (ds.length+es.length<=sizeLine) then .nx (Γ.set i (some ⟨.lst .leaf,.list (ds++es)⟩)) else .no
 | _,_=>.no
noncomputable def jF (i:Nat) (f:F1):FS:=fun Γ=>if fq Γ[i]? then kc f (CQ i) Γ else .no
noncomputable def Bw (K:Fg):V->List V->Hp->VK->Prop:=fun x vs H Q=>∃l b xs zs,x=.ref l/\vs=[.ref b]/\H l=some (.lst xs)/\(SqL K H b zs\/SqT K H b zs)/\xs.length+zs.length<=sizeLine/\Q .non (bU H l (.lst (xs++zs)))
theorem Bo {i:Nat} (h:tS K W (jF i fa) D σ H):j9 (JG K "list" (Bw K) (b6 i) (tA K W (ae fa ah))) D σ H:=by
 obtain ⟨He,O,Fs,Γ,E,h⟩:=h;unfold jF at h
 cases ho:fq Γ[i]? with
 | false=>rw [ho] at h;exact h.elim
 | true=>
  rw [ho] at h;obtain ⟨ds,e0⟩:=ot ho;obtain ⟨l,vs,h1,h2,h3,_,_⟩:=E.chgF e0;refine ⟨.ref l,h1,.inl ⟨rfl,vs,.of h2⟩,Iv (j8 (D:=D) ⟨He,O,Fs,Γ,E,h⟩ fun He O Fs Γ1 p v H1 G Fs1 _ fr A w=>?_)⟩
  obtain ⟨s,d⟩:=p;have fin:∀(ds1 es:List PySem.PyData) (b:Addr) (ws:List V),Γ1[i]?=some (some ⟨.lst .leaf,.list ds1⟩)->v=.ref b->(SqL K H1 b ws\/SqT K H1 b ws)->Reps K (cN H1 (O++Fs1.flatten)) ws es->ds1.length+es.length<=sizeLine ->
    bZ K W He O D (.nx (Γ1.set i (some ⟨.lst .leaf,.list (ds1++es)⟩)))->Bw K (.ref l) [v] H1 (fun _ H2=>D.nx σ H2):=fun ds1 es b ws e1 hv hq hr hz w=>by
   obtain ⟨l1,vs1,q1,q2,q3,q4,q5⟩:=A.go.chgF e1;rw [h1] at q1
   cases q1;subst hv;refine ⟨l,b,vs1,ws,rfl,rfl,q2,hq,by rw [q3,hr.1];exact hz,w σ _ _ (q5 (vs1++ws) (ds1++es) (by rw [length_append,length_append,q3,hr.1]) ?_)⟩
   exact (Reps.app ⟨q3,q4⟩ hr).2
  unfold CQ at w;split at w
  ·rename_i ds1 es e1 e2
   dsimp only at e2;subst e2
   cases hc:(aH ⟨s,.tuple es⟩ es&&decide (ds1.length+es.length<=sizeLine)) with
   | false=>rw [hc] at w;exact w.elim
   | true=>
    rw [hc] at w;simp only [Bool.and_eq_true,decide_eq_true_eq] at hc
    obtain ⟨b,ws,rfl,hq,_,hr⟩:=A.own.itemsT (O':=O++Fs1.flatten) hc.1 jb A.disj
    exact fin ds1 es b ws e1 rfl (.inr hq) hr hc.2 w
  ·rename_i ds1 es e1 e2
   dsimp only at e2;subst e2
   cases hc:(aH ⟨s,.list es⟩ es&&decide (ds1.length+es.length<=sizeLine)) with
   | false=>rw [hc] at w;exact w.elim
   | true=>
    rw [hc] at w;simp only [Bool.and_eq_true,decide_eq_true_eq] at hc
    obtain ⟨b,ws,rfl,hq,_,hr⟩:=A.own.items (O':=O++Fs1.flatten) hc.1 jb A.disj
    exact fin ds1 es b ws e1 rfl (.inl hq) hr hc.2 w
  ·exact w.elim
end
theorem Ko {l b:Addr} {xs ys:Array Value} {n m:Nat} {d2:Option Addr} {s2:Array (Option Value)} (h0:¬(!xs.isEmpty&&Builtin.List.listTooLong (xs.size+ys.size))=true) (h1:xs.size<=sizeLine) (h2:(xs++ys).size<=sizeLine+1) :
  Meets (Builtin.«list.extend» ⟨[.ref l,.ref b],[]⟩) (fun _ R s=>s.heap.get? l=some ⟨.type "list",none,.seq xs n,#[]⟩/\s.heap.get? b=some ⟨.type "tuple",d2,.seq ys m,s2⟩ /\
   R (.ok (.ret Value.none)) { s with heap:=s.heap.update l (Obj.mapSeq fun x=>x++ys),toks:=s.toks }):=
 .of_wp fun prog w A R s h=>by
  obtain ⟨hp,g,d,tk,os⟩:=s;obtain ⟨hl,hb,h⟩:=h;have f1:=AutoSeq1.idx_int
  have f2:=AutoSeq1.sub_tuple_tuple
  have f3:=AutoSeq1.sub_list_list
  have f4:=AutoSeq1.sub_tuple_list
  have f5:=AutoSeq1.sub_list_tuple
  wp_walk using (wpAny_updateSeq hl rfl (hz:=h1) (_hz':=h2)),AutoSeq1.wpAny_loadPart' hl,AutoSeq1.wpAny_loadPart' hb
  exact ⟨_,rfl,h⟩
theorem Kp {l b:Addr} {xs ys:Array Value} {n m:Nat} {d2:Option Addr} {s2:Array (Option Value)} (h0:¬(!xs.isEmpty&&Builtin.List.listTooLong (xs.size+ys.size))=true) (h1:xs.size<=sizeLine) (h2:(xs++ys).size<=sizeLine+1) :
  Meets (Builtin.«list.extend» ⟨[.ref l,.ref b],[]⟩) (fun _ R s=>s.heap.get? l=some ⟨.type "list",none,.seq xs n,#[]⟩/\s.heap.get? b=some ⟨.type "list",d2,.seq ys m,s2⟩ /\
   R (.ok (.ret Value.none)) { s with heap:=s.heap.update l (Obj.mapSeq fun x=>x++ys),toks:=s.toks }):=
 .of_wp fun prog w A R s h=>by
  obtain ⟨hp,g,d,tk,os⟩:=s;obtain ⟨hl,hb,h⟩:=h;have f1:=AutoSeq1.idx_int
  have f2:=AutoSeq1.sub_tuple_tuple
  have f3:=AutoSeq1.sub_list_list
  have f4:=AutoSeq1.sub_tuple_list
  have f5:=AutoSeq1.sub_list_tuple
  wp_walk using (wpAny_updateSeq hl rfl (hz:=h1) (_hz':=h2)),AutoSeq1.wpAny_loadPart' hl,AutoSeq1.wpAny_loadPart' hb
  exact ⟨_,rfl,h⟩
theorem Cb {X:Cx}:LU X "list.extend" (Bw X.K):=by
 intro pins s σ H x vs v us Q I rx rv h;obtain ⟨l,b,xs,zs,rfl,rfl,hH,hB,hz,q⟩:=h
 cases rx;obtain ⟨u,rfl,ru⟩:=rv.one
 cases ru;obtain ⟨z,its,n,r,hl,e⟩:=I.lstM hH;have fin:∀its2:List Value,Vals zs its2->its.toArray.size+its2.toArray.size<=sizeLine/\(its.toArray++its2.toArray).size<=sizeLine+1/\its.toArray.size<=sizeLine/\¬(!its.toArray.isEmpty&&Builtin.List.listTooLong (its.toArray.size+its2.toArray.size))=true /\
   EP X pins σ Q Value.none { s with heap:=s.heap.update l (Obj.mapSeq fun x=>x++its2.toArray),toks:=s.toks }:=fun its2 r2=>by
  have h1:its.toArray.size+its2.toArray.size<=sizeLine:=by rw [size_toArray,size_toArray,<-r.length,<-r2.length];exact hz
  refine ⟨h1,by rw [Array.size_append];omega,by omega,?_,?_⟩
  ·rw [mE h1,Bool.and_false]
   exact Bool.false_ne_true
  ·exact ⟨.non,_,I.lset (its':=its++its2) hH e (by simp) (r.append r2) (by rw [length_append];exact hz),rfl,q⟩
 rcases hB with hB | hB
 ·obtain ⟨its2,r2,⟨⟨c2,d2,dat2,s2⟩,n2,e2,ec,ed,es⟩,_⟩:=I.list hB
  simp only at ec es
  subst ec es;obtain ⟨f1,f2,f3,f4,f5⟩:=fin its2 r2;exact call_meets F.slot_list_extend ⟨_,e,rfl⟩ F.entry_list_extend (F.args_list_extend_2 _ _) (Kp f4 f3 f2) ⟨e,e2,f5⟩
 ·obtain ⟨its2,r2,⟨⟨c2,d2,dat2,s2⟩,e2,ec,n2,es⟩,_⟩:=I.tuple hB
  simp only at ec es
  subst ec es;obtain ⟨f1,f2,f3,f4,f5⟩:=fin its2 r2;exact call_meets F.slot_list_extend ⟨_,e,rfl⟩ F.entry_list_extend (F.args_list_extend_2 _ _) (Ko f4 f3 f2) ⟨e,e2,f5⟩
section
variable {X:Cx} {N gl:List Str} {vs cs ls lo gs:List Nat} {W:XW} {a b c e:Expr} {es:List Expr} {pos p:Pos} {fa fb fc:F1} {fl:FL} {g:FS}
theorem cs_extend (S:Cp X N gl vs cs ls lo gs) (i:Nat) {x:Str} {apos cpos:Pos} (hi:N[i]?=some x) (hv:vs.contains i=true) (ha:PE X a (tE X.K W fa)) (hs:starEach [a] X.env=[(false,eval a X.env)])
  (hbase:attributeBase (.Name x p) "extend" X.env (eval (.Name x p) X.env)=eval (.Name x p) X.env) (hline:(apos.endLine==cpos.line)=true)
  (hfew:((backTo cpos (starEach [a] X.env)).all (fun x=>!x.1)&&(backToKw cpos (keywordEach [] X.env)).all (fun x=>x.1.isSome)
   && decide ([a].length+([]:List Keyword).length+(if ([]:List Keyword).isEmpty then 0 else 1)<30))=true)
  (hsw:swapsWith (.Call (.Attribute (.Name x p) "extend" apos) [a] [] cpos) none pos.line X.env=pure false) :
  PS X (.Expr (.Call (.Attribute (.Name x p) "extend" apos) [a] [] cpos) pos) (tS X.K W (jF i fa)):=by
 have m:=S.nm x (mem_of_getElem? hi)
 exact dq (Ea (zL PySem.F.plainAttrs_list PySem.F.slot_list_extend PySem.F.type_list_extend Cb (wB (by rw [S.hN];exact hi) (S.vis i x hi hv) m.1 m.2) (da_cons ha da_nil hs) hbase hfew hline hs rfl) hsw) fun _ _ _=>Bo
theorem Gc {P:Program} {w:World} {K:Fg} {mg:Str->Option Value} {base:Heap} {k:Nat} {f:Addr} {fd:FuncData} {ps:List Str}:dk P w K mg base iY k f fd ps (lR K ps.length fun _=>.no):=
 ⟨fun vs H Q E h=>h.1,fun A outer s H args us vs Q E hr he hb hv h=>by
  obtain ⟨_,_,_,_,_,_,w⟩:=h;exact w.elim⟩
end
end T
namespace TQ
open PySem PySem.Spec L2 T
open PyProof.Rows hiding St
section
variable {X:Cx} {N gl:List Str} {vs cs ls lo gs:List Nat} {W:XW} {a b c e:Expr} {es:List Expr} {pos p:Pos} {fa fb fc:F1} {fl:FL} {ga gb:FB} {g1 g2 g:FS}
theorem tf (ha:Q (PE X a (tE X.K W fa))) (hb:Q (PE X b (tE X.K W fb))):Q (PE X (.BinOp a .Add b pos) (tE X.K W (gL fa fb))):=⟨have ha:=ha.p;have hb:=hb.p;bc (fH pR ha hb) fun _ _ _=>uu⟩
theorem qF (ha:Q (PE X a (tE X.K W fa))) (hb:Q (PE X b (tE X.K W fb))):Q (PE X (.BinOp a .Add b pos) (tE X.K W (mY fa fb))):=⟨have ha:=ha.p;have hb:=hb.p;bc (fH xY ha hb) fun _ _ _=>xD⟩
theorem sZ {p2:Pos} (ha:Q (PE X a (tE X.K W fa))) (hb:Q (PE X b (tE X.K W fb))):Q (PE X (.Subscript a (.Slice (some b) none none p2) pos) (tE X.K W (rN fa fb))):=⟨have ha:=ha.p;have hb:=hb.p;bc (uO AV ha (xK hb) xM) fun _ _ _=>Bc⟩
theorem nM (S:Cp X N gl vs cs ls lo gs) (j:Nat) (hj:gl[j]?=some ("tuple":Str)) (hg:gs.contains j=true) (hm:X.mg "tuple"=none) (ha:Q (PE X e (tE X.K W fa))) (hs:starEach [e] X.env=[(false,eval e X.env)]):Q (PE X (.Call (.Name "tuple" p) [e] [] pos) (tE X.K W (jn fa))):=⟨have ha:=ha.p;bc (IZ j0 (S.g hj hg).1 hm qv (da_cons ha da_nil hs) (by decide) (by decide) hs rfl) fun _ _ _=>uj⟩
theorem i7 {x:Str} {tab:List (Str×Int)} (S:Cp X N gl vs cs ls lo gs) (j:Nat) (hj:gl[j]?=some x) (hg:gs.contains j=true) (Tb:Dm X x tab) (ha:Q (PE X a (tE X.K W fa))):Q (PE X (.Compare a [.In] [.Name x p] pos) (tE X.K W (vM false tab fa))):=⟨have ha:=ha.p;BN (BP S j hj hg Tb ha) rfl⟩
theorem qE {x:Str} {tab:List (Str×Int)} (S:Cp X N gl vs cs ls lo gs) (j:Nat) (hj:gl[j]?=some x) (hg:gs.contains j=true) (Tb:Dm X x tab) (ha:Q (PE X a (tE X.K W fa))) (hs:iW a):Q (PE X (.Subscript (.Name x p) a pos) (tE X.K W (qo tab fa))):=⟨by
 have ha:=ha.p
 intro pins s σ H Q I h;obtain ⟨d,es,ep,hm,l,hb⟩:=Tb;refine Subscript_ (zh I (S.g hj hg).1 hm ?_ (S.g hj hg).2.1)
 refine bF (ha pins s σ H _ I (xB h)) fun v s1 ⟨y,H1,I1,r1,k,i,ey,e,q⟩=>?_
 subst ey;obtain ⟨t,rfl⟩:=r1;refine KTD.item_text (lN I1.kIn l hb) ?_ (mW (fun t'=>⟨.int i,H1,I1.tok _,⟨_,rfl⟩,q⟩) tab e) (hs _ _)
 rw [<-KTD.isSome_datumAt,IH,e];rfl⟩
theorem sX (S:Cp X N gl vs cs ls lo gs) (i:Nat) {x:Str} {pos':Pos} (hi:N[i]?=some x) (hl:ls.contains i=true) (ha:Q (PE X a (tE X.K W fa))):Q (PS X (.AugAssign (.Name x pos') .Add a pos) (tS X.K W (gv i fa))):=⟨have ha:=ha.p;dq (BE (by rw [S.hN];exact S.nd) (by rw [S.hN];exact hi) (S.loc i x hi hl).1 ha Cw (S.loc i x hi hl).2) fun _ _ _=>Bq⟩
theorem lI (S:Cp X N gl vs cs ls lo gs) (i:Nat) {x:Str} {apos cpos:Pos} (hi:N[i]?=some x) (hv:vs.contains i=true) (ha:Q (PE X a (tE X.K W fa))) (hs:starEach [a] X.env=[(false,eval a X.env)]) (hbase:attributeBase (.Name x p) "extend" X.env (eval (.Name x p) X.env)=eval (.Name x p) X.env) (hline:(apos.endLine==cpos.line)=true) (hfew:((backTo cpos (starEach [a] X.env)).all (fun x=>!x.1)&&(backToKw cpos (keywordEach [] X.env)).all (fun x=>x.1.isSome)
   && decide ([a].length+([]:List Keyword).length+(if ([]:List Keyword).isEmpty then 0 else 1)<30))=true) (hsw:swapsWith (.Call (.Attribute (.Name x p) "extend" apos) [a] [] cpos) none pos.line X.env=pure false):Q (PS X (.Expr (.Call (.Attribute (.Name x p) "extend" apos) [a] [] cpos) pos) (tS X.K W (jF i fa))):=⟨T.cs_extend S i hi hv ha.p hs hbase hline hfew hsw⟩
theorem lG {tg:Expr} (ha:Q (PE X a (tE X.K W fa))):Q (PI X tg a (tI X.K W (dH fa))):=⟨have ha:=ha.p;qx (BH ha) fun _ _ _=>xy⟩
end
end TQ
namespace T
open PySem PySem.Spec L2
open PyProof.Rows hiding St
noncomputable def rJ (neg:Bool):PySem.PyData->PySem.PyData->Option PySem.PyData
 | .bool a,.bool b=>some (.bool (if neg then a != b else a==b))
 | _,_=>none
theorem B5 {X:Cx}:OpR X (compareOp .Is) (fun x y H Q=>∃a b,x=.bl a/\y=.bl b/\Q (.bl (a==b)) H):=by
 intro pins s σ H x y v u Q I rx ry h;obtain ⟨a,b,rfl,rfl,q⟩:=h
 cases rx
 cases ry;exact is_bool (D6 I q rfl)
theorem yt {K:Fg}:GOp K (fun x y H Q=>∃a b,x=.bl a/\y=.bl b/\Q (.bl (a==b)) H) (rJ false):=by
 intro x y H Q a b d ra rb e k
 cases ra<;>cases rb<;>simp only [rJ] at e<;>try cases e
 exact ⟨_,_,rfl,rfl,k _ (.bl _)⟩
theorem Fe {X:Cx} (R:Rm X):Ck X .Is (fun x y H Q=>∃a b,x=.bl a/\y=.bl b/\Q (.bl (a==b)) H) (rJ false):=⟨B5,yt⟩
theorem we {K:Fg} {mg:Str->Option Value} {x y:Str} {a b:Addr} {dd d2:Option Addr} {its i2:Array Value} {n n2:Nat} {sl sl2:Array (Option Value)} {t:Tok} {ds:List PySem.PyData} (hm:mg x=some (.ref a)) (l:K.lookup a=some ⟨.type "tuple",dd,.seq its n,sl⟩)
  (hi:its.toList=[.str y t,.ref b]) (l2:K.lookup b=some ⟨.type "tuple",d2,.seq i2 n2,sl2⟩) (h:si i2 ds=true):fC K mg x (.tuple [.str y,.tuple ds]):=by
 have hz:its.size<=sizeLine:=by
  rw [<-Array.length_toList,hi];show 2<=sizeLine
  decide
 unfold si at h;simp only [Bool.and_eq_true,decide_eq_true_eq] at h
 obtain ⟨v,s⟩:=Hn h.2;have inner:∀H,Rep K H (.ref b) (.tuple ds):=fun H=>.tup (vs:=ds.map HM) (.inr ⟨_,i2,n2,l2,rfl,rfl,h.1,v⟩) (by simp) fun i v d h1 h2=>by
  rw [getElem?_map,h2] at h1
  cases h1;exact (s d (mem_of_getElem? h2)).rep
 refine ⟨.ref a,.ref a,hm,rfl,fun H=>.tup (vs:=[.str y,.ref b]) (.inr ⟨_,its,n,l,rfl,rfl,hz,by rw [hi];exact .cons ⟨t,rfl⟩ (.cons rfl .nil)⟩) rfl fun i v d h1 h2=>?_⟩
 match i,h1,h2 with
 | 0,h1,h2=>cases h1;cases h2;exact .str y
 | 1,h1,h2=>cases h1;cases h2;exact inner H
 | i+2,h1,h2=>simp at h1
noncomputable def Mn (x:Str):List PySem.PyData:=x.cps.toList.map fun c=>.str ⟨#[c]⟩
noncomputable def zU (x:Str):FI:=fun Γ=>.ok ⟨Mn x,true⟩ Γ
noncomputable def Aa (x:Str):List PySem.PyData->Option PySem.PyData
 | [.str j]=>match Builtin.Str.occurrences x j 0 x.length 1 with
  | k::_=>some (.int k)
  | []=>none
 | _=>none
theorem Dw:(1000:Nat)<=sizeLine:=by decide
theorem Jl {i:Nat} {fc:FB} {fe:F1} {s:Sh} {c:D->Bool} {f:D->PV} {Γ:Ev} (hΓ:Γ.set i none=Γ):∀(r acc:List D),(∀d∈r,fc (Γ.set i (some ⟨.leaf,d⟩))=.ok (c d) (Γ.set i (some ⟨.leaf,d⟩))) ->
  (∀d∈r,c d=true->fe (Γ.set i (some ⟨.leaf,d⟩))=.ok (f d) (Γ.set i (some ⟨.leaf,d⟩))/\coer s (f d)=true)->acc.length+r.length<=sizeLine->cT i fc fe s r Γ acc=.ok (acc++((r.filter c).map fun d=>(f d).d)) Γ
 | [],acc,_,_,_=>by simp [cT]
 | d::r,acc,hc,he,hl=>by
  have h1:=hc d mem_cons_self
  have hl1:acc.length<sizeLine:=by simp at hl;omega
  have back:(Γ.set i (some ⟨.leaf,d⟩)).set i none=Γ:=by rw [set_set];exact hΓ
  rw [cT,h1]
  cases hcd:c d with
  | false=>
   dsimp only;rw [if_pos hl1,back,Jl hΓ r acc (fun d hd=>hc d (mem_cons_of_mem _ hd)) (fun d hd=>he d (mem_cons_of_mem _ hd)) (by simp at hl;omega)]
   rw [List.filter_cons_of_neg (by rw [hcd];exact Bool.false_ne_true)]
  | true=>
   obtain ⟨h2,h3⟩:=he d mem_cons_self hcd;dsimp only;rw [h2];dsimp only;rw [h3,decide_eq_true hl1,Bool.and_self,if_pos rfl,back,Jl hΓ r (acc++[(f d).d]) (fun d hd=>hc d (mem_cons_of_mem _ hd)) (fun d hd=>he d (mem_cons_of_mem _ hd)) (by simp at hl ⊢;omega)]
   rw [List.filter_cons_of_pos hcd,map_cons,append_assoc];rfl
theorem Jb {s:Sh} {i:Nat} {fi:FI} {fc:FB} {fe:F1} {c:D->Bool} {f:D->PV} {ds:List D} {st:Bool} {Γ:Ev} (hi:fi Γ=.ok ⟨ds,st⟩ Γ) (hl:i<Γ.length) (hs:s.isView=false) (hn:ds.length<=1000)
  (hc:∀d∈ds,fc (Γ.set i (some ⟨.leaf,d⟩))=.ok (c d) (Γ.set i (some ⟨.leaf,d⟩))) (he:∀d∈ds,c d=true->fe (Γ.set i (some ⟨.leaf,d⟩))=.ok (f d) (Γ.set i (some ⟨.leaf,d⟩))/\coer s (f d)=true) :
  aN s i fi fc fe Γ=.ok ⟨.lst s,.list ((ds.filter c).map fun d=>(f d).d)⟩ Γ:=by
 have hb:=Dw
 unfold aN;rw [hi];unfold Out.bind;dsimp only;rw [Jl (c:=c) (f:=f) (by rw [set_set]) ds [] (fun d hd=>by rw [set_set];exact hc d hd) (fun d hd=>by rw [set_set];exact he d hd) (by simp;omega)]
 dsimp only;rw [hs,decide_eq_true hl];simp only [Bool.not_false,Bool.and_self,if_true,nil_append,set_set]
 have:Γ.set i (Γ.getD i none)=Γ:=by
  apply Eg
  rw [getD_eq_getElem?_getD,getElem?_eq_getElem hl];rfl
 rw [this]
theorem DL {s:Sh} {i:Nat} {fi:FI} {fe:F1} {f:D->PV} {ds:List D} {st:Bool} {Γ:Ev} (hi:fi Γ=.ok ⟨ds,st⟩ Γ) (hl:i<Γ.length) (hs:s.isView=false) (hn:ds.length<=1000)
  (he:∀d∈ds,fe (Γ.set i (some ⟨.leaf,d⟩))=.ok (f d) (Γ.set i (some ⟨.leaf,d⟩))/\coer s (f d)=true) :
  aN s i fi bD fe Γ=.ok ⟨.lst s,.list (ds.map fun d=>(f d).d)⟩ Γ:=by
 rw [Jb (fc:=bD) (c:=fun _=>true) (f:=f) hi hl hs hn (fun d hd=>rfl) fun d hd _=>he d hd,List.filter_eq_self.mpr fun _ _=>rfl]
theorem IA {P:Nat->Ev->Prop} {i:Nat} {body:FS}:∀(ds:List D) (n:Nat) (Γ:Ev),P n Γ->(∀k d Γ,d∈ds->n<=k->k<n+ds.length->P k Γ->i<Γ.length/\∃Γ',body (Γ.set i (some ⟨.leaf,d⟩))=.nx Γ'/\P (k+1) Γ')->∃Γ',cD i body ds Γ=.nx Γ'/\P (n+ds.length) Γ'
 | [],n,Γ,h,_=>⟨Γ,rfl,h⟩
 | d::r,n,Γ,h,st=>by
  obtain ⟨hi,Γ1,e1,h1⟩:=st n d Γ mem_cons_self (Nat.le_refl _) (by simp) h
  obtain ⟨Γ2,e2,h2⟩:=IA r (n+1) Γ1 h1 fun k d Γ hd a b c=>st k d Γ (mem_cons_of_mem _ hd) (by omega) (by simp;omega) c
  refine ⟨Γ2,?_,?_⟩
  ·rw [cD,if_pos hi,e1]
   exact e2
  ·rw [length_cons,show n+(r.length+1)=n+1+r.length by omega]
   exact h2
theorem vB {any:Bool} {α:Type} {xs:List α} {f:α->Bool}:cJ (xs.map fun x=>.bool (f x))=some (xs.map f):=by
 induction xs with
 | nil=>rfl
 | cons x r ih=>rw [map_cons,cJ,ih];rfl
theorem zg {α:Type} {xs:List α} {f:α->Bool}:gJ false [.list (xs.map fun x=>.bool (f x))]=some (.bool (xs.all f)):=by
 show Option.map _ (cJ _)=_
 rw [vB (any:=false)];simp [List.all_map]
section
variable {Γ Γ1 Γ2:Ev} {fa fb fc:F1} {fl:FL} {p q:PV} {ps:List PV} {d e:D} {s s' s2:Sh} {i j n:Nat}
theorem aD (h:Γ[i]?=some (some ⟨.leaf,d⟩)):af i Γ=.ok ⟨.leaf,d⟩ Γ:=by unfold af;rw [h]
theorem Ew (h:Γ[i]?=some (some ⟨.lst s,d⟩)):af i Γ=.ok ⟨.view,d⟩ Γ:=by unfold af;rw [h]
theorem Hk (h:Γ[i]?=some (some p)):cP i Γ=.ok p (Γ.set i none):=by unfold cP;rw [h]
theorem aX:eK d Γ=.ok ⟨.leaf,d⟩ Γ:=rfl
theorem aQ {g:D->D->Option D} (ha:fa Γ=.ok p Γ1) (hb:fb Γ1=.ok q Γ2) (hg:g p.d q.d=some d):ay g fa fb Γ=.ok ⟨.leaf,d⟩ Γ2:=by
 unfold ay aY;rw [ha];simp only [Out.bind];rw [hb];simp only [hg]
theorem KN {g:D->Option D} (ha:fa Γ=.ok p Γ1) (hg:g p.d=some d):eU g fa Γ=.ok ⟨.leaf,d⟩ Γ1:=by
 unfold eU aY;rw [ha];simp only [Out.bind,hg]
theorem aw (ha:fa Γ=.ok p Γ1) (hl:fl Γ1=.ok ps Γ2):ae fa fl Γ=.ok (p::ps) Γ2:=by
 unfold ae;rw [ha];simp only [Out.bind];rw [hl]
theorem ai:ah Γ=.ok [] Γ:=rfl
theorem dU {g:List D->Option D} (hl:fl Γ=.ok ps Γ1) (hg:g (ps.map (·.d))=some d):bW g fl Γ=.ok ⟨.leaf,d⟩ Γ1:=by
 unfold bW;rw [hl];simp only [Out.bind];rw [hg]
theorem df {den:List D->bA} (hl:fl Γ=.ok ps Γ1) (hd:den (ps.map (·.d))=.ok p) (hn:ps.length=n) (hc:ps.all (coer .leaf)=true):aj n den fl Γ=.ok p Γ1:=by
 unfold aj;rw [hl];simp only [Out.bind,hn,hd,hc,if_true]
theorem wD {ds:List D} {k:Int} (ha:fa Γ=.ok ⟨s,.list ds⟩ Γ1) (hb:fb Γ1=.ok ⟨s',.int k⟩ Γ2) (hi:gH ds.length k=some j) (hd:ds[j]?=some d) (hs:cm s j d=some s2):av fa fb Γ=.ok ⟨s2,d⟩ Γ2:=by
 unfold av aY;rw [ha];simp only [Out.bind];rw [hb];simp only [hi,hd,hs]
theorem Dt {ds:List D} {k:Int} (ha:fa Γ=.ok ⟨s,.tuple ds⟩ Γ1) (hb:fb Γ1=.ok ⟨s',.int k⟩ Γ2) (hi:gH ds.length k=some j) (hd:ds[j]?=some d) (hs:cm s j d=some s2):av fa fb Γ=.ok ⟨s2,d⟩ Γ2:=by
 unfold av aY;rw [ha];simp only [Out.bind];rw [hb];simp only [hi,hd,hs]
theorem AG {x:Str} {k:Int} {c:Nat} (ha:fa Γ=.ok ⟨s,.str x⟩ Γ1) (hb:fb Γ1=.ok ⟨s',.int k⟩ Γ2) (hn:x.length<=sizeLine) (hi:fY x.cps.toList k=some c):av fa fb Γ=.ok ⟨.leaf,.str ⟨#[c]⟩⟩ Γ2:=by
 unfold av aY;rw [ha];simp only [Out.bind];rw [hb];simp only [hi,hn,if_true]
theorem jA (hl:fl Γ=.ok ps Γ1) (hs:s.isView=false) (hc:ps.all (coer s)=true) (hn:decide (ps.length<=1000)=true):aG s fl Γ=.ok ⟨.lst s,.list (ps.map (·.d))⟩ Γ1:=by
 have h2:ps.length<=sizeLine:=Nat.le_trans (of_decide_eq_true hn) Dw
 unfold aG;rw [hl];simp only [Out.bind,hs,hc,decide_eq_true h2,Bool.not_false,Bool.and_self,if_true]
theorem bQ (hl:fl Γ=.ok ps Γ1) (hc:ps.all tok=true) (hn:decide (ps.length<=1000)=true):bx fl Γ=.ok ⟨.tup (ps.map AM),.tuple (ps.map (·.d))⟩ Γ1:=by
 have h2:ps.length<=sizeLine:=Nat.le_trans (of_decide_eq_true hn) Dw
 unfold bx;rw [hl];simp only [Out.bind,hc,decide_eq_true h2,Bool.and_self,if_true]
theorem tw {ds:List D} (ha:fa Γ=.ok ⟨s,.list ds⟩ Γ1) (ho:aH ⟨s,.list ds⟩ ds=true):et fa Γ=.ok ⟨.lst .leaf,.list ds⟩ Γ1:=by
 unfold et aY;rw [ha];simp only [Out.bind,ho,if_true]
theorem v_and {a b:Bool} (ha:fa Γ=.ok ⟨s,.bool a⟩ Γ) (hb:fb Γ=.ok ⟨.leaf,.bool b⟩ Γ):jo fa fb Γ=.ok ⟨.leaf,.bool (a&&b)⟩ Γ:=by
 unfold jo aY;rw [ha];simp only [Out.bind]
 cases a with
 | false=>rfl
 | true=>exact hb
theorem o8 {g g':D->D->Option D} {b b':Bool} (ha:fa Γ=.ok p Γ) (hb:fb Γ=.ok q Γ) (hg:g p.d q.d=some (.bool b)) (hs:bL q.d=true) {z:PV} (hc:fc Γ=.ok z Γ) (hg':g' q.d z.d=some (.bool b')):dn g g' fa fb fc Γ=.ok ⟨.leaf,.bool (b&&b')⟩ Γ:=by
 unfold dn aY;rw [ha];simp only [Out.bind];rw [hb];simp only [hg]
 cases b with
 | false=>rfl
 | true=>simp only [hs,if_true,hc,hg',Bool.true_and]
theorem zt {ds:List D} {k:Int} (ha:fa Γ=.ok ⟨.lst .leaf,.list ds⟩ Γ1) (hb:fb Γ1=.ok ⟨s',.int k⟩ Γ2) (h0:-1000<=k) (h1:k<=1000) (hn:ds.length*k.toNat<=1000):kZ fa fb Γ=.ok ⟨.lst .leaf,.list (List.replicate k.toNat ds).flatten⟩ Γ2:=by
 have h2:ds.length*k.toNat<=sizeLine:=Nat.le_trans hn Dw
 have h3:cH k=true:=by unfold cH;simp only [Bool.and_eq_true,decide_eq_true_eq];omega
 unfold kZ aY;rw [ha];simp only [Out.bind];rw [hb];simp only [h3,decide_eq_true h2,Bool.and_self,if_true]
theorem eO (ha:fa Γ=.ok ⟨s,.bool b⟩ Γ1):aO ao fa Γ=.ok b Γ1:=by unfold aO;rw [ha];rfl
theorem iF (ha:fa Γ=.ok ⟨s,.bool b⟩ Γ1):aO bY fa Γ=.ok b Γ1:=by unfold aO;rw [ha];rfl
theorem jv {ga:FB} {b:Bool} (h:ga Γ=.ok b Γ1):cU ga Γ=.ok (!b) Γ1:=by unfold cU;rw [h];rfl
theorem fz {ga gb:FB} {a b:Bool} (ha:ga Γ=.ok a Γ) (hb:gb Γ=.ok b Γ):eN ga gb Γ=.ok (a||b) Γ:=by
 unfold eN;rw [ha];simp only [Out.bind]
 cases a with
 | false=>exact hb
 | true=>rfl
theorem eB {ds:List D} (ha:fa Γ=.ok ⟨s,.list ds⟩ Γ1) (ho:aH ⟨s,.list ds⟩ ds=true):b9 fa Γ=.ok ⟨ds,!s.isView⟩ Γ1:=by
 unfold b9;rw [ha];simp only [Out.bind,ho,if_true]
theorem sS {k:Int} (hl:fl Γ=.ok ps Γ1) (hp:ps.map (·.d)=[.int k]) (h0:-1000<=k) (h1:k<=100000):hU fl Γ=.ok ⟨cj 0 k.toNat,true⟩ Γ1:=by
 have h3:cH k=true:=by unfold cH;simp only [Bool.and_eq_true,decide_eq_true_eq];omega
 unfold hU;rw [hl];simp only [Out.bind,hp,jG,h3,if_true]
theorem Jw {k m:Int} (hl:fl Γ=.ok ps Γ1) (hp:ps.map (·.d)=[.int k,.int m]) (h0:-1000<=k) (h1:k<=100000) (h2:-1000<=m) (h4:m<=100000):ym fl Γ=.ok ⟨cj k (m-k).toNat,true⟩ Γ1:=by
 have h3:cH k=true:=by unfold cH;simp only [Bool.and_eq_true,decide_eq_true_eq];omega
 have h5:cH m=true:=by unfold cH;simp only [Bool.and_eq_true,decide_eq_true_eq];omega
 unfold ym;rw [hl];simp only [Out.bind,hp,qP,h3,h5,Bool.and_self,if_true]
theorem aB {g1 g2:FS} {o:dr} (h1:g1 Γ=.nx Γ1) (h2:g2 Γ1=o):ak g1 g2 Γ=o:=by unfold ak;rw [h1];exact h2
theorem sE {g1 g2:FS} (h1:g1 Γ=.rt p):ak g1 g2 Γ=.rt p:=by unfold ak;rw [h1]
theorem bJ {c:FB} {a b:FS} {t:Bool} {o:dr} (hc:c Γ=.ok t Γ1) (ht:t=true->a Γ1=o) (hf:t=false->b Γ1=o):bO c a b Γ=o:=by
 unfold bO;rw [hc]
 cases t with
 | true=>exact ht rfl
 | false=>exact hf rfl
theorem bg (h:fa Γ=.ok p Γ1) (hs:p.s.isView=false):aS fa Γ=.rt p:=by
 unfold aS kc;rw [h];simp only [hs];rfl
theorem ez (h:fa Γ=.ok p Γ1) (hc:coer .leaf p=true) (hi:i<Γ1.length):aE false i fa Γ=.nx (Γ1.set i (some ⟨.leaf,p.d⟩)):=by
 unfold aE kc;rw [h];simp only [hi,if_true,hc,Bool.false_and];rfl
theorem Hm (h:fa Γ=.ok p Γ1) (hs:p.s.isView=false) (hi:i<Γ1.length):aE true i fa Γ=.nx (Γ1.set i (some p)):=by
 unfold aE kc;rw [h];simp only [hi,if_true,hs,Bool.true_and,Bool.not_false]
theorem IL {ds:List D} (ho:Γ[i]?=some (some ⟨.lst s,.list ds⟩)) (h:fa Γ=.ok p Γ) (hc:coer s p=true) (hn:ds.length<=900):aV i fa Γ=.nx (Γ.set i (some ⟨.lst s,.list (ds++[p.d])⟩)):=by
 have h2:ds.length<sizeLine:=Nat.lt_of_lt_of_le (by omega:ds.length<1000) Dw
 unfold aV hJ;rw [ho];simp only [if_true];unfold kc;rw [h];simp only;unfold yY;rw [ho];simp only [hc,decide_eq_true h2,Bool.and_self,if_true]
theorem iu {fi:FI} {body:FS} {ds:List D} {o:dr} (h:fi Γ=.ok ⟨ds,true⟩ Γ1) (hg:cD i body ds Γ1=o):eJ i fi body Γ=o:=by unfold eJ;rw [h];exact hg
end
end T
namespace KC
open PySem PySem.Spec L2 T
open PyProof.Rows hiding St
noncomputable def bI:PySem.PyData:=.tuple [.str "a",.str "b",.str "c",.str "d",.str "e",.str "f"]
noncomputable def cR:PySem.PyData:=.tuple [.int 0,.int 1]
noncomputable def cG:PySem.PyData:=.int 24
noncomputable def cb:PySem.PyData:=.int 200
noncomputable def cf:PySem.PyData:=.int 24
noncomputable def dB:List (Str×Int):=[("yes",0),("not",1),("some next",1),("all next",1),("some always",1),("all always",1),("and",2),("or",2),("some until",2),("all until",2)]
noncomputable def m9:FS:=(aS (bW (gJ false) (ae (aN .leaf 1 (ym (ae (eK (.int 1)) (ae (bW bt (ae (af 0) ah)) ah))) bD (ay iV (av (af 0) (ay gSub (af 1) (eK (.int 1)))) (av (af 0) (af 1)))) ah)))
noncomputable def dD:List PySem.PyData->bA:=aA 2 m9
noncomputable def ni:FS:=(aS (jo (bW (gJ false) (ae (aN .leaf 1 (b9 (af 0)) bD (ay (dS false) (af 1) (eK bI))) ah)) (aj 1 dD (ae (af 0) ah))))
noncomputable def dF:List PySem.PyData->bA:=aA 2 ni
noncomputable def nh:FS:=(aS (jo (bW (gJ false) (ae (aN .leaf 2 (b9 (af 0)) bD (dn CM iV (eK (.int 0)) (af 2) (af 1))) ah)) (aj 1 dD (ae (af 0) ah))))
noncomputable def cZ:List PySem.PyData->bA:=aA 3 nh
noncomputable def nc:FS:=(aS (jo (ay jz (bW bt (ae (af 0) ah)) (eK (.int 0))) (aj 2 cZ (ae (af 0) (ae (af 1) ah)))))
noncomputable def dE:List PySem.PyData->bA:=aA 2 nc
noncomputable def oM:FS:=(ak (aE false 3 (bW bt (ae (af 0) ah)))
  (ak (bO (eN (aO ao (ay iV (af 3) (eK (.int 1)))) (eN (aO ao (ay jz (af 3) (eK cG))) (eN (aO ao (ay qf (bW bt (ae (af 1) ah)) (af 3))) (aO ao (ay qf (bW bt (ae (af 2) ah)) (af 3)))))) (aS (eK (.bool false))) aP)
  (ak (bO (cU (aO bY (bW (gJ false) (ae (aN .leaf 4 (b9 (af 0)) bD (ay (dS false) (af 4) (eK cR))) ah)))) (aS (eK (.bool false))) aP)
  (aS (jo (bW (gJ false) (ae (aN .leaf 5 (b9 (af 1)) bD (aj 1 dF (ae (af 5) ah))) ah)) (bW (gJ false) (ae (aN .leaf 5 (b9 (af 2)) bD (aj 2 dE (ae (af 5) (ae (af 3) ah)))) ah)))))))
noncomputable def d9:List PySem.PyData->bA:=aA 6 oM
noncomputable def jZ:FS:=(bO (cU (aO bY (aj 3 d9 (ae (av (af 0) (eK (.int 0))) (ae (av (af 0) (eK (.int 1))) (ae (av (af 0) (eK (.int 2))) ah)))))) fm aP)
noncomputable def aF:List PySem.PyData->bA:=aA 1 jZ
noncomputable def cB:FS:=(aS (nJ (aO ao (ay aZ (av (af 0) (eK (.int 0))) (eK (.str "mark")))) (bx ah) (rN (af 0) (eK (.int 1)))))
noncomputable def aT:List PySem.PyData->bA:=aA 1 cB
noncomputable def bq:FS:=(ak (bO (eN (cU (aO bY (mX "tuple" (af 0)))) (eN (aO ao (ay aZ (bW bt (ae (af 0) ah)) (eK (.int 0)))) (cU (aO bY (mX "str" (av (af 0) (eK (.int 0)))))))) (aS (eK (.bool false))) aP)
  (ak (bO (aO ao (ay aZ (av (af 0) (eK (.int 0))) (eK (.str "mark")))) (aS (jo (ay aZ (bW bt (ae (af 0) ah)) (eK (.int 2))) (ay (dS false) (av (af 0) (eK (.int 1))) (eK bI)))) aP)
  (aS (jo (vM false dB (av (af 0) (eK (.int 0)))) (ay aZ (bW bt (ae (af 0) ah)) (ay aW (eK (.int 1)) (qo dB (av (af 0) (eK (.int 0))))))))))
noncomputable def aL:List PySem.PyData->bA:=aA 1 bq
noncomputable def eZ:FS:=(ak (aE true 1 (aG .leaf ah))
  (ak (eJ 2 (b9 (af 0))
  (jF 1 (aj 1 aT (ae (af 2) ah))))
  (aS (cP 1))))
noncomputable def bR:List PySem.PyData->bA:=aA 3 eZ
noncomputable def dJ:FS:=(ak (aE true 1 (aG .leaf ah))
  (ak (aE false 2 (aG .leaf (ae (af 0) ah)))
  (ak (aE false 3 (eK (.int 0)))
  (ak (gW 1000 (aO bY (af 2))
  (ak (gv 3 (bW bt (ae (af 2) ah)))
  (ak (bO (eN (aO ao (ay jz (af 3) (eK cb))) (eN (aO ao (ay aZ (bW bt (ae (af 1) ah)) (eK cf))) (cU (aO bY (bW (gJ false) (ae (aN .leaf 4 (b9 (af 2)) bD (aj 1 aL (ae (af 4) ah))) ah)))))) (aS (eK .none)) aP)
  (ak (aV 1 (af 2))
  (aE false 2 (aj 1 bR (ae (af 2) ah)))))))
  (aS (cP 1))))))
noncomputable def cC:List PySem.PyData->bA:=aA 5 dJ
noncomputable def dY:FS:=(ak (aE false 1 (aj 1 cC (ae (af 0) ah)))
  (ak (bO (aO ao (ay (jN false) (af 1) (eK .none))) fm aP)
  (aS (af 1))))
noncomputable def cQ:List PySem.PyData->bA:=aA 2 dY
noncomputable def dZ:FS:=(aR (aj 1 cQ (ae (af 0) ah)))
noncomputable def bG:List PySem.PyData->bA:=aA 1 dZ
noncomputable def js:FS:=(ak (bO (aO ao (ay iV (af 1) (bW bt (ae (af 0) ah)))) (aS (av (af 0) (af 1))) aP)
  (aS (eK (.int 0))))
noncomputable def aC:List PySem.PyData->bA:=aA 2 js
noncomputable def nk:FS:=(ak (bO (aO ao (ay oy (af 0) (ay jL (eK (.int 10)) (eK (.int 18))))) (ak (aE false 4 (af 0))
  (ak (eJ 5 (hU (ae (af 1) ah))
  (aE false 4 (ay hV (af 4) (af 2))))
  (aS (ay bN (af 4) (af 2))))) aP)
  (ak (aE false 3 (ay bN (ay jM (ay aW (ay aW (ay bN (af 0) (eK (.int 1000000007))) (ay jM (eK (.int 1009)) (af 1))) (eK (.int 17))) (eK (.int 69621))) (eK (.int 2147483647))))
  (ak (aE false 3 (ay bN (ay aW (ay aW (ay jM (af 3) (af 3)) (ay jM (eK (.int 40503)) (af 1))) (eK (.int 5))) (eK (.int 2147483629))))
  (aS (ay bN (ay hV (ay bN (ay jM (af 3) (eK (.int 48271))) (eK (.int 2147483647))) (eK (.int 32))) (af 2))))))
noncomputable def az:List PySem.PyData->bA:=aA 6 nk
noncomputable def d__law_world:FS:=(ak (aE false 3 (ay aW (eK (.int 1)) (ay bN (aj 2 aC (ae (af 0) (ae (af 1) ah))) (af 2))))
  (ak (aE true 4 (aG .leaf ah))
  (ak (aE true 5 (aG .leaf ah))
  (ak (aE true 6 (aG .leaf ah))
  (ak (eJ 7 (hU (ae (af 3) ah))
  (ak (aE false 8 (aj 2 aC (ae (af 0) (ae (ay aW (ay aW (af 1) (eK (.int 1))) (af 7)) ah))))
  (ak (aV 4 (aj 3 az (ae (af 8) (ae (eK (.int 0)) (ae (eK (.int 2)) ah)))))
  (ak (aV 5 (aN .leaf 11 (hU (ae (eK (.int 3)) ah)) (aO ao (ay aZ (aj 3 az (ae (af 8) (ae (ay aW (eK (.int 1)) (af 11)) (ae (eK (.int 2)) ah)))) (eK (.int 1)))) (av (eK (.str "abc")) (af 11))))
  (ak (aE false 9 (aN .leaf 10 (hU (ae (af 3) ah)) (aO ao (ay aZ (aj 3 az (ae (af 8) (ae (ay aW (eK (.int 4)) (af 10)) (ae (ay aW (eK (.int 2)) (bW ox (ae (ay jz (af 3) (eK (.int 3))) ah))) ah)))) (eK (.int 1)))) (af 10)))
  (ak (bO (aO ao (ay aZ (af 9) (aG .leaf ah))) (aE false 9 (aG .leaf (ae (aj 3 az (ae (af 8) (ae (ay aW (eK (.int 4)) (af 3)) (ae (af 3) ah)))) ah))) aP)
  (aV 6 (af 9))))))))
  (aS (bx (ae (cP 4) (ae (cP 5) (ae (cP 6) ah))))))))))
noncomputable def m__law_world:List PySem.PyData->bA:=aA 12 d__law_world
noncomputable def iR:FS:=(ak (aE false 3 (aG .leaf (ae (eK (.str "mark")) (ae (eK (.str "mark")) (ae (eK (.str "not")) (ae (eK (.str "and")) (ae (eK (.str "some until")) (ae (eK (.str "all until")) (ae (eK (.str "some next")) (ae (eK (.str "all next")) (ae (eK (.str "some always")) ah)))))))))))
  (ak (aE false 3 (gL (af 3) (aG .leaf (ae (eK (.str "all always")) (ae (eK (.str "or")) (ae (eK (.str "yes")) ah))))))
  (ak (aE true 4 (aG .leaf (ae (bx (ae (eK (.str "mark")) (ae (av (eK (.str "abc")) (aj 3 az (ae (aj 2 aC (ae (af 0) (ae (af 1) ah))) (ae (eK (.int 3)) (ae (eK (.int 3)) ah))))) ah))) ah)))
  (ak (eJ 5 (ym (ae (eK (.int 1)) (ae (af 2) ah)))
  (ak (aE false 6 (aj 2 aC (ae (af 0) (ae (ay aW (af 1) (af 5)) ah))))
  (ak (aE false 7 (av (af 3) (aj 3 az (ae (af 6) (ae (eK (.int 0)) (ae (eK (.int 12)) ah))))))
  (ak (aE false 8 (vN 4 (ay gSub (eU iN (eK (.int 1))) (ay bN (aj 3 az (ae (af 6) (ae (eK (.int 1)) (ae (eK (.int 2)) ah)))) (bW bt (ae (af 4) ah))))))
  (ak (aE false 9 (vN 4 (ay bN (aj 3 az (ae (af 6) (ae (eK (.int 2)) (ae (eK (.int 60)) ah)))) (bW bt (ae (af 4) ah)))))
  (bO (aO ao (ay aZ (af 7) (eK (.str "yes")))) (aV 4 (bx (ae (eK (.str "yes")) ah))) (bO (aO ao (ay aZ (af 7) (eK (.str "mark")))) (aV 4 (bx (ae (eK (.str "mark")) (ae (av (eK (.str "abc")) (aj 3 az (ae (af 6) (ae (eK (.int 3)) (ae (eK (.int 3)) ah))))) ah)))) (bO (aO ao (ay (dS false) (af 7) (bx (ae (eK (.str "and")) (ae (eK (.str "or")) (ae (eK (.str "some until")) (ae (eK (.str "all until")) ah))))))) (aV 4 (bx (ae (af 7) (ae (af 9) (ae (af 8) ah))))) (aV 4 (bx (ae (af 7) (ae (af 8) ah))))))))))))
  (aS (vN 4 (eU iN (eK (.int 1)))))))))
noncomputable def iL:List PySem.PyData->bA:=aA 10 iR
noncomputable def ll (r__law_count:List PySem.PyData->bA):FS:=(aS (ay aW (eK (.int 1)) (bW Km (ae (aN .leaf 1 (dH (rN (af 0) (eK (.int 1)))) (aO bY (mX "tuple" (af 1))) (aj 1 r__law_count (ae (af 1) ah))) ah))))
noncomputable def gA:Nat->List PySem.PyData->bA
 | 0=>fun _=>.no
 | n+1=>aA 2 (ll (gA n))
noncomputable def kS:List PySem.PyData->bA:=gA 20
open PySem.SeqAt
noncomputable def Ia (a b:D):Bool:=match iV a b with
 | some (.bool t)=>t
 | _=>false
noncomputable def fA (ds:List D):Prop:=∀a∈ds,∃n,a=.int n
noncomputable def oW (ds:List D):Prop:=∀a∈ds,∃x,a=.str x/\PyData.strOk x=true
noncomputable def Row (ds:List D):Prop:=fA ds\/oW ds
theorem D3 (i:Int):shaped (.int i)=true:=by simp [shaped,PyData.canLay0,PyData.depth]
theorem D4 {x:Str} (h:PyData.strOk x=true):shaped (.str x)=true:=by simp [shaped,PyData.canLay0,PyData.depth,h]
theorem Row.lt {ds:List D} {a b:D} (h:Row ds) (ha:a∈ds) (hb:b∈ds):iV a b=some (.bool (Ia a b))/\oy a b=some (.bool (!Ia a b)):=by
 rcases h with h | h
 ·obtain ⟨n,rfl⟩:=h a ha
  obtain ⟨m,rfl⟩:=h b hb;refine ⟨rfl,?_⟩
  show some (PyData.bool (decide (m<=n)))=some (.bool (!decide (n<m)))
  congr 2
  by_cases q:n<m
  ·simp [q,Int.not_le.mpr q]
  ·simp [q,Int.not_lt.mp q]
 ·obtain ⟨n,rfl,_⟩:=h a ha
  obtain ⟨m,rfl,_⟩:=h b hb;exact ⟨rfl,rfl⟩
noncomputable def zS (ds:List D) (d:D):Bool:=match d with
 | .int j=>Ia (ds.getD (j-1).toNat .none) (ds.getD j.toNat .none)
 | _=>false
noncomputable def dg (ds:List D):Bool:=(cj 1 ((ds.length:Int)-1).toNat).all (zS ds)
theorem zi {lo:Int} {n:Nat} {d:D} (h:d∈cj lo n):∃k:Nat,k<n/\d=.int (lo+k):=by
 unfold cj at h;simp only [List.mem_map,mem_range] at h
 obtain ⟨k,hk,e⟩:=h;exact ⟨k,hk,e.symm⟩
theorem Do {lo:Int} {n:Nat}:(cj lo n).length=n:=by unfold cj;simp
theorem Iq {n:Nat} {k:Nat} (h:k<n):gH n (k:Int)=some k:=by
 unfold gH;rw [if_pos (by omega),if_pos (by omega)]
 simp
theorem FT {n:Nat} {i:Int} (h0:0<=i) (h1:i<n):gH n i=some i.toNat:=by
 unfold gH;rw [if_pos h0,if_pos h1]
theorem Cz {i:Int} (h0:-1000<=i) (h1:i<=100000):cH i=true:=by
 unfold cH;simp only [Bool.and_eq_true,decide_eq_true_eq]
 omega
theorem Hb {ds:List D} {k:Nat} (h:k<ds.length):ds[k]?=some (ds.getD k .none):=by
 rw [getD_eq_getElem?_getD,getElem?_eq_getElem h];rfl
theorem getD_mem {ds:List D} {k:Nat} (h:k<ds.length):ds.getD k .none∈ds:=mem_of_getElem? (Hb h)
theorem FM {ds:List D} {k:Nat} (h:Row ds) (hk:k<((ds.length:Int)-1).toNat):gH ds.length (1+(k:Int)-1)=some k/\gH ds.length (1+(k:Int))=some (k+1)/\ds[k]?=some (ds.getD k .none)/\ds[k+1]?=some (ds.getD (k+1) .none) /\
  iV (ds.getD k .none) (ds.getD (k+1) .none)=some (.bool (zS ds (.int (1+(k:Int)))))/\oy (ds.getD k .none) (ds.getD (k+1) .none)=some (.bool (!zS ds (.int (1+(k:Int))))):=by
 have h1:k<ds.length:=by omega
 have h2:k+1<ds.length:=by omega
 have l:=h.lt (getD_mem h1) (getD_mem h2)
 have e3:zS ds (.int (1+(k:Int)))=Ia (ds.getD k .none) (ds.getD (k+1) .none):=by
  unfold zS;dsimp only;rw [show (1+(k:Int)-1).toNat=k by omega,show (1+(k:Int)).toNat=k+1 by omega]
 rw [e3];exact ⟨by rw [show (1+(k:Int)-1)=k by omega];exact Iq h1,by rw [show (1+(k:Int))=((k+1:Nat):Int) by omega];exact Iq h2,Hb h1,Hb h2,l.1,l.2⟩
theorem bh {n:Nat} {g:FS} {ds:List D} {p:PV} (h:g (aq n ds)=.rt p):aA n g ds=.ok p:=by unfold aA;rw [h]
theorem eq_int {a b:Int}:aZ (.int a) (.int b)=some (.bool (a==b)):=by
 unfold aZ;rw [D3,D3,Bool.and_self,if_pos rfl,PyData.eqv]
theorem fP {ds:List D} (h:Row ds) (hl:ds.length<=100):dD [.list ds]=.ok ⟨.leaf,.bool (dg ds)⟩:=by
 have hc:aN .leaf 1 (ym (ae (eK (.int 1)) (ae (bW bt (ae (af 0) ah)) ah))) bD (ay iV (av (af 0) (ay gSub (af 1) (eK (.int 1)))) (av (af 0) (af 1))) [some ⟨.leaf,.list ds⟩,none] =
   .ok ⟨.lst .leaf,.list ((cj 1 ((ds.length:Int)-1).toNat).map fun d=>.bool (zS ds d))⟩ [some ⟨.leaf,.list ds⟩,none]:=by
  refine DL (f:=fun d=>⟨.leaf,.bool (zS ds d)⟩) (st:=true) (Jw (k:=1) (m:=(ds.length:Int)) (aw aX (aw (dU (aw (aD rfl) ai) rfl) ai)) rfl (by omega) (by omega) (by omega) (by omega)) (by simp) rfl (by rw [Do];omega) fun d hd=>⟨?_,rfl⟩
  obtain ⟨k,hk,rfl⟩:=zi hd;obtain ⟨e1,e2,e3,e4,e5,e6⟩:=FM h hk;exact aQ (wD (aD rfl) (aQ (aD rfl) aX rfl) e1 e3 rfl) (wD (aD rfl) (aD rfl) e2 e4 rfl) e5
 exact bh (bg (dU (aw hc ai) zg) rfl)
noncomputable def wL (a:D):Bool:=[PyData.str "a",.str "b",.str "c",.str "d",.str "e",.str "f"].any fun y=>PyData.eqv y a
noncomputable def FW (a:D):Bool:=[PyData.int 0,.int 1].any fun y=>PyData.eqv y a
noncomputable def inR (n:Int) (a:D):Bool:=match a with
 | .int i=>decide (0<=i)&&decide (i<n)
 | _=>false
noncomputable def DU (d:D):Bool:=match d with
 | .list xs=>xs.all wL&&dg xs
 | _=>false
noncomputable def HQ (n:Int) (d:D):Bool:=match d with
 | .list xs=>decide (0<xs.length)&&(xs.all (inR n)&&dg xs)
 | _=>false
theorem t9:shaped bI=true:=by decide +kernel
theorem EJ:shaped cR=true:=by decide +kernel
theorem vm {x:Str} (hx:PyData.strOk x=true):dS false (.str x) bI=some (.bool (wL (.str x))):=by
 unfold dS bI;have:=t9
 unfold bI at this;simp only [D4 hx,this,Bool.and_self,if_true]
 rfl
theorem FV {i:Int}:dS false (.int i) cR=some (.bool (FW (.int i))):=by
 unfold dS cR;have:=EJ
 unfold cR at this;simp only [D3,this,Bool.and_self,if_true]
 rfl
theorem jX {ds:List D} (h:oW ds) (hl:ds.length<=100):dF [.list ds]=.ok ⟨.leaf,.bool (ds.all wL&&dg ds)⟩:=by
 have hc:aN .leaf 1 (b9 (af 0)) bD (ay (dS false) (af 1) (eK bI)) [some ⟨.leaf,.list ds⟩,none]=.ok ⟨.lst .leaf,.list (ds.map fun d=>.bool (wL d))⟩ [some ⟨.leaf,.list ds⟩,none]:=by
  refine DL (f:=fun d=>⟨.leaf,.bool (wL d)⟩) (eB (aD rfl) rfl) (by simp) rfl (by omega) fun d hd=>⟨?_,rfl⟩
  obtain ⟨x,rfl,hx⟩:=h d hd;exact aQ (aD rfl) aX (vm hx)
 exact bh (bg (v_and (dU (aw hc ai) zg) (df (aw (aD rfl) ai) (fP (.inr h) hl) rfl rfl)) rfl)
theorem chain_ev {i n:Int}:CM (.int 0) (.int i)=some (.bool (decide (0<=i)))/\iV (.int i) (.int n)=some (.bool (decide (i<n))):=⟨rfl,rfl⟩
theorem fQ {ds:List D} {n:Int} (h:fA ds) (hl:ds.length<=100):cZ [.list ds,.int n]=.ok ⟨.leaf,.bool (ds.all (inR n)&&dg ds)⟩:=by
 have hc:aN .leaf 2 (b9 (af 0)) bD (dn CM iV (eK (.int 0)) (af 2) (af 1)) [some ⟨.leaf,.list ds⟩,some ⟨.leaf,.int n⟩,none]=.ok ⟨.lst .leaf,.list (ds.map fun d=>.bool (inR n d))⟩ [some ⟨.leaf,.list ds⟩,some ⟨.leaf,.int n⟩,none]:=by
  refine DL (f:=fun d=>⟨.leaf,.bool (inR n d)⟩) (eB (aD rfl) rfl) (by simp) rfl (by omega) fun d hd=>⟨?_,rfl⟩
  obtain ⟨i,rfl⟩:=h d hd;exact o8 aX (aD rfl) (chain_ev (n:=n)).1 rfl (aD rfl) chain_ev.2
 exact bh (bg (v_and (dU (aw hc ai) zg) (df (aw (aD rfl) ai) (fP (.inl h) hl) rfl rfl)) rfl)
theorem jW {ds:List D} {n:Int} (h:fA ds) (hl:ds.length<=100):dE [.list ds,.int n]=.ok ⟨.leaf,.bool (decide (0<ds.length)&&(ds.all (inR n)&&dg ds))⟩:=by
 have e:jz (.int (ds.length:Nat)) (.int 0)=some (.bool (decide (0<ds.length))):=by
  show some (PyData.bool (decide ((0:Int)<(ds.length:Int))))=_
  congr 2
  exact decide_eq_decide.mpr (by omega)
 exact bh (bg (v_and (aQ (dU (aw (aD rfl) ai) rfl) aX e) (df (aw (aD rfl) (aw (aD rfl) ai)) (fQ h hl) rfl rfl)) rfl)
structure Wk (b:Nat) (os ms ss:List D):Prop where
 o:fA os
 m:∀r∈ms,∃xs,r=.list xs/\oW xs/\xs.length<=30
 s:∀r∈ss,∃xs,r=.list xs/\fA xs/\xs.length<=30
 lo:os.length<=b
 lm:ms.length<=b
 ls:ss.length<=b
noncomputable def Ib (os ms ss:List D):Bool:=decide ((os.length:Int)<1)||(decide ((24:Int)<os.length)||((!((ms.length:Int)==(os.length:Int)))||(!((ss.length:Int)==(os.length:Int)))))
noncomputable def isW (os ms ss:List D):Bool:=!Ib os ms ss&&(os.all FW&&(ms.all DU&&ss.all (HQ os.length)))
theorem ne_int {a b:Int}:qf (.int a) (.int b)=some (.bool (!(a==b))):=by
 unfold qf;rw [D3,D3,Bool.and_self,if_pos rfl,PyData.eqv]
theorem la {b:Nat} {os ms ss:List D} (h:Wk b os ms ss) (hb:b<=100):d9 [.list os,.list ms,.list ss]=.ok ⟨.leaf,.bool (isW os ms ss)⟩:=by
 have lo:=h.lo
 have lm:=h.lm
 have ls:=h.ls
 refine bh ?_
 refine aB (ez (dU (aw (aD rfl) ai) rfl) rfl (by simp [aq])) ?_
 have hif:(eN (aO ao (ay iV (af 3) (eK (.int 1)))) (eN (aO ao (ay jz (af 3) (eK cG))) (eN (aO ao (ay qf (bW bt (ae (af 1) ah)) (af 3))) (aO ao (ay qf (bW bt (ae (af 2) ah)) (af 3)))))) [some ⟨.leaf,.list os⟩,some ⟨.leaf,.list ms⟩,some ⟨.leaf,.list ss⟩,some ⟨.leaf,.int (os.length:Nat)⟩,none,none]
   = .ok (Ib os ms ss) [some ⟨.leaf,.list os⟩,some ⟨.leaf,.list ms⟩,some ⟨.leaf,.list ss⟩,some ⟨.leaf,.int (os.length:Nat)⟩,none,none]:=
  fz (eO (aQ (aD rfl) aX rfl)) (fz (eO (aQ (aD rfl) aX rfl)) (fz (eO (aQ (dU (aw (aD rfl) ai) rfl) (aD rfl) ne_int)) (eO (aQ (dU (aw (aD rfl) ai) rfl) (aD rfl) ne_int))))
 cases hbad:Ib os ms ss with
 | true=>
  rw [hbad] at hif;unfold isW;rw [hbad];exact sE (bJ hif (fun _=>bg aX rfl) nofun)
 | false=>
  rw [hbad] at hif;refine aB (bJ hif nofun (fun _=>rfl)) ?_
  have c1:aN .leaf 4 (b9 (af 0)) bD (ay (dS false) (af 4) (eK cR)) [some ⟨.leaf,.list os⟩,some ⟨.leaf,.list ms⟩,some ⟨.leaf,.list ss⟩,some ⟨.leaf,.int (os.length:Nat)⟩,none,none]
    = .ok ⟨.lst .leaf,.list (os.map fun d=>.bool (FW d))⟩ [some ⟨.leaf,.list os⟩,some ⟨.leaf,.list ms⟩,some ⟨.leaf,.list ss⟩,some ⟨.leaf,.int (os.length:Nat)⟩,none,none]:=by
   refine DL (f:=fun d=>⟨.leaf,.bool (FW d)⟩) (eB (aD rfl) rfl) (by simp) rfl (by omega) fun d hd=>⟨?_,rfl⟩
   obtain ⟨i,rfl⟩:=h.o d hd;exact aQ (aD rfl) aX FV
  have c2:aN .leaf 5 (b9 (af 1)) bD (aj 1 dF (ae (af 5) ah)) [some ⟨.leaf,.list os⟩,some ⟨.leaf,.list ms⟩,some ⟨.leaf,.list ss⟩,some ⟨.leaf,.int (os.length:Nat)⟩,none,none]
    = .ok ⟨.lst .leaf,.list (ms.map fun d=>.bool (DU d))⟩ [some ⟨.leaf,.list os⟩,some ⟨.leaf,.list ms⟩,some ⟨.leaf,.list ss⟩,some ⟨.leaf,.int (os.length:Nat)⟩,none,none]:=by
   refine DL (f:=fun d=>⟨.leaf,.bool (DU d)⟩) (eB (aD rfl) rfl) (by simp) rfl (by omega) fun d hd=>⟨?_,rfl⟩
   obtain ⟨xs,rfl,hx,hl⟩:=h.m d hd;exact df (aw (aD rfl) ai) (jX hx (by omega)) rfl rfl
  have c3:aN .leaf 5 (b9 (af 2)) bD (aj 2 dE (ae (af 5) (ae (af 3) ah))) [some ⟨.leaf,.list os⟩,some ⟨.leaf,.list ms⟩,some ⟨.leaf,.list ss⟩,some ⟨.leaf,.int (os.length:Nat)⟩,none,none]
    = .ok ⟨.lst .leaf,.list (ss.map fun d=>.bool (HQ os.length d))⟩ [some ⟨.leaf,.list os⟩,some ⟨.leaf,.list ms⟩,some ⟨.leaf,.list ss⟩,some ⟨.leaf,.int (os.length:Nat)⟩,none,none]:=by
   refine DL (f:=fun d=>⟨.leaf,.bool (HQ os.length d)⟩) (eB (aD rfl) rfl) (by simp) rfl (by omega) fun d hd=>⟨?_,rfl⟩
   obtain ⟨xs,rfl,hx,hl⟩:=h.s d hd;exact df (aw (aD rfl) (aw (aD rfl) ai)) (jW hx (by omega)) rfl rfl
  have t1:=jv (iF (dU (aw c1 ai) zg))
  cases ho:os.all FW with
  | false=>
   rw [ho] at t1;unfold isW;rw [ho,Bool.false_and,Bool.and_false];exact sE (bJ t1 (fun _=>bg aX rfl) nofun)
  | true=>
   rw [ho] at t1;refine aB (bJ t1 nofun (fun _=>rfl)) ?_
   unfold isW;rw [hbad,ho,Bool.not_false,Bool.true_and,Bool.true_and];exact bg (v_and (dU (aw c2 ai) zg) (dU (aw c3 ai) zg)) rfl
theorem CW {xs:List D} (h:shaped (.list xs)=true):aZ (.list xs) (.list [])=some (.bool (decide (xs.length=0))):=by
 unfold aZ;have h2:shaped (.list [])=true:=by decide +kernel
 rw [h,h2,Bool.and_self,if_pos rfl]
 cases xs with
 | nil=>rfl
 | cons a r=>rfl
theorem pq {xs:List D} (h:fA xs):shaped (.list xs)=true:=by
 have c:PyData.canLayAll0 xs=true/\PyData.depthAll xs=0:=by
  induction xs with
  | nil=>exact ⟨rfl,rfl⟩
  | cons a r ih=>
   obtain ⟨n,rfl⟩:=h a mem_cons_self;have q:=ih fun x hx=>h x (mem_cons_of_mem _ hx)
   simp [PyData.canLayAll0,PyData.canLay0,PyData.depthAll,PyData.depth,q.1,q.2]
 simp [shaped,PyData.canLay0,PyData.depth,c.1,c.2]
theorem lt_int {a b:Int}:iV (.int a) (.int b)=some (.bool (decide (a<b))):=rfl
theorem yw {a b:Int}:oy (.int a) (.int b)=some (.bool (decide (b<=a))):=rfl
theorem nG {a b:Int}:aW (.int a) (.int b)=some (.int (a+b)):=rfl
theorem sub_int' {a b:Int}:gSub (.int a) (.int b)=some (.int (a-b)):=rfl
theorem eV {a b:Int} (h:0<b):bN (.int a) (.int b)=some (.int (a % b)):=by
 show (if yU a b then _ else _)=_
 rw [if_pos (by unfold yU;simpa using h)]
theorem qr {a b:Int} (h:0<b) (h2:b<1073741824):hV (.int a) (.int b)=some (.int (a / b)):=by
 show (if yV a b then _ else _)=_
 rw [if_pos (by unfold yV;simp [h,h2])]
theorem zQ {a b:Int} (h:-1000000000000<b) (h2:b<1000000000000):jM (.int a) (.int b)=some (.int (a*b)):=by
 show (if sr a b then _ else _)=_
 rw [if_pos (by unfold sr;simp only [Bool.or_eq_true,Bool.and_eq_true,decide_eq_true_eq];right;omega)]
theorem u9 {a b:Int} (h:-1000000000000<a) (h2:a<1000000000000):jM (.int a) (.int b)=some (.int (a*b)):=by
 show (if sr a b then _ else _)=_
 rw [if_pos (by unfold sr;simp only [Bool.or_eq_true,Bool.and_eq_true,decide_eq_true_eq];left;omega)]
theorem zK {b:Int} (h:0<=b) (h2:b<=100):jL (.int 10) (.int b)=some (.int (10 ^ b.toNat)):=by
 show (if yS 10 b then _ else _)=_
 rw [if_pos (by unfold yS;simp only [Bool.and_eq_true,decide_eq_true_eq];exact ⟨⟨h,by omega⟩,by decide⟩)]
theorem Ee {xs:List D} (h:fA xs) {k:Int} (hk:0<=k):∃c,aC [.list xs,.int k]=.ok ⟨.leaf,.int c⟩:=by
 have t:aO ao (ay iV (af 1) (bW bt (ae (af 0) ah))) [some ⟨.leaf,.list xs⟩,some ⟨.leaf,.int k⟩]=.ok (decide (k<(xs.length:Int))) [some ⟨.leaf,.list xs⟩,some ⟨.leaf,.int k⟩]:=
  eO (aQ (aD rfl) (dU (aw (aD rfl) ai) rfl) lt_int)
 cases hlt:decide (k<(xs.length:Int)) with
 | true=>
  rw [hlt] at t;have hl:=of_decide_eq_true hlt
  have hk2:k.toNat<xs.length:=by omega
  obtain ⟨c,hc⟩:=h _ (getD_mem hk2);have g:=Hb hk2
  rw [hc] at g;exact ⟨c,bh (sE (bJ t (fun _=>bg (wD (aD rfl) (aD rfl) (FT hk hl) g rfl) rfl) nofun))⟩
 | false=>
  rw [hlt] at t;exact ⟨0,bh (aB (bJ t nofun (fun _=>rfl)) (bg aX rfl))⟩
theorem HA {c k b:Int} (hk:0<=k) (hk2:k<=1000) (hb:1<=b) (hb2:b<=1000):∃r,az [.int c,.int k,.int b]=.ok ⟨.leaf,.int r⟩/\0<=r/\r<b:=by
 have t:aO ao (ay oy (af 0) (ay jL (eK (.int 10)) (eK (.int 18)))) [some ⟨.leaf,.int c⟩,some ⟨.leaf,.int k⟩,some ⟨.leaf,.int b⟩,none,none,none]=.ok (decide (10 ^ (18:Int).toNat<=c)) [some ⟨.leaf,.int c⟩,some ⟨.leaf,.int k⟩,some ⟨.leaf,.int b⟩,none,none,none]:=
  eO (aQ (aD rfl) (aQ aX aX (zK (by omega) (by omega))) yw)
 cases hge:decide (10 ^ (18:Int).toNat<=c) with
 | true=>
  rw [hge] at t;obtain ⟨Γ',e,l,x,hΓ⟩:=IA (P:=fun _ Γ=>∃l x,Γ=[some ⟨.leaf,.int c⟩,some ⟨.leaf,.int k⟩,some ⟨.leaf,.int b⟩,none,some ⟨.leaf,.int l⟩,x]) (i:=5) (body:=aE false 4 (ay hV (af 4) (af 2))) (cj 0 k.toNat) 0
   [some ⟨.leaf,.int c⟩,some ⟨.leaf,.int k⟩,some ⟨.leaf,.int b⟩,none,some ⟨.leaf,.int c⟩,none] ⟨c,none,rfl⟩ (fun m d Γ hd _ _ ⟨l,x,hΓ⟩=>by
    subst hΓ;refine ⟨by simp,_,ez (aQ (aD rfl) (aD rfl) (qr (by omega) (by omega))) rfl (by simp),_,_,rfl⟩)
  subst hΓ;exact ⟨_,bh (sE (bJ t (fun _=>aB (ez (aD rfl) rfl (by simp)) (aB (iu (sS (k:=k) (aw (aD rfl) ai) rfl (by omega) (by omega)) e) (bg (aQ (aD rfl) (aD rfl) (eV (by omega))) rfl))) nofun)),Int.emod_nonneg _ (by omega),Int.emod_lt_of_pos _ (by omega)⟩
 | false=>
  rw [hge] at t;have m1:∀x:Int,0<=x % 2147483647/\x % 2147483647<2147483647:=fun x=>⟨Int.emod_nonneg _ (by omega),Int.emod_lt_of_pos _ (by omega)⟩
  refine ⟨_,bh (aB (bJ t nofun (fun _=>rfl)) (aB (ez (aQ (aQ (aQ (aQ (aQ (aD rfl) aX (eV (by omega))) (aQ aX (aD rfl) (u9 (by omega) (by omega))) nG) aX nG) aX (zQ (by omega) (by omega))) aX (eV (by omega))) rfl (by simp [aq]))
   (aB (ez (aQ (aQ (aQ (aQ (aD rfl) (aD rfl) (u9 ?_ ?_)) (aQ aX (aD rfl) (u9 (by omega) (by omega))) nG) aX nG) aX (eV (by omega))) rfl (by simp [aq]))
   (bg (aQ (aQ (aQ (aQ (aD rfl) aX (zQ (by omega) (by omega))) aX (eV (by omega))) aX (qr (by omega) (by omega))) (aD rfl) (eV (by omega))) rfl)))),Int.emod_nonneg _ (by omega),Int.emod_lt_of_pos _ (by omega)⟩
  ·exact Int.lt_of_lt_of_le (by omega) (m1 _).1
  ·exact Int.lt_trans (m1 _).2 (by omega)
noncomputable def kn (c k b:Int):Int:=match az [.int c,.int k,.int b] with
 | .ok ⟨_,.int r⟩=>r
 | _=>0
theorem Ho {c k b:Int} (hk:0<=k) (hk2:k<=1000) (hb:1<=b) (hb2:b<=1000):az [.int c,.int k,.int b]=.ok ⟨.leaf,.int (kn c k b)⟩:=by
 obtain ⟨r,e,_⟩:=HA (c:=c) hk hk2 hb hb2
 unfold kn;rw [e]
theorem vS {c k b:Int} (hk:0<=k) (hk2:k<=1000) (hb:1<=b) (hb2:b<=1000):0<=kn c k b/\kn c k b<b:=by
 obtain ⟨r,e,h⟩:=HA (c:=c) hk hk2 hb hb2
 unfold kn;rw [e];exact h
noncomputable def abc (d:D):D:=match d with
 | .int k=>(match fY [97,98,99] k with
  | some c=>.str ⟨#[c]⟩
  | none=>.none)
 | _=>.none
theorem uZ {c:Nat} (h:c<1000):PyData.strOk ⟨#[c]⟩=true:=by
 unfold PyData.strOk;simp
 omega
theorem zb:(Str.ofString "abc").cps.toList=[97,98,99]:=by decide +kernel
theorem za:(Str.ofString "abc").length<=sizeLine:=by decide +kernel
theorem wu {k:Nat} (hk:k<3):∃c,c<1000/\fY (Str.ofString "abc").cps.toList (k:Int)=some c/\abc (.int k)=.str ⟨#[c]⟩:=by
 rw [zb];match k,hk with
 | 0,_=>exact ⟨97,by omega,rfl,rfl⟩
 | 1,_=>exact ⟨98,by omega,rfl,rfl⟩
 | 2,_=>exact ⟨99,by omega,rfl,rfl⟩
noncomputable abbrev eW:FS:=(ak (aE false 8 (aj 2 aC (ae (af 0) (ae (ay aW (ay aW (af 1) (eK (.int 1))) (af 7)) ah))))
  (ak (aV 4 (aj 3 az (ae (af 8) (ae (eK (.int 0)) (ae (eK (.int 2)) ah)))))
  (ak (aV 5 (aN .leaf 11 (hU (ae (eK (.int 3)) ah)) (aO ao (ay aZ (aj 3 az (ae (af 8) (ae (ay aW (eK (.int 1)) (af 11)) (ae (eK (.int 2)) ah)))) (eK (.int 1)))) (av (eK (.str "abc")) (af 11))))
  (ak (aE false 9 (aN .leaf 10 (hU (ae (af 3) ah)) (aO ao (ay aZ (aj 3 az (ae (af 8) (ae (ay aW (eK (.int 4)) (af 10)) (ae (ay aW (eK (.int 2)) (bW ox (ae (ay jz (af 3) (eK (.int 3))) ah))) ah)))) (eK (.int 1)))) (af 10)))
  (ak (bO (aO ao (ay aZ (af 9) (aG .leaf ah))) (aE false 9 (aG .leaf (ae (aj 3 az (ae (af 8) (ae (ay aW (eK (.int 4)) (af 3)) (ae (af 3) ah)))) ah))) aP)
  (aV 6 (af 9)))))))
theorem ug {ts:List Int} (h:ts.Pairwise (· < ·)):dg (ts.map .int)=true:=by
 unfold dg;rw [all_eq_true];intro d hd;obtain ⟨k,hk,rfl⟩:=zi hd;rw [length_map] at hk;have h1:k<ts.length:=by omega
 have h2:k+1<ts.length:=by omega
 unfold zS;dsimp only;rw [show (1+(k:Int)-1).toNat=k by omega,show (1+(k:Int)).toNat=k+1 by omega]
 rw [getD_eq_getElem?_getD,getD_eq_getElem?_getD,getElem?_map,getElem?_map,getElem?_eq_getElem h1,getElem?_eq_getElem h2];have:=List.pairwise_iff_getElem.mp h k (k+1) h1 h2 (by omega)
 show decide (ts[k]<ts[k+1])=true
 exact decide_eq_true this
structure Gw (N:Int) (n:Nat) (os ms ss:List D):Prop where
 lo:os.length=n
 lm:ms.length=n
 ls:ss.length=n
 o:∀a∈os,a=.int 0\/a=.int 1
 m:∀r∈ms,∃xs,r=.list xs/\oW xs/\xs.length<=30/\DU r=true
 s:∀r∈ss,∃ts:List Int,r=.list (ts.map .int)/\ts.length<=30/\ts≠[]/\(∀t∈ts,0<=t/\t<N)/\ts.Pairwise (· < ·)
theorem Dy {ts:List Int}:fA (ts.map .int):=fun a ha=>by
 obtain ⟨n,_,e⟩:=List.mem_map.mp ha;exact ⟨n,e.symm⟩
theorem Gw.wk {N:Int} {n b:Nat} {os ms ss:List D} (h:Gw N n os ms ss) (hb:n<=b):Wk b os ms ss:=
 ⟨fun a ha=>(h.o a ha).elim (fun e=>⟨0,e⟩) fun e=>⟨1,e⟩,fun r hr=>let ⟨xs,e,a,b,_⟩:=h.m r hr;⟨xs,e,a,b⟩,fun r hr=>let ⟨ts,e,a,_⟩:=h.s r hr;⟨_,e,Dy,by rw [length_map];exact a⟩,by rw [h.lo];exact hb,by rw [h.lm];exact hb,by rw [h.ls];exact hb⟩
theorem Gw.isW {n:Nat} {os ms ss:List D} (h:Gw (n:Int) n os ms ss) (h1:1<=n) (h24:n<=24):isW os ms ss=true:=by
 unfold KC.isW Ib;rw [h.lo,h.lm,h.ls];have e1:decide ((n:Int)<1)=false:=decide_eq_false (by omega)
 have e2:decide ((24:Int)<n)=false:=decide_eq_false (by omega)
 rw [e1,e2];simp only [beq_self_eq_true,Bool.not_true,Bool.or_self,Bool.not_false,Bool.true_and,Bool.and_eq_true,all_eq_true]
 refine ⟨fun a ha=>?_,fun r hr=>?_,fun r hr=>?_⟩
 ·rcases h.o a ha with rfl | rfl<;>rfl
 ·obtain ⟨xs,_,_,_,e⟩:=h.m r hr
  exact e
 ·obtain ⟨ts,rfl,h2,h3,h4,h5⟩:=h.s r hr
  unfold HQ;simp only [Bool.and_eq_true,decide_eq_true_eq,length_map,all_eq_true]
  refine ⟨by cases ts with | nil=>exact absurd rfl h3 | cons a r=>simp,fun a ha=>?_,ug h5⟩
  obtain ⟨t,ht,rfl⟩:=List.mem_map.mp ha;have:=h4 t ht
  unfold inR;simp only [Bool.and_eq_true,decide_eq_true_eq]
  exact this
theorem Kg (c0 c1 c2:Bool):DU (.list (((if c0 then [PyData.str ⟨#[97]⟩] else [])++((if c1 then [PyData.str ⟨#[98]⟩] else [])++(if c2 then [PyData.str ⟨#[99]⟩] else [])))))=true:=by
 cases c0<;>cases c1<;>cases c2<;>decide +kernel
theorem Kz (c:D->Bool):((cj 0 3).filter c).map abc=((if c (.int 0) then [PyData.str ⟨#[97]⟩] else [])++((if c (.int 1) then [PyData.str ⟨#[98]⟩] else [])++(if c (.int 2) then [PyData.str ⟨#[99]⟩] else []))):=by
 have e:cj 0 3=[.int 0,.int 1,.int 2]:=rfl
 rw [e];simp only [List.filter_cons,List.filter_nil]
 cases c (.int 0)<;>cases c (.int 1)<;>cases c (.int 2)<;>rfl
theorem A7 (n:Nat) (c:D->Bool):∃ts:List Int,((cj 0 n).filter c).map (fun d=>d)=ts.map .int/\(∀t∈ts,0<=t/\t<(n:Int))/\ts.Pairwise (· < ·)/\ts.length<=n:=by
 refine ⟨((List.range n).map fun i=>(0:Int)+(i:Nat)).filter fun i=>c (.int i),?_,fun t ht=>?_,?_,?_⟩
 ·rw [List.map_id']
  unfold cj;rw [show (fun i:Nat=>PyData.int (0+(i:Int)))=(PyData.int∘fun i:Nat=>(0:Int)+(i:Nat)) from rfl,<-map_map,List.filter_map]
  rfl
 ·obtain ⟨h1,_⟩:=List.mem_filter.mp ht
  obtain ⟨i,hi,rfl⟩:=List.mem_map.mp h1;rw [mem_range] at hi;omega
 ·refine List.Pairwise.filter _ ?_
  rw [List.pairwise_map];exact List.pairwise_lt_range.imp fun h=>by omega
 ·refine Nat.le_trans (List.length_filter_le _ _) ?_
  simp
theorem oS {xs os ms ss:List D} {at' lim many:Int} {n:Nat} {x8 x9:Option PV} (hx:fA xs) (ha:0<=at') (hm:1<=many) (hm2:many<=24) (h:Gw many n os ms ss) (hn:n<=30) {r:Nat} :
  ∃os' ms' ss' x8' x9',eW [some ⟨.leaf,.list xs⟩,some ⟨.leaf,.int at'⟩,some ⟨.leaf,.int lim⟩,some ⟨.leaf,.int many⟩,some ⟨.lst .leaf,.list os⟩,some ⟨.lst .leaf,.list ms⟩,some ⟨.lst .leaf,.list ss⟩,some ⟨.leaf,.int (r:Nat)⟩,x8,x9,none,none]
   = .nx [some ⟨.leaf,.list xs⟩,some ⟨.leaf,.int at'⟩,some ⟨.leaf,.int lim⟩,some ⟨.leaf,.int many⟩,some ⟨.lst .leaf,.list os'⟩,some ⟨.lst .leaf,.list ms'⟩,some ⟨.lst .leaf,.list ss'⟩,some ⟨.leaf,.int (r:Nat)⟩,x8',x9',none,none]/\Gw many (n+1) os' ms' ss':=by
 obtain ⟨c,hc⟩:=Ee hx (k:=at'+1+(r:Int)) (by omega)
 have lo:=h.lo
 have lm:=h.lm
 have ls:=h.ls
 have c5:∀(Γ:Ev),Γ.length=12->Γ[8]?=some (some ⟨.leaf,.int c⟩)->aN .leaf 11 (hU (ae (eK (.int 3)) ah)) (aO ao (ay aZ (aj 3 az (ae (af 8) (ae (ay aW (eK (.int 1)) (af 11)) (ae (eK (.int 2)) ah)))) (eK (.int 1)))) (av (eK (.str "abc")) (af 11)) Γ
   = .ok ⟨.lst .leaf,.list (((cj 0 3).filter fun d=>match d with | .int k=>kn c (1+k) 2==1 | _=>false).map fun d=>abc d)⟩ Γ:=fun Γ hl h8=>by
  refine Jb (c:=fun d=>match d with | .int k=>kn c (1+k) 2==1 | _=>false) (f:=fun d=>⟨.leaf,abc d⟩) (st:=true) (sS (k:=3) (aw aX ai) rfl (by omega) (by omega)) (by omega) rfl (by rw [Do];omega) (fun d hd=>?_) fun d hd _=>?_
  ·obtain ⟨k,hk,rfl⟩:=zi hd
   have g11:(Γ.set 11 (some ⟨.leaf,.int (0+(k:Int))⟩))[11]?=some (some ⟨.leaf,.int (0+(k:Int))⟩):=by rw [getElem?_set_self (by omega)]
   have g8:(Γ.set 11 (some ⟨.leaf,.int (0+(k:Int))⟩))[8]?=some (some ⟨.leaf,.int c⟩):=by rw [getElem?_set_ne (by omega)];exact h8
   exact eO (aQ (df (aw (aD g8) (aw (aQ aX (aD g11) nG) (aw aX ai))) (Ho (by omega) (by omega) (by omega) (by omega)) rfl rfl) aX eq_int)
  ·obtain ⟨k,hk,rfl⟩:=zi hd
   have g11:(Γ.set 11 (some ⟨.leaf,.int (0+(k:Int))⟩))[11]?=some (some ⟨.leaf,.int (0+(k:Int))⟩):=by rw [getElem?_set_self (by omega)]
   obtain ⟨z,hz,e1,e2⟩:=wu hk;rw [Int.zero_add] at g11 ⊢;rw [e2];exact ⟨AG aX (aD g11) za e1,rfl⟩
 generalize hM:(((cj 0 3).filter fun d=>match d with | .int k=>kn c (1+k) 2==1 | _=>false).map fun d=>abc d)=M at c5
 have rM:oW M/\M.length<=30/\DU (.list M)=true:=by
  refine ⟨?_,?_,?_⟩
  ·rw [<-hM]
   intro a ha;obtain ⟨d,hd,rfl⟩:=List.mem_map.mp ha;obtain ⟨k,hk,rfl⟩:=zi (List.mem_filter.mp hd).1;obtain ⟨z,hz,e1,e2⟩:=wu hk;rw [Int.zero_add,e2];exact ⟨_,rfl,uZ hz⟩
  ·rw [<-hM,length_map]
   refine Nat.le_trans (List.length_filter_le _ _) ?_
   rw [Do];omega
  ·rw [<-hM]
   have:=Kz (fun d=>match d with | .int k=>kn c (1+k) 2==1 | _=>false)
   rw [show (fun d=>abc d)=abc from rfl,this]
   exact Kg _ _ _
 have c6:∀(Γ:Ev),Γ.length=12->Γ[8]?=some (some ⟨.leaf,.int c⟩)->Γ[3]?=some (some ⟨.leaf,.int many⟩)->aN .leaf 10 (hU (ae (af 3) ah)) (aO ao (ay aZ (aj 3 az (ae (af 8) (ae (ay aW (eK (.int 4)) (af 10)) (ae (ay aW (eK (.int 2)) (bW ox (ae (ay jz (af 3) (eK (.int 3))) ah))) ah)))) (eK (.int 1)))) (af 10) Γ
   = .ok ⟨.lst .leaf,.list (((cj 0 many.toNat).filter fun d=>match d with | .int k=>kn c (4+k) (2+(if decide (3<many) then 1 else 0))==1 | _=>false).map fun d=>d)⟩ Γ:=fun Γ hl h8 h3=>by
  refine Jb (c:=fun d=>match d with | .int k=>kn c (4+k) (2+(if decide (3<many) then 1 else 0))==1 | _=>false) (f:=fun d=>⟨.leaf,d⟩) (st:=true) (sS (k:=many) (aw (aD h3) ai) rfl (by omega) (by omega)) (by omega) rfl (by rw [Do];omega) (fun d hd=>?_) fun d hd _=>?_
  ·obtain ⟨k,hk,rfl⟩:=zi hd
   have g10:(Γ.set 10 (some ⟨.leaf,.int (0+(k:Int))⟩))[10]?=some (some ⟨.leaf,.int (0+(k:Int))⟩):=by rw [getElem?_set_self (by omega)]
   have g8:(Γ.set 10 (some ⟨.leaf,.int (0+(k:Int))⟩))[8]?=some (some ⟨.leaf,.int c⟩):=by rw [getElem?_set_ne (by omega)];exact h8
   have g3:(Γ.set 10 (some ⟨.leaf,.int (0+(k:Int))⟩))[3]?=some (some ⟨.leaf,.int many⟩):=by rw [getElem?_set_ne (by omega)];exact h3
   have b1:(1:Int)<=2+(if decide (3<many) then 1 else 0)/\(2:Int)+(if decide (3<many) then 1 else 0)<=1000:=by split<;>omega
   exact eO (aQ (df (aw (aD g8) (aw (aQ aX (aD g10) nG) (aw (aQ aX (dU (aw (aQ (aD g3) aX rfl) ai) rfl) nG) ai))) (Ho (by omega) (by omega) b1.1 b1.2) rfl rfl) aX eq_int)
  ·obtain ⟨k,hk,rfl⟩:=zi hd
   exact ⟨aD (by rw [getElem?_set_self (by omega)]),rfl⟩
 obtain ⟨ts,hT,hts1,hts2,hts3⟩:=A7 many.toNat (fun d=>match d with | .int k=>kn c (4+k) (2+(if decide (3<many) then 1 else 0))==1 | _=>false)
 rw [hT] at c6;have fin:∀(Γ:Ev) (T:List Int),(T.length<=30/\T≠[]/\(∀t∈T,0<=t/\t<many)/\T.Pairwise (· < ·))->Γ=[some ⟨.leaf,.list xs⟩,some ⟨.leaf,.int at'⟩,some ⟨.leaf,.int lim⟩,some ⟨.leaf,.int many⟩,some ⟨.lst .leaf,.list (os++[.int (kn c 0 2)])⟩,some ⟨.lst .leaf,.list (ms++[.list M])⟩,some ⟨.lst .leaf,.list ss⟩,some ⟨.leaf,.int (r:Nat)⟩,some ⟨.leaf,.int c⟩,some ⟨.leaf,.list (T.map .int)⟩,none,none] ->
   ∃os' ms' ss' x8' x9',aV 6 (af 9) Γ=.nx [some ⟨.leaf,.list xs⟩,some ⟨.leaf,.int at'⟩,some ⟨.leaf,.int lim⟩,some ⟨.leaf,.int many⟩,some ⟨.lst .leaf,.list os'⟩,some ⟨.lst .leaf,.list ms'⟩,some ⟨.lst .leaf,.list ss'⟩,some ⟨.leaf,.int (r:Nat)⟩,x8',x9',none,none]/\Gw many (n+1) os' ms' ss':=fun Γ T hT2 hΓ=>by
  subst hΓ;refine ⟨os++[.int (kn c 0 2)],ms++[.list M],ss++[.list (T.map .int)],_,_,IL rfl (aD rfl) rfl (by omega),by simp;omega,by simp;omega,by simp;omega,fun a ha=>?_,fun a ha=>?_,fun a ha=>?_⟩
  ·rcases List.mem_append.mp ha with z | z
   ·exact h.o a z
   ·have:=vS (c:=c) (k:=0) (b:=2) (by omega) (by omega) (by omega) (by omega)
    rw [List.mem_singleton.mp z];rcases (by omega:kn c 0 2=0\/kn c 0 2=1) with e | e
    ·exact .inl (by rw [e])
    ·exact .inr (by rw [e])
  ·rcases List.mem_append.mp ha with z | z
   ·exact h.m a z
   ·exact ⟨M,List.mem_singleton.mp z,rM.1,rM.2.1,by rw [List.mem_singleton.mp z];exact rM.2.2⟩
  ·rcases List.mem_append.mp ha with z | z
   ·exact h.s a z
   ·exact ⟨T,List.mem_singleton.mp z,hT2⟩
 have e1:=ez (i:=8) (df (fl:=ae (af 0) (ae (ay aW (ay aW (af 1) (eK (.int 1))) (af 7)) ah)) (Γ:=[some ⟨.leaf,.list xs⟩,some ⟨.leaf,.int at'⟩,some ⟨.leaf,.int lim⟩,some ⟨.leaf,.int many⟩,some ⟨.lst .leaf,.list os⟩,some ⟨.lst .leaf,.list ms⟩,some ⟨.lst .leaf,.list ss⟩,some ⟨.leaf,.int (r:Nat)⟩,x8,x9,none,none]) (aw (aD rfl) (aw (aQ (aQ (aD rfl) aX nG) (aD rfl) nG) ai)) hc rfl rfl) rfl (by simp)
 have e2:aV 4 (aj 3 az (ae (af 8) (ae (eK (.int 0)) (ae (eK (.int 2)) ah)))) [some ⟨.leaf,.list xs⟩,some ⟨.leaf,.int at'⟩,some ⟨.leaf,.int lim⟩,some ⟨.leaf,.int many⟩,some ⟨.lst .leaf,.list os⟩,some ⟨.lst .leaf,.list ms⟩,some ⟨.lst .leaf,.list ss⟩,some ⟨.leaf,.int (r:Nat)⟩,some ⟨.leaf,.int c⟩,x9,none,none]=_:=
  IL rfl (df (aw (aD rfl) (aw aX (aw aX ai))) (Ho (by omega) (by omega) (by omega) (by omega)) rfl rfl) rfl (by omega)
 have e3:=IL (i:=5) (Γ:=[some ⟨.leaf,.list xs⟩,some ⟨.leaf,.int at'⟩,some ⟨.leaf,.int lim⟩,some ⟨.leaf,.int many⟩,some ⟨.lst .leaf,.list (os++[.int (kn c 0 2)])⟩,some ⟨.lst .leaf,.list ms⟩,some ⟨.lst .leaf,.list ss⟩,some ⟨.leaf,.int (r:Nat)⟩,some ⟨.leaf,.int c⟩,x9,none,none]) rfl (c5 _ rfl rfl) rfl (by omega)
 have e4:=ez (i:=9) (Γ:=[some ⟨.leaf,.list xs⟩,some ⟨.leaf,.int at'⟩,some ⟨.leaf,.int lim⟩,some ⟨.leaf,.int many⟩,some ⟨.lst .leaf,.list (os++[.int (kn c 0 2)])⟩,some ⟨.lst .leaf,.list (ms++[.list M])⟩,some ⟨.lst .leaf,.list ss⟩,some ⟨.leaf,.int (r:Nat)⟩,some ⟨.leaf,.int c⟩,x9,none,none]) (c6 _ rfl rfl rfl) rfl (by simp)
 have t:aO ao (ay aZ (af 9) (aG .leaf ah)) [some ⟨.leaf,.list xs⟩,some ⟨.leaf,.int at'⟩,some ⟨.leaf,.int lim⟩,some ⟨.leaf,.int many⟩,some ⟨.lst .leaf,.list (os++[.int (kn c 0 2)])⟩,some ⟨.lst .leaf,.list (ms++[.list M])⟩,some ⟨.lst .leaf,.list ss⟩,some ⟨.leaf,.int (r:Nat)⟩,some ⟨.leaf,.int c⟩,some ⟨.leaf,.list (ts.map .int)⟩,none,none]
   = .ok (decide ((ts.map PyData.int).length=0)) _:=eO (aQ (aD rfl) (jA (s:=.leaf) ai rfl rfl rfl) (CW (pq Dy)))
 cases hz:decide ((ts.map PyData.int).length=0) with
 | true=>
  rw [hz] at t;obtain ⟨o',m',s',y8,y9,f1,f2⟩:=fin _ [kn c (4+many) many] ⟨by simp,by simp,fun t ht=>by rw [List.mem_singleton.mp ht];exact vS (by omega) (by omega) (by omega) (by omega),List.pairwise_singleton _ _⟩ rfl
  exact ⟨o',m',s',y8,y9,aB e1 (aB e2 (aB e3 (aB e4 (aB (bJ t (fun _=>ez (jA (s:=.leaf) (aw (df (aw (aD rfl) (aw (aQ aX (aD rfl) nG) (aw (aD rfl) ai))) (Ho (by omega) (by omega) (by omega) (by omega)) rfl rfl) ai) rfl rfl rfl) rfl (by simp)) nofun) f1)))),f2⟩
 | false=>
  rw [hz] at t;obtain ⟨o',m',s',y8,y9,f1,f2⟩:=fin _ ts ⟨by omega,(fun z=>by rw [z] at hz;cases hz),(fun t ht=>by have:=hts1 t ht;omega),hts2⟩ rfl
  exact ⟨o',m',s',y8,y9,aB e1 (aB e2 (aB e3 (aB e4 (aB (bJ t nofun (fun _=>rfl)) f1)))),f2⟩
noncomputable abbrev W3:Sh:=.tup [.lst .leaf,.lst .leaf,.lst .leaf]
noncomputable abbrev eQ (os ms ss:List D):D:=.tuple [.list os,.list ms,.list ss]
theorem rU {xs:List D} {at' lim:Int} (hx:fA xs) (ha:0<=at') (hl:1<=lim) (hl2:lim<=24):∃(n:Nat) (os ms ss:List D),m__law_world [.list xs,.int at',.int lim]=.ok ⟨W3,eQ os ms ss⟩/\Gw (n:Int) n os ms ss/\1<=n/\(n:Int)<=lim:=by
 obtain ⟨c,hc⟩:=Ee hx (k:=at') ha
 have b0:0<=c % lim:=Int.emod_nonneg _ (by omega)
 have b1:c % lim<lim:=Int.emod_lt_of_pos _ (by omega)
 generalize hmm:1+c % lim=many at *
 have e0:aE false 3 (ay aW (eK (.int 1)) (ay bN (aj 2 aC (ae (af 0) (ae (af 1) ah))) (af 2))) [some ⟨.leaf,.list xs⟩,some ⟨.leaf,.int at'⟩,some ⟨.leaf,.int lim⟩,none,none,none,none,none,none,none,none,none]
   = .nx [some ⟨.leaf,.list xs⟩,some ⟨.leaf,.int at'⟩,some ⟨.leaf,.int lim⟩,some ⟨.leaf,.int many⟩,none,none,none,none,none,none,none,none]:=by
  rw [<-hmm];exact ez (aQ aX (aQ (df (aw (aD rfl) (aw (aD rfl) ai)) hc rfl rfl) (aD rfl) (eV (by omega))) nG) rfl (by simp)
 obtain ⟨Γ',e,os,ms,ss,x7,x8,x9,hΓ,hw⟩:=IA (P:=fun n Γ=>∃os ms ss x7 x8 x9,Γ=[some ⟨.leaf,.list xs⟩,some ⟨.leaf,.int at'⟩,some ⟨.leaf,.int lim⟩,some ⟨.leaf,.int many⟩,some ⟨.lst .leaf,.list os⟩,some ⟨.lst .leaf,.list ms⟩,some ⟨.lst .leaf,.list ss⟩,x7,x8,x9,none,none]/\Gw many n os ms ss) (i:=7) (body:=eW) (cj 0 many.toNat) 0
  [some ⟨.leaf,.list xs⟩,some ⟨.leaf,.int at'⟩,some ⟨.leaf,.int lim⟩,some ⟨.leaf,.int many⟩,some ⟨.lst .leaf,.list []⟩,some ⟨.lst .leaf,.list []⟩,some ⟨.lst .leaf,.list []⟩,none,none,none,none,none] ⟨[],[],[],none,none,none,rfl,rfl,rfl,rfl,fun a ha=>(nomatch ha),fun a ha=>(nomatch ha),fun a ha=>(nomatch ha)⟩ (fun m d Γ hd h1 h2 ⟨os,ms,ss,x7,x8,x9,hΓ,hw⟩=>by
   subst hΓ;obtain ⟨k,hk,rfl⟩:=zi hd;rw [Do] at h2;rw [Int.zero_add];obtain ⟨os',ms',ss',y8,y9,f1,f2⟩:=oS (at':=at') (lim:=lim) (many:=many) (x8:=x8) (x9:=x9) hx ha (by omega) (by omega) hw (by omega) (r:=k)
   exact ⟨by simp,_,f1,os',ms',ss',_,y8,y9,rfl,f2⟩)
 subst hΓ;rw [Do,Nat.zero_add] at hw;have en:((many.toNat:Nat):Int)=many:=by omega
 refine ⟨many.toNat,os,ms,ss,bh (aB e0 (aB (Hm (jA (s:=.leaf) ai rfl rfl rfl) rfl (by simp)) (aB (Hm (jA (s:=.leaf) ai rfl rfl rfl) rfl (by simp)) (aB (Hm (jA (s:=.leaf) ai rfl rfl rfl) rfl (by simp)) (aB (iu (sS (k:=many) (aw (aD rfl) ai) rfl (by omega) (by omega)) e) (bg (bQ (aw (Hk (p:=⟨.lst .leaf,.list os⟩) rfl) (aw (Hk (p:=⟨.lst .leaf,.list ms⟩) rfl) (aw (Hk (p:=⟨.lst .leaf,.list ss⟩) rfl) ai))) rfl rfl) rfl)))))),by rw [en];exact hw,by omega,by omega⟩
theorem mD {n:Nat} {g:FS} {ds:List D} {Γ:Ev} (h:g (aq n ds)=.nx Γ):aA n g ds=.ok ⟨.leaf,.none⟩:=by unfold aA;rw [h]
theorem v_not {Γ Γ1:Ev} {fa:F1} {s:Sh} {b:Bool} (ha:fa Γ=.ok ⟨s,.bool b⟩ Γ1):rO fa Γ=.ok ⟨.leaf,.bool (!b)⟩ Γ1:=by
 unfold rO aY;rw [ha];rfl
theorem wH {Γ Γ1:Ev} {fa:F1} {p:PV} (h:fa Γ=.ok p Γ1):aR fa Γ=.nx Γ1:=by unfold aR kc;rw [h]
theorem rW {b:Nat} {os ms ss:List D} (h:Wk b os ms ss) (hb:b<=100) (hw:isW os ms ss=true):aF [eQ os ms ss]=.ok ⟨.leaf,.none⟩:=by
 have t:cU (aO bY (aj 3 d9 (ae (av (af 0) (eK (.int 0))) (ae (av (af 0) (eK (.int 1))) (ae (av (af 0) (eK (.int 2))) ah))))) [some ⟨.leaf,eQ os ms ss⟩]=.ok (!(isW os ms ss)) [some ⟨.leaf,eQ os ms ss⟩]:=
  jv (iF (df (aw (Dt (j:=0) (aD rfl) aX rfl rfl rfl) (aw (Dt (j:=1) (aD rfl) aX rfl rfl rfl) (aw (Dt (j:=2) (aD rfl) aX rfl rfl rfl) ai))) (la h hb) rfl rfl))
 rw [hw] at t;exact mD (bJ t nofun (fun _=>rfl))
noncomputable def dl (S:List (List Int)):List D:=S.map fun ts=>.list (ts.map .int)
noncomputable def has (x:Str) (d:D):Bool:=match d with
 | .list xs=>xs.any fun y=>PyData.eqv y (.str x)
 | _=>false
end KC
namespace T
open PySem PySem.Spec L2
open PyProof.Rows hiding St
section
variable {Γ Γ1:Ev} {fa fb fc:F1} {fl:FL} {p:PV} {i n:Nat} {ga gb:FB} {g1 g2:FS}
@[simp] theorem JQ:sizeLine=16777216:=rfl
@[simp] theorem sJ {α β:Type} {a:α} {e:Ev} {k:α->Ev->Out β}:(Out.ok a e).bind k=k a e:=rfl
@[simp] theorem r_k {d:D}:eK d Γ=.ok ⟨.leaf,d⟩ Γ:=rfl
@[simp] theorem Lc:ah Γ=.ok [] Γ:=rfl
@[simp] theorem JJ:bD Γ=.ok true Γ:=rfl
@[simp] theorem JN:aP Γ=.nx Γ:=rfl
@[simp] theorem J5:ae fa fl Γ=(fa Γ).bind fun p Γ1=>(fl Γ1).bind fun ps Γ2=>.ok (p::ps) Γ2:=rfl
@[simp] theorem L5 {g:D->D->Option D}:ay g fa fb Γ=(fa Γ).bind fun p Γ1=>(fb Γ1).bind fun q Γ2=>match g p.d q.d with | some d=>.ok ⟨.leaf,d⟩ Γ2 | none=>.no:=rfl
@[simp] theorem L7 {g:List D->Option D}:bW g fl Γ=(fl Γ).bind fun ps Γ'=>match g (ps.map (·.d)) with | some d=>.ok ⟨.leaf,d⟩ Γ' | none=>.no:=rfl
@[simp] theorem Ll {g:D->Option Bool}:aO g fa Γ=(fa Γ).bind fun p Γ'=>match g p.d with | some b=>.ok b Γ' | none=>.no:=rfl
@[simp] theorem J8:cU ga Γ=(ga Γ).bind fun c Γ'=>.ok (!c) Γ':=rfl
@[simp] theorem Lk:eN ga gb Γ=(ga Γ).bind fun c Γ'=>if c then .ok true Γ' else gb Γ':=rfl
@[simp] theorem Lj:nJ ga fa fb Γ=(ga Γ).bind fun b Γ'=>if b then fa Γ' else fb Γ':=rfl
@[simp] theorem J3:jo fa fb Γ=(fa Γ).bind fun p Γ=>match p.d with | .bool true=>fb Γ | .bool false=>.ok ⟨.leaf,.bool false⟩ Γ | _=>.no:=rfl
@[simp] theorem zI:ak g1 g2 Γ=match g1 Γ with | .nx Γ'=>g2 Γ' | .rt p=>.rt p | .bk Γ'=>.bk Γ' | .ct Γ'=>.ct Γ' | .er c Γ'=>.er c Γ' | .no=>.no:=by
 unfold ak
 cases g1 Γ<;>rfl
@[simp] theorem uw {k:PV->Ev->dr}:kc fa k Γ=match fa Γ with | .ok p Γ1=>k p Γ1 | .er c Γ1=>.er c Γ1 | .no=>.no:=by
 unfold kc
 cases fa Γ<;>rfl
@[simp] theorem L6:bO ga g1 g2 Γ=match ga Γ with | .ok b Γ1=>if b then g1 Γ1 else g2 Γ1 | .er c Γ1=>.er c Γ1 | .no=>.no:=by
 unfold bO
 cases ga Γ<;>rfl
@[simp] theorem HU {b:Bool}:ao (.bool b)=some b:=rfl
@[simp] theorem JY {b:Bool}:bY (.bool b)=some b:=rfl
@[simp] theorem HR {xs:List D}:bY (.list xs)=some (!xs.isEmpty):=rfl
noncomputable def HZ (p:PV):PV:=match p.s with
 | .leaf=>p
 | _=>⟨.view,p.d⟩
@[simp] theorem K8 {d:D}:HZ ⟨.leaf,d⟩=⟨.leaf,d⟩:=rfl
@[simp] theorem K7 {s:Sh} {d:D}:HZ ⟨.lst s,d⟩=⟨.view,d⟩:=rfl
@[simp] theorem K6 {s:List Sh} {d:D}:HZ ⟨.tup s,d⟩=⟨.view,d⟩:=rfl
@[simp] theorem K0:af i Γ=match Γ[i]? with | some (some p)=>.ok (HZ p) Γ | _=>.no:=by
 unfold af
 cases h:Γ[i]? with
 | none=>rfl
 | some o=>
  cases o with
  | none=>rfl
  | some p=>
   obtain ⟨s,d⟩:=p
   cases s<;>rfl
@[simp] theorem JO:cP i Γ=match Γ[i]? with | some (some p)=>.ok p (Γ.set i none) | _=>.no:=rfl
@[simp] theorem J6 {d:D}:coer .leaf ⟨.leaf,d⟩=true:=rfl
@[simp] theorem HW {s:Sh} {d:D}:coer .leaf ⟨.lst s,d⟩=true:=rfl
@[simp] theorem HV {s:List Sh} {d:D}:coer .leaf ⟨.tup s,d⟩=true:=rfl
@[simp] theorem HX {i:Int} {s:Sh}:coer .leaf ⟨s,.int i⟩=true:=by cases s<;>rfl
@[simp] theorem HY {b:Bool} {s:Sh}:coer .leaf ⟨s,.bool b⟩=true:=by cases s<;>rfl
@[simp] theorem JU:Sh.isView .leaf=false:=rfl
@[simp] theorem JT {s:Sh}:Sh.isView (.lst s)=false:=rfl
@[simp] theorem JS {s:List Sh}:Sh.isView (.tup s)=false:=rfl
@[simp] theorem K4 {own:Bool}:aE own i fa Γ=match fa Γ with | .ok p Γ1=>(if i<Γ1.length then (if own&&!p.s.isView then .nx (Γ1.set i (some p)) else if T.coer .leaf p then .nx (Γ1.set i (some ⟨.leaf,p.d⟩)) else .no) else .no) | .er c Γ1=>.er c Γ1 | .no=>.no:=by
 unfold aE;rw [uw]
@[simp] theorem K5:aS fa Γ=match fa Γ with | .ok p Γ1=>(if p.s.isView then (if bL p.d then .rt ⟨.leaf,p.d⟩ else .no) else .rt p) | .er c Γ1=>.er c Γ1 | .no=>.no:=by
 unfold aS;rw [uw]
@[simp] theorem J4:aR fa Γ=match fa Γ with | .ok p Γ1=>.nx Γ1 | .er c Γ1=>.er c Γ1 | .no=>.no:=by
 unfold aR;rw [uw]
@[simp] theorem J7 {den:List D->bA}:aj n den fl Γ=(fl Γ).bind fun ps Γ'=>if ps.length=n then (match den (ps.map (·.d)) with | .ok p=>if ps.all (T.coer .leaf) then .ok p Γ' else if bL p.d then .ok ⟨.leaf,p.d⟩ Γ' else .ok ⟨.view,p.d⟩ Γ' | _=>.no) else .no:=rfl
@[simp] theorem J1 {a b:Int}:aW (.int a) (.int b)=some (.int (a+b)):=rfl
@[simp] theorem JZ {a b:Int}:gSub (.int a) (.int b)=some (.int (a-b)):=rfl
@[simp] theorem Lh {a b:Int}:iV (.int a) (.int b)=some (.bool (decide (a<b))):=rfl
@[simp] theorem Li {a b:Int}:jz (.int a) (.int b)=some (.bool (decide (b<a))):=rfl
@[simp] theorem J0 {ds:List D}:bt [.list ds]=some (.int ds.length):=rfl
@[simp] theorem HS {ds:List D}:bt [.tuple ds]=some (.int ds.length):=rfl
noncomputable def mS (p q:PV):Ev->Out PV:=av (fun Γ=>.ok p Γ) (fun Γ=>.ok q Γ)
@[simp] theorem iy:av fa fb Γ=(fa Γ).bind fun p Γ1=>(fb Γ1).bind fun q Γ2=>mS p q Γ2:=by
 unfold mS av aY
 cases fa Γ with
 | ok p Γ1=>simp only [sJ]
 | er c Γ1=>rfl
 | no=>rfl
@[simp] theorem mn {ds:List D} {k:Int} {s:Sh}:mS ⟨.leaf,.tuple ds⟩ ⟨s,.int k⟩ Γ=match fY ds k with | some d=>.ok ⟨.leaf,d⟩ Γ | none=>.no:=by
 unfold mS av aY fY;simp only [sJ]
 cases h:gH ds.length k with
 | none=>rfl
 | some j=>
  simp only [Option.bind_some]
  cases h2:ds[j]? with
  | none=>rfl
  | some d=>rfl
@[simp] theorem ux {ds:List D} {k:Int} {s:Sh}:mS ⟨.leaf,.list ds⟩ ⟨s,.int k⟩ Γ=match fY ds k with | some d=>.ok ⟨.leaf,d⟩ Γ | none=>.no:=by
 unfold mS av aY fY;simp only [sJ]
 cases h:gH ds.length k with
 | none=>rfl
 | some j=>
  simp only [Option.bind_some]
  cases h2:ds[j]? with
  | none=>rfl
  | some d=>rfl
@[simp] theorem Lg {ds:List D} {k:Int} {s:Sh}:mS ⟨.view,.list ds⟩ ⟨s,.int k⟩ Γ=match fY ds k with | some d=>.ok ⟨if bL d then .leaf else .view,d⟩ Γ | none=>.no:=by
 unfold mS av aY fY;simp only [sJ]
 cases h:gH ds.length k with
 | none=>rfl
 | some j=>
  simp only [Option.bind_some]
  cases h2:ds[j]? with
  | none=>rfl
  | some d=>rfl
@[simp] theorem uy {α:Type} {a:α} {r:List α}:fY (a::r) 0=some a:=by
 simp [fY,gH]
@[simp] theorem EY {α:Type} {a b:α} {r:List α}:fY (a::b::r) 1=some b:=by
 have:(1:Int)<(r.length:Int)+1+1:=by omega
 simp [fY,gH,this]
@[simp] theorem EX {α:Type} {a b c:α} {r:List α}:fY (a::b::c::r) 2=some c:=by
 have:(2:Int)<(r.length:Int)+1+1+1:=by omega
 simp [fY,gH,this]
theorem Ik {α:Type} {xs:List α} {k:Nat} {x:α} (h:xs[k]?=some x):fY xs (k:Int)=some x:=by
 have hk:=(List.getElem?_eq_some_iff.mp h).1
 have:(k:Int)<(xs.length:Int):=by omega
 simp [fY,gH,this,h]
end
section
variable {Γ:Ev} {fa fb:F1} {i:Nat}
@[simp] theorem Ld {c:String}:mX c fa Γ=(fa Γ).bind fun p Γ=>.ok ⟨.leaf,.bool (fx (lz p.d) c)⟩ Γ:=rfl
@[simp] theorem JP {s:Sh} {fl:FL}:aG s fl Γ=(fl Γ).bind fun ps Γ'=>if !s.isView&&ps.all (T.coer s)&&decide (ps.length<=sizeLine) then .ok ⟨.lst s,.list (ps.map (·.d))⟩ Γ' else .no:=rfl
@[simp] theorem K1 {fl:FL}:bx fl Γ=(fl Γ).bind fun ps Γ'=>if ps.all tok&&decide (ps.length<=sizeLine) then .ok ⟨.tup (ps.map AM),.tuple (ps.map (·.d))⟩ Γ' else .no:=rfl
@[simp] theorem JM {d:D}:tok ⟨.leaf,d⟩=true:=rfl
@[simp] theorem JL {s:Sh} {d:D}:tok ⟨.lst s,d⟩=true:=rfl
@[simp] theorem JK {s:List Sh} {d:D}:tok ⟨.tup s,d⟩=true:=rfl
@[simp] theorem Le {a:D}:jN false a .none=some (.bool (eh a)):=rfl
@[simp] theorem JR {a:D}:jN true a .none=some (.bool (!eh a)):=rfl
@[simp] theorem K3:rN fa fb Γ=(fa Γ).bind fun p Γ1=>(fb Γ1).bind fun q Γ2=>match p.d,q.d with | .tuple xs,.int k=>if !p.s.isView&&decide (1<=k)&&decide (k<=xs.length) then .ok ⟨.leaf,.tuple (xs.drop k.toNat)⟩ Γ2 else .no | _,_=>.no:=rfl
@[simp] theorem Lf {neg:Bool} {tab:List (Str×Int)}:vM neg tab fa Γ=(fa Γ).bind fun p Γ=>match p.d with | .str k=>.ok ⟨.leaf,.bool (if neg then !(b8 k tab).isSome else (b8 k tab).isSome)⟩ Γ | _=>.no:=rfl
@[simp] theorem JX {tab:List (Str×Int)}:qo tab fa Γ=(fa Γ).bind fun p Γ=>match p.d with | .str k=>(match b8 k tab with | some i=>.ok ⟨.leaf,.int i⟩ Γ | none=>.no) | _=>.no:=rfl
@[simp] theorem JV:dH fa Γ=(fa Γ).bind fun p Γ'=>match p.d with | .tuple ds=>if aH p ds then .ok ⟨ds,!p.s.isView⟩ Γ' else .no | _=>.no:=rfl
@[simp] theorem JW:b9 fa Γ=(fa Γ).bind fun p Γ'=>match p.d with | .list ds=>if aH p ds then .ok ⟨ds,!p.s.isView⟩ Γ' else .no | _=>.no:=rfl
@[simp] theorem Lb {d:D} {ds:List D}:aH ⟨.leaf,d⟩ ds=true:=rfl
@[simp] theorem La {s:Sh} {d:D} {ds:List D}:aH ⟨.lst s,d⟩ ds=true:=rfl
@[simp] theorem K9 {s:List Sh} {d:D} {ds:List D}:aH ⟨.tup s,d⟩ ds=true:=rfl
@[simp] theorem Lm {f:F1}:gv i f Γ=match Γ[i]? with | some (some ⟨.leaf,.int a⟩)=>kc f (oU i a) Γ | _=>.no:=rfl
@[simp] theorem J9 {a b:Int} {s:Sh}:oU i a ⟨s,.int b⟩ Γ=if i<Γ.length then .nx (Γ.set i (some ⟨.leaf,.int (a+b)⟩)) else .no:=rfl
theorem zJ {f:F1} {p:PV} {ds es:List D} (h:Γ[i]?=some (some ⟨.lst .leaf,.list ds⟩)) (hf:f Γ=.ok p Γ) (hp:p.d=.tuple es) (ho:p.s.isView=false) (hn:ds.length+es.length<=10000):jF i f Γ=.nx (Γ.set i (some ⟨.lst .leaf,.list (ds++es)⟩)):=by
 have hb:(10000:Nat)<=sizeLine:=by decide
 obtain ⟨s,d⟩:=p;simp only at hp ho
 subst hp;unfold jF fq;rw [h];simp only [if_true,uw,hf]
 unfold CQ aH;rw [h];have:ds.length+es.length<=sizeLine:=by omega
 simp only [ho,Bool.not_false,Bool.true_or,decide_eq_true this,Bool.and_self,if_true]
theorem lF {β:Type} {c:FB} {g:FS} {G:β->Ev} {test:β->Bool} {step:β->β} {Inv:β->Prop} {meas:β->Nat} (hc:∀b,Inv b->c (G b)=.ok (test b) (G b)) (hg:∀b,Inv b->test b=true->g (G b)=.nx (G (step b))/\Inv (step b)/\meas (step b)<meas b) :
  ∀(N:Nat) (b:β),Inv b->meas b<N->∃b',bK c g N (G b)=.nx (G b')/\Inv b'/\test b'=false
 | 0,b,_,h=>by omega
 | N+1,b,hi,hm=>by
  rw [bK,hc b hi]
  cases ht:test b with
  | false=>exact ⟨b,rfl,hi,ht⟩
  | true=>
   obtain ⟨h1,h2,h3⟩:=hg b hi ht;obtain ⟨b',e,q⟩:=lF hc hg N (step b) h2 (by omega)
   refine ⟨b',?_,q⟩
   simp only [h1]
   exact e
theorem wq {fa:F1} {p:PV} {ds:List D} (ho:Γ[i]?=some (some ⟨.lst .leaf,.list ds⟩)) (h:fa Γ=.ok p Γ) (hc:coer .leaf p=true) (hn:ds.length<=9000):aV i fa Γ=.nx (Γ.set i (some ⟨.lst .leaf,.list (ds++[p.d])⟩)):=by
 have hb:(10000:Nat)<=sizeLine:=by decide
 unfold aV hJ;rw [ho];simp only [if_true,uw,h]
 unfold yY;rw [ho];have:ds.length<sizeLine:=by omega
 simp only [hc,decide_eq_true this,Bool.and_self,if_true]
end
theorem Ji {α:Type} {en:α->D} {i:Nat} {fc:FB} {fe:F1} {s:Sh} {c:α->Bool} {f:α->PV} {Γ:Ev} (hΓ:Γ.set i none=Γ):∀(r:List α) (acc:List D),(∀x∈r,fc (Γ.set i (some ⟨.leaf,en x⟩))=.ok (c x) (Γ.set i (some ⟨.leaf,en x⟩))) ->
  (∀x∈r,c x=true->fe (Γ.set i (some ⟨.leaf,en x⟩))=.ok (f x) (Γ.set i (some ⟨.leaf,en x⟩))/\coer s (f x)=true)->acc.length+r.length<=sizeLine->cT i fc fe s (r.map en) Γ acc=.ok (acc++((r.filter c).map fun x=>(f x).d)) Γ
 | [],acc,_,_,_=>by simp [cT]
 | x::r,acc,hc,he,hl=>by
  have h1:=hc x mem_cons_self
  have hl1:acc.length<sizeLine:=by simp only [length_cons] at hl;omega
  have back:(Γ.set i (some ⟨.leaf,en x⟩)).set i none=Γ:=by rw [set_set];exact hΓ
  rw [map_cons,cT,h1]
  cases hcd:c x with
  | false=>
   dsimp only;rw [if_pos hl1,back,Ji hΓ r acc (fun d hd=>hc d (mem_cons_of_mem _ hd)) (fun d hd=>he d (mem_cons_of_mem _ hd)) (by simp only [length_cons] at hl;omega)]
   rw [List.filter_cons_of_neg (by rw [hcd];exact Bool.false_ne_true)]
  | true=>
   obtain ⟨h2,h3⟩:=he x mem_cons_self hcd;dsimp only;rw [h2];dsimp only;rw [h3,decide_eq_true hl1,Bool.and_self,if_pos rfl,back,Ji hΓ r (acc++[(f x).d]) (fun d hd=>hc d (mem_cons_of_mem _ hd)) (fun d hd=>he d (mem_cons_of_mem _ hd)) (by simp only [length_cons,length_append,length_nil] at hl ⊢;omega)]
   rw [List.filter_cons_of_pos hcd,map_cons,append_assoc];rfl
theorem vO {α:Type} (en:α->D) (xs:List α) (c:α->Bool) (f:α->PV) {s:Sh} {i:Nat} {fi:FI} {fc:FB} {fe:F1} {st:Bool} {Γ:Ev} (hi:fi Γ=.ok ⟨xs.map en,st⟩ Γ) (hl:i<Γ.length) (hs:s.isView=false) (hn:xs.length<=10000)
  (hc:∀x∈xs,fc (Γ.set i (some ⟨.leaf,en x⟩))=.ok (c x) (Γ.set i (some ⟨.leaf,en x⟩))) (he:∀x∈xs,c x=true->fe (Γ.set i (some ⟨.leaf,en x⟩))=.ok (f x) (Γ.set i (some ⟨.leaf,en x⟩))/\coer s (f x)=true) :
  aN s i fi fc fe Γ=.ok ⟨.lst s,.list ((xs.filter c).map fun x=>(f x).d)⟩ Γ:=by
 have hb:(10000:Nat)<=sizeLine:=by decide
 unfold aN;rw [hi];unfold Out.bind;dsimp only;rw [Ji (c:=c) (f:=f) (by rw [set_set]) xs [] (fun d hd=>by rw [set_set];exact hc d hd) (fun d hd=>by rw [set_set];exact he d hd) (by simp;omega)]
 dsimp only;rw [hs,decide_eq_true hl];simp only [Bool.not_false,Bool.and_self,if_true,nil_append,set_set]
 have:Γ.set i (Γ.getD i none)=Γ:=by
  apply Eg
  rw [getD_eq_getElem?_getD,getElem?_eq_getElem hl];rfl
 rw [this]
theorem DM {α:Type} (en:α->D) (xs:List α) (f:α->PV) {s:Sh} {i:Nat} {fi:FI} {fe:F1} {st:Bool} {Γ:Ev} (hi:fi Γ=.ok ⟨xs.map en,st⟩ Γ) (hl:i<Γ.length) (hs:s.isView=false) (hn:xs.length<=10000)
  (he:∀x∈xs,fe (Γ.set i (some ⟨.leaf,en x⟩))=.ok (f x) (Γ.set i (some ⟨.leaf,en x⟩))/\coer s (f x)=true):aN s i fi bD fe Γ=.ok ⟨.lst s,.list (xs.map fun x=>(f x).d)⟩ Γ:=by
 rw [vO (fc:=bD) en xs (fun _=>true) f hi hl hs hn (fun _ _=>rfl) fun x hx _=>he x hx,List.filter_eq_self.mpr fun _ _=>rfl]
theorem IB {α β:Type} (en:α->D) (step:β->α->β) {Inv:β->List α->Prop} {i:Nat} {body:FS} {G:β->Option PV->Ev} (hi:∀b x,i<(G b x).length) (hset:∀b x y,(G b x).set i y=G b y)
  (hb:∀b a r,Inv b (a::r)->body (G b (some ⟨.leaf,en a⟩))=.nx (G (step b a) (some ⟨.leaf,en a⟩))/\Inv (step b a) r):∀(xs:List α) (b:β) (x:Option PV),Inv b xs->∃y,cD i body (xs.map en) (G b x)=.nx (G (xs.foldl step b) y)/\Inv (xs.foldl step b) []
 | [],b,x,h=>⟨x,rfl,h⟩
 | a::r,b,x,h=>by
  obtain ⟨h1,h2⟩:=hb b a r h;obtain ⟨y,e,h3⟩:=IB en step hi hset hb r (step b a) (some ⟨.leaf,en a⟩) h2
  refine ⟨y,?_,h3⟩
  rw [map_cons,cD,if_pos (hi b x),hset,h1];exact e
end T
namespace KC
open PySem PySem.Spec L2 T PySem.SeqAt
open PyProof.Rows hiding St
noncomputable abbrev rm (t:Nat):D:=.int (t:Int)
noncomputable abbrev iU (r:List Nat):D:=.list (r.map rm)
theorem pz {n:Nat}:cj 0 n=(List.range n).map rm:=by
 unfold cj;simp
structure Wd where
 n:Nat
 os:List D
 m:List (List Str)
 s:List (List Nat)
noncomputable def tD (r:List Str):D:=.list (r.map .str)
noncomputable def Wd.enc (w:Wd):D:=eQ w.os (w.m.map tD) (w.s.map iU)
structure Wd.Ok (w:Wd):Prop where
 g:Gw (w.n:Int) w.n w.os (w.m.map tD) (w.s.map iU)
 h1:1<=w.n
 h24:w.n<=24
 lm:w.m.length=w.n
 ls:w.s.length=w.n
 st:∀r∈w.s,r≠[]/\r.length<=30/\∀t∈r,t<w.n
 mc:∀r∈w.m,∀c∈r,PyData.strOk c=true
noncomputable def Wd.stp (w:Wd) (r:Nat):List Nat:=w.s.getD r []
noncomputable def Wd.mks (w:Wd) (r:Nat):List Str:=w.m.getD r []
theorem Wd.Ok.at2 {w:Wd} (h:w.Ok) {r:Nat} (hr:r<w.n):fY (w.s.map iU) (r:Int)=some (iU (w.stp r)):=by
 refine Ik ?_
 unfold Wd.stp;rw [getElem?_map,getD_eq_getElem?_getD,getElem?_eq_getElem (by rw [h.ls];exact hr)]
 rfl
theorem Wd.Ok.at1 {w:Wd} (h:w.Ok) {r:Nat} (hr:r<w.n):fY (w.m.map tD) (r:Int)=some (tD (w.mks r)):=by
 refine Ik ?_
 unfold Wd.mks;rw [getElem?_map,getD_eq_getElem?_getD,getElem?_eq_getElem (by rw [h.lm];exact hr)]
 rfl
theorem Wd.Ok.stp_lt {w:Wd} (h:w.Ok) {r t:Nat} (ht:t∈w.stp r):t<w.n:=by
 unfold Wd.stp at ht;rw [getD_eq_getElem?_getD] at ht
 cases e:w.s[r]? with
 | none=>rw [e] at ht;simp at ht
 | some x=>rw [e] at ht;exact (h.st x (mem_of_getElem? e)).2.2 t ht
inductive Wr where
 | yes | mark | not | sn | an | sa | aa | and | or | su | au
 deriving DecidableEq
noncomputable def Wr.t:Wr->Str
 | .yes => "yes" | .mark => "mark" | .not => "not" | .sn => "some next" | .an => "all next" | .sa => "some always" | .aa => "all always" | .and => "and" | .or => "or" | .su => "some until" | .au => "all until"
theorem fF (a:Wr):PyData.strOk a.t=true:=by cases a<;>decide +kernel
theorem eG (a b:Wr):aZ (.str a.t) (.str b.t)=some (.bool (decide (a=b))):=by cases a<;>cases b<;>kernel_rfl
@[simp] theorem As (a:Wr):aZ (.str a.t) (.str "yes")=some (.bool (decide (a=.yes))):=eG a .yes
@[simp] theorem wY (a:Wr):aZ (.str a.t) (.str "mark")=some (.bool (decide (a=.mark))):=eG a .mark
@[simp] theorem Ar (a:Wr):aZ (.str a.t) (.str "not")=some (.bool (decide (a=.not))):=eG a .not
@[simp] theorem G6 (a:Wr):aZ (.str a.t) (.str "and")=some (.bool (decide (a=.and))):=eG a .and
@[simp] theorem gK (a:Wr):aZ (.str a.t) (.str "or")=some (.bool (decide (a=.or))):=eG a .or
noncomputable def Wr.some (a:Wr):Bool:=decide (a=.sn\/a=.su\/a=.aa)
noncomputable def Wr.ar:Wr->Option Int
 | .yes=>Option.some 0 | .mark=>none | .and=>Option.some 2 | .or=>Option.some 2 | .su=>Option.some 2 | .au=>Option.some 2 | _=>Option.some 1
@[simp] theorem yd (a:Wr):b8 a.t dB=a.ar:=by cases a<;>kernel_rfl
inductive U5 where
 | not | sn | an | sa | aa
 deriving DecidableEq
inductive B4 where
 | and | or | su | au
 deriving DecidableEq
noncomputable def U5.w:U5->Wr
 | .not=>.not | .sn=>.sn | .an=>.an | .sa=>.sa | .aa=>.aa
noncomputable def B4.w:B4->Wr
 | .and=>.and | .or=>.or | .su=>.su | .au=>.au
inductive Sn where
 | yes | mk (c:Str) | un (k:U5) (a:Sn) | bi (k:B4) (a b:Sn)
 deriving DecidableEq
noncomputable def Sn.w:Sn->Wr
 | .yes=>.yes | .mk _=>.mark | .un k _=>k.w | .bi k _ _=>k.w
noncomputable def Sn.args:Sn->List Sn
 | .yes=>[] | .mk _=>[] | .un _ a=>[a] | .bi _ a b=>[a,b]
noncomputable def Sn.enc:Sn->D
 | .yes=>.tuple [.str Wr.yes.t] | .mk c=>.tuple [.str Wr.mark.t,.str c] | .un k a=>.tuple [.str k.w.t,a.enc] | .bi k a b=>.tuple [.str k.w.t,a.enc,b.enc]
noncomputable def Sn.size:Sn->Nat
 | .yes=>1 | .mk _=>1 | .un _ a=>a.size+1 | .bi _ a b=>a.size+b.size+1
noncomputable def Sn.dep:Sn->Nat
 | .yes=>1 | .mk _=>1 | .un _ a=>a.dep+1 | .bi _ a b=>max a.dep b.dep+1
noncomputable def dG:List Str:=["a", "b", "c", "d", "e", "f"]
noncomputable def Sn.ok:Sn->Prop
 | .yes=>True | .mk c=>c∈dG | .un _ a=>a.ok | .bi _ a b=>a.ok/\b.ok
theorem Hf {c:Str} (h:c∈dG):PyData.strOk c=true/\wL (.str c)=true:=by
 unfold dG at h;simp only [mem_cons,not_mem_nil,or_false] at h
 rcases h with rfl | rfl | rfl | rfl | rfl | rfl<;>decide +kernel
noncomputable def Sn.psh:Sn->Sh
 | .mk _=>.tup [] | _=>.leaf
@[simp] theorem Fh (s:Sn):s.psh.isView=false:=by cases s<;>rfl
theorem Jj (s:Sn):aT [s.enc]=.ok ⟨s.psh,.tuple (s.args.map Sn.enc)⟩:=by
 cases s with
 | yes=>simp [aT,aA,cB,aq,Sn.enc,Sn.args,Sn.psh]
 | mk c=>simp [aT,aA,cB,aq,Sn.enc,Sn.args,Sn.psh]
 | un k a=>cases k<;>simp [aT,aA,cB,aq,Sn.enc,Sn.args,Sn.psh,U5.w]
 | bi k a b=>cases k<;>simp [aT,aA,cB,aq,Sn.enc,Sn.args,Sn.psh,B4.w]
theorem oH {s:Sn} (h:s.ok):aL [s.enc]=.ok ⟨.leaf,.bool true⟩:=by
 cases s with
 | yes=>simp [aL,aA,bq,aq,Sn.enc,fx,lz,Wr.ar,eq_int]
 | mk c=>
  obtain ⟨h1,h2⟩:=Hf h;simp [aL,aA,bq,aq,Sn.enc,fx,lz,Wr.ar,eq_int,vm h1,h2]
 | un k a=>cases k<;>simp [aL,aA,bq,aq,Sn.enc,fx,lz,Wr.ar,U5.w,eq_int]
 | bi k a b=>cases k<;>simp [aL,aA,bq,aq,Sn.enc,fx,lz,Wr.ar,B4.w,eq_int]
noncomputable def gp (l:List Sn):D:=.list (l.map Sn.enc)
noncomputable def ja (l:List Sn):Nat:=(l.map Sn.size).sum
theorem Sn.size_pos (s:Sn):1<=s.size:=by cases s<;>simp [Sn.size]
theorem Sn.args_le (s:Sn):s.args.length<=2:=by cases s<;>simp [Sn.args]
theorem Sn.args_sz (s:Sn):ja s.args+1=s.size:=by cases s<;>simp [Sn.args,ja,Sn.size]
theorem pT (l:List Sn):l.length<=ja l:=by
 induction l with
 | nil=>simp [ja]
 | cons a r ih=>
  have:=a.size_pos
  simp only [ja,map_cons,sum_cons,length_cons] at ih ⊢
  omega
theorem xj (a b:List Sn):ja (a++b)=ja a+ja b:=by simp [ja]
theorem IG (l:List Sn):ja (l.flatMap Sn.args)+l.length=ja l:=by
 induction l with
 | nil=>simp [ja]
 | cons a r ih=>
  have:=a.args_sz
  rw [flatMap_cons,xj];simp only [ja,map_cons,sum_cons,length_cons] at ih this ⊢
  omega
noncomputable def eL (l:List Sn):Nat:=l.foldr (fun s m=>max s.dep m) 0
theorem Jk (a:Sn) (r:List Sn):eL (a::r)=max a.dep (eL r):=rfl
theorem vV (a b:List Sn):eL (a++b)=max (eL a) (eL b):=by
 induction a with
 | nil=>simp [eL]
 | cons x r ih=>rw [List.cons_append,Jk,Jk,ih,Nat.max_assoc]
theorem Sn.dep_args (s:Sn):eL s.args+1=s.dep:=by cases s<;>simp [Sn.args,eL,Sn.dep]
theorem HF (l:List Sn) (h:l≠[]):eL (l.flatMap Sn.args)+1=eL l:=by
 induction l with
 | nil=>exact absurd rfl h
 | cons a r ih=>
  have:=a.dep_args
  rw [flatMap_cons,vV,Jk]
  cases r with
  | nil=>simp [eL] at this ⊢;omega
  | cons b t=>
   have:=ih (by simp)
   omega
theorem jV {l:List Sn} (hn:l.length<=1000):bR [gp l]=.ok ⟨.lst .leaf,gp (l.flatMap Sn.args)⟩:=by
 obtain ⟨y,e,_⟩:=IB Sn.enc (fun (b:List Sn) a=>b++a.args) (Inv:=fun b r=>b.length+2*r.length<=2000) (i:=2) (body:=jF 1 (aj 1 aT (ae (af 2) ah))) (G:=fun b x=>[some ⟨.leaf,gp l⟩,some ⟨.lst .leaf,gp b⟩,x])
  (fun _ _=>by simp) (fun _ _ _=>by simp) (fun b a r hI=>by
   have h2:=a.args_le
   simp only [length_cons] at hI
   refine ⟨?_,by simp only [length_append];omega⟩
   rw [zJ (ds:=b.map Sn.enc) (es:=a.args.map Sn.enc) (p:=⟨a.psh,.tuple (a.args.map Sn.enc)⟩) rfl ?_ rfl (by simp) (by simp only [length_map];omega)]
   ·simp [gp]
   ·simp [Jj,Fh,coer]) l [] none (by simp;omega)
 have ef:l.foldl (fun (b:List Sn) a=>b++a.args) []=l.flatMap Sn.args:=by
  have:∀(l:List Sn) (b:List Sn),l.foldl (fun (b:List Sn) a=>b++a.args) b=b++l.flatMap Sn.args:=by
   intro l;induction l with
   | nil=>intro b;simp
   | cons a r ih=>intro b;rw [List.foldl_cons,ih,flatMap_cons,append_assoc]
  rw [this,nil_append]
 rw [ef] at e;refine bh ?_
 have e2:eJ 2 (b9 (af 0)) (jF 1 (aj 1 aT (ae (af 2) ah))) [some ⟨.leaf,gp l⟩,some ⟨.lst .leaf,gp []⟩,none]=.nx [some ⟨.leaf,gp l⟩,some ⟨.lst .leaf,gp (l.flatMap Sn.args)⟩,y]:=iu (eB (ds:=l.map Sn.enc) (aD rfl) rfl) e
 have e1:aE true 1 (aG .leaf ah) (aq 3 [gp l])=.nx [some ⟨.leaf,gp l⟩,some ⟨.lst .leaf,gp []⟩,none]:=by simp [aq,gp]
 unfold eZ;rw [zI,e1];simp only
 rw [zI,e2];simp
structure LS where
 ls:List (List Sn)
 l:List Sn
 many:Nat
noncomputable abbrev Ij (s:Sn) (b:LS):Ev:=[some ⟨.leaf,s.enc⟩,some ⟨.lst .leaf,.list (b.ls.map gp)⟩,some ⟨.leaf,gp b.l⟩,some ⟨.leaf,.int (b.many:Int)⟩,none]
structure LI (s:Sn) (b:LS):Prop where
 tot:(b.ls.map List.length).sum+ja b.l=s.size
 mny:b.many=(b.ls.map List.length).sum
 dep:b.ls.length+eL b.l=s.dep
 ok:∀a∈b.l,a.ok
theorem Sn.args_ok {s:Sn} (h:s.ok):∀a∈s.args,a.ok:=by
 cases s with
 | yes=>simp [Sn.args]
 | mk c=>simp [Sn.args]
 | un k a=>simpa [Sn.args,Sn.ok] using h
 | bi k a b=>simpa [Sn.args,Sn.ok] using h
theorem m8 {l:List Sn} (h:l≠[]):1<=eL l:=by
 have:=HF l h
 omega
theorem oG {s:Sn} (h:s.ok) (hs:s.size<=200) (hd:s.dep<=24):∃L:List (List Sn),cC [s.enc]=.ok ⟨.lst .leaf,.list (L.map gp)⟩/\L.length=s.dep/\(L.map List.length).sum=s.size:=by
 obtain ⟨b',e,I,ht⟩:=lF (c:=aO bY (af 2)) (G:=Ij s) (test:=fun b=>!b.l.isEmpty) (step:=fun b=>⟨b.ls++[b.l],b.l.flatMap Sn.args,b.many+b.l.length⟩) (Inv:=LI s) (meas:=fun b=>ja b.l)
  (g:=(ak (gv 3 (bW bt (ae (af 2) ah)))
  (ak (bO (eN (aO ao (ay jz (af 3) (eK cb))) (eN (aO ao (ay aZ (bW bt (ae (af 1) ah)) (eK cf))) (cU (aO bY (bW (gJ false) (ae (aN .leaf 4 (b9 (af 2)) bD (aj 1 aL (ae (af 4) ah))) ah)))))) (aS (eK .none)) aP)
  (ak (aV 1 (af 2))
  (aE false 2 (aj 1 bR (ae (af 2) ah))))))) (fun b I=>by simp [Ij,gp]) (fun b I ht=>by
   have hne:b.l≠[]:=by intro z;rw [z] at ht;simp at ht
   have t1:=I.tot
   have t2:=I.mny
   have t3:=I.dep
   have t4:=pT b.l
   have t5:=m8 hne
   have t6:=IG b.l
   have t7:=HF b.l hne
   have t8:0<b.l.length:=List.length_pos_iff.mpr hne
   refine ⟨?_,⟨?_,?_,?_,?_⟩,?_⟩
   ·have c1:aN .leaf 4 (b9 (af 2)) bD (aj 1 aL (ae (af 4) ah)) [some ⟨.leaf,s.enc⟩,some ⟨.lst .leaf,.list (b.ls.map gp)⟩,some ⟨.leaf,gp b.l⟩,some ⟨.leaf,.int ((b.many:Int)+b.l.length)⟩,none]=.ok ⟨.lst .leaf,.list (b.l.map fun _=>.bool true)⟩ [some ⟨.leaf,s.enc⟩,some ⟨.lst .leaf,.list (b.ls.map gp)⟩,some ⟨.leaf,gp b.l⟩,some ⟨.leaf,.int ((b.many:Int)+b.l.length)⟩,none]:=by
     refine DM Sn.enc b.l (fun _=>⟨.leaf,.bool true⟩) (st:=true) (by simp [gp]) (by simp) rfl (by omega) fun a ha=>?_
     simp [oH (I.ok a ha)]
    have c2:gJ false [.list (b.l.map fun _=>.bool true)]=some (.bool true):=by
     rw [zg (f:=fun _=>true)]
     simp
    have n1:¬((200:Int)<(b.many:Int)+b.l.length):=by omega
    have n2:¬((b.ls.length:Int)=24):=by omega
    have lb:b.ls.length<=24:=by omega
    have pa:=jV (l:=b.l) (by omega)
    have ap:aV 1 (af 2) [some ⟨.leaf,s.enc⟩,some ⟨.lst .leaf,.list (b.ls.map gp)⟩,some ⟨.leaf,gp b.l⟩,some ⟨.leaf,.int ((b.many:Int)+b.l.length)⟩,none]=.nx [some ⟨.leaf,s.enc⟩,some ⟨.lst .leaf,.list (b.ls.map gp++[gp b.l])⟩,some ⟨.leaf,gp b.l⟩,some ⟨.leaf,.int ((b.many:Int)+b.l.length)⟩,none]:=
     wq rfl (aD rfl) rfl (by simp;omega)
    simp [Ij,gp,cb,cf] at c1 ap pa ⊢
    simp [c1,c2,n1,n2,eq_int,ap,pa]
   ·simp only [List.map_append,map_cons,map_nil,List.sum_append,sum_cons,List.sum_nil]
    omega
   ·simp only [List.map_append,map_cons,map_nil,List.sum_append,sum_cons,List.sum_nil]
    omega
   ·simp only [length_append,length_cons,length_nil]
    omega
   ·intro a ha
    obtain ⟨c,hc,ha⟩:=List.mem_flatMap.mp ha;exact Sn.args_ok (I.ok c hc) a ha
   ·show ja (b.l.flatMap Sn.args)<ja b.l
    omega) 1000 ⟨[],[s],0⟩ ⟨by simp [ja],by simp,by simp [eL],by simpa using h⟩ (by simp [ja];omega)
 have hl:b'.l=[]:=by simpa using ht
 refine ⟨b'.ls,?_,?_,?_⟩
 ·refine bh ?_
  have e0:Ij s ⟨[],[s],0⟩=[some ⟨.leaf,s.enc⟩,some ⟨.lst .leaf,.list []⟩,some ⟨.leaf,.list [s.enc]⟩,some ⟨.leaf,.int 0⟩,none]:=rfl
  rw [e0] at e;unfold dJ;simp [aq]
  unfold gW;rw [e];simp
 ·have:=I.dep;rw [hl] at this;simpa [eL] using this
 ·have:=I.tot;rw [hl] at this;simpa [ja] using this
theorem fX {s:Sn} (h:s.ok) (hs:s.size<=200) (hd:s.dep<=24):bG [s.enc]=.ok ⟨.leaf,.none⟩:=by
 obtain ⟨L,e,_⟩:=oG h hs hd;have e2:cQ [s.enc]=.ok ⟨.leaf,.list (L.map gp)⟩:=by
  refine bh ?_
  simp [dY,aq,e,eh]
 refine mD (Γ:=[some ⟨.leaf,s.enc⟩]) ?_
 simp [dZ,aq,e2]
end KC
namespace KC
noncomputable def DP (rk:List (Option Nat)) (t:Nat):Option Nat:=rk.getD t none
noncomputable def led (any:Bool) (l:List Nat) (P:Nat->Prop):Prop:=if any then ∃t∈l,P t else ∀t∈l,P t
structure Dh (n:Nat) (st:Nat->List Nat) (ch:Nat->Bool) (thr goal:List Nat) (rk:List (Option Nat)):Prop where
 len:rk.length=n
 g:∀r,r<n->r∈goal->DP rk r=some 0
 p:∀r k,r<n->r∉goal->DP rk r=some k->0<k/\r∈thr/\led (ch r) (st r) fun t=>∃j,DP rk t=some j/\j<k
 z:∀r,r<n->DP rk r=none->r∉goal/\(r∉thr\/¬led (ch r) (st r) fun t=>DP rk t≠none)
noncomputable def inn (st:Nat->List Nat) (L:List Nat) (r:Nat):List Nat:=(st r).filter fun t=>L.contains t
structure KD (n:Nat) (st:Nat->List Nat) (own:Nat->Bool) (T X:Nat->Prop):Prop where
 lt:∀r,X r->r<n
 c:∀r,X r->led (own r) (st r) X
 a:∀S:Nat->Prop,(∀r,X r->T r->S r)->(∀r,X r->led (own r) (st r) (fun t=>X t/\S t)->S r)->∀r,X r->S r
structure Fr {α:Type} (n:Nat) (st:Nat->List Nat) (R:Nat->Prop) (M:List α) (mk:α->Nat->Prop) (X:Nat->Prop):Prop where
 lt:∀r,X r->r<n
 sub:∀r,X r->R r
 c:∀r,X r->∃t∈st r,X t
 a:∀m∈M,∀S:Nat->Prop,(∀r,X r->mk m r->S r)->(∀r,X r->(∃t∈st r,X t/\S t)->S r)->∀r,X r->S r
noncomputable def LN (n:Nat) (L:List Nat):Prop:=∃q:Nat->Bool,L=(List.range n).filter q
open PySem PySem.Spec L2 T PySem.SeqAt
open PyProof.Rows hiding St
noncomputable def oD:Option Nat->D
 | none=>.none
 | some k=>.int (k:Int)
noncomputable abbrev JI (rk:List (Option Nat)):D:=.list (rk.map oD)
noncomputable abbrev Mm (cl:List Bool):D:=.list (cl.map .bool)
noncomputable def LH (cl:List Bool) (r:Nat):Bool:=cl.getD r false
structure RS where
 rk:List (Option Nat)
 k:Nat
 fr:List Nat
 x8:Option PV
noncomputable abbrev GR (w:Wd) (cl:List Bool) (thr goal:List Nat) (b:RS):Ev:=[some ⟨.leaf,w.enc⟩,some ⟨.leaf,Mm cl⟩,some ⟨.leaf,iU thr⟩,some ⟨.leaf,iU goal⟩,some ⟨.lst .leaf,JI b.rk⟩,some ⟨.leaf,.int (b.k:Int)⟩,some ⟨.leaf,iU b.fr⟩,b.x8,none]
theorem JB {Γ Γ1:Ev} {fl:FL} {ps:List PV} {k:Int} (hl:fl Γ=.ok ps Γ1) (hp:ps.map (·.d)=[.int k]) (h0:0<=k) (h1:k<=1000):vL fl Γ=.ok ⟨.lst .leaf,.list (cj 0 k.toNat)⟩ Γ1:=by
 have h3:cH k=true:=Cz (by omega) (by omega)
 have hb:=Dw
 have h4:k<=(sizeLine:Int):=by omega
 unfold vL;rw [hl];simp only [Out.bind,hp,jG,h3,if_true,h4]
theorem Wd.Ok.check {w:Wd} (ok:w.Ok):aF [w.enc]=.ok ⟨.leaf,.none⟩:=rW (ok.g.wk (b:=24) ok.h24) (by omega) (ok.g.isW ok.h1 ok.h24)
end KC
namespace T
open PySem PySem.Spec L2
open PyProof.Rows hiding St
theorem IV {α:Type} (en:α->D) {i:Nat} {body:FS} {Inv:List α->Ev->Prop} (hb:∀a r Γ,Inv (a::r) Γ->i<Γ.length/\∃Γ',body (Γ.set i (some ⟨.leaf,en a⟩))=.nx Γ'/\Inv r Γ'):∀(xs:List α) (Γ:Ev),Inv xs Γ->∃Γ',cD i body (xs.map en) Γ=.nx Γ'/\Inv [] Γ'
 | [],Γ,h=>⟨Γ,rfl,h⟩
 | a::r,Γ,h=>by
  obtain ⟨hi,Γ1,h1,h2⟩:=hb a r Γ h;obtain ⟨Γ2,e,h3⟩:=IV en hb r Γ1 h2;refine ⟨Γ2,?_,h3⟩
  rw [map_cons,cD,if_pos hi,h1];exact e
theorem Ex {Γ Γ1 Γ2:Ev} {fa fb:F1} {s s':Sh} {xs ys:List D} (ha:fa Γ=.ok ⟨s,.list xs⟩ Γ1) (hb:fb Γ1=.ok ⟨s',.list ys⟩ Γ2) (h1:aH ⟨s,.list xs⟩ xs=true) (h2:aH ⟨s',.list ys⟩ ys=true) (hn:xs.length+ys.length<=10000):gL fa fb Γ=.ok ⟨.lst .leaf,.list (xs++ys)⟩ Γ2:=by
 have hb':(10000:Nat)<=sizeLine:=by decide
 have:xs.length+ys.length<=sizeLine:=Nat.le_trans hn hb'
 unfold gL aY;rw [ha];simp only [sJ]
 rw [hb];simp only [sJ,h1,h2,decide_eq_true this,Bool.and_self,if_true]
end T
namespace KC
open PySem PySem.Spec L2 T PySem.SeqAt
open PyProof.Rows hiding St
theorem EA {n:Nat} {os ms ss:List D} (g:Gw (n:Int) n os ms ss) (h1:1<=n) (h24:n<=24):∃w:Wd,w.Ok/\w.enc=eQ os ms ss/\w.n=n:=by
 have hm:∀l:List D,(∀r∈l,∃xs,r=.list xs/\oW xs)->∃M:List (List Str),l=M.map tD/\∀r∈M,∀c∈r,PyData.strOk c=true:=by
  have one:∀xs:List D,oW xs->∃r:List Str,xs=r.map .str/\∀c∈r,PyData.strOk c=true:=by
   intro xs;induction xs with
   | nil=>intro _;exact ⟨[],rfl,by simp⟩
   | cons a r ih=>
    intro h;obtain ⟨x,rfl,hx⟩:=h a mem_cons_self;obtain ⟨t,rfl,ht⟩:=ih fun b hb=>h b (mem_cons_of_mem _ hb)
    exact ⟨x::t,rfl,fun c hc=>(List.mem_cons.mp hc).elim (fun e=>by rw [e];exact hx) (ht c)⟩
  intro l;induction l with
  | nil=>intro _;exact ⟨[],rfl,by simp⟩
  | cons a r ih=>
   intro h;obtain ⟨xs,rfl,hx⟩:=h a mem_cons_self;obtain ⟨x,rfl,hx2⟩:=one xs hx;obtain ⟨M,rfl,hM⟩:=ih fun b hb=>h b (mem_cons_of_mem _ hb)
   exact ⟨x::M,rfl,fun c hc=>(List.mem_cons.mp hc).elim (fun e=>by rw [e];exact hx2) (hM c)⟩
 have hs:∀l:List D,(∀r∈l,∃ts:List Int,r=.list (ts.map .int)/\ts.length<=30/\ts≠[]/\(∀t∈ts,0<=t/\t<(n:Int))/\ts.Pairwise (· < ·))->∃S:List (List Nat),l=S.map iU/\∀r∈S,r≠[]/\r.length<=30/\∀t∈r,t<n:=by
  have one:∀ts:List Int,(∀t∈ts,0<=t/\t<(n:Int))->∃r:List Nat,ts.map PyData.int=r.map rm/\r.length=ts.length/\∀t∈r,t<n:=by
   intro ts;induction ts with
   | nil=>intro _;exact ⟨[],rfl,rfl,by simp⟩
   | cons a r ih=>
    intro h;have ha:=h a mem_cons_self
    obtain ⟨t,e,el,ht⟩:=ih fun b hb=>h b (mem_cons_of_mem _ hb)
    refine ⟨a.toNat::t,?_,by simp [el],fun c hc=>(List.mem_cons.mp hc).elim (fun e=>by omega) (ht c)⟩
    rw [map_cons,map_cons,e];congr 2
    omega
  intro l;induction l with
  | nil=>intro _;exact ⟨[],rfl,by simp⟩
  | cons a r ih=>
   intro h;obtain ⟨ts,rfl,t1,t2,t3,_⟩:=h a mem_cons_self;obtain ⟨x,e,el,hx⟩:=one ts t3;obtain ⟨S,rfl,hS⟩:=ih fun b hb=>h b (mem_cons_of_mem _ hb)
   refine ⟨x::S,by rw [map_cons,e],fun c hc=>(List.mem_cons.mp hc).elim (fun e=>by
    subst e;exact ⟨fun z=>t2 (List.length_eq_zero_iff.mp (by rw [<-el,z];rfl)),by omega,hx⟩) (hS c)⟩
 obtain ⟨M,eM,hM⟩:=hm ms fun r hr=>let ⟨xs,a,b,_⟩:=g.m r hr;⟨xs,a,b⟩
 obtain ⟨S,eS,hS⟩:=hs ss g.s;subst eM eS;refine ⟨⟨n,os,M,S⟩,⟨g,h1,h24,?_,?_,hS,hM⟩,rfl,rfl⟩
 ·have:=g.lm;simpa using this
 ·have:=g.ls;simpa using this
noncomputable def knd:List Wr:=[.mark,.mark,.not,.and,.su,.au,.sn,.an,.sa,.aa,.or,.yes]
@[simp] theorem Kh (a:Wr):dS false (.str a.t) (.tuple [.str "and",.str "or",.str "some until",.str "all until"])=some (.bool (decide (a=.and\/a=.or\/a=.su\/a=.au))):=by cases a<;>kernel_rfl
theorem Dn {s a:Sn} (h:a∈s.args):a.dep+1<=s.dep:=by
 cases s with
 | yes=>simp [Sn.args] at h
 | mk c=>simp [Sn.args] at h
 | un k b=>simp [Sn.args] at h;subst h;simp [Sn.dep]
 | bi k b c=>
  simp [Sn.args] at h
  simp only [Sn.dep]
  rcases h with rfl | rfl<;>omega
end KC
namespace KQ
open PySem PySem.Spec L2 T PySem.SeqAt KC
open PyProof.Rows hiding St
noncomputable def d__law_world:FS:=(ak (aE false 3 (ay aW (eK (.int 1)) (ay bN (aj 2 aC (ae (af 0) (ae (af 1) ah))) (af 2))))
  (ak (aE true 4 (aG .leaf ah))
  (ak (aE true 5 (aG .leaf ah))
  (ak (aE true 6 (aG .leaf ah))
  (ak (eJ 7 (hU (ae (af 3) ah))
  (ak (aE false 8 (aj 2 aC (ae (af 0) (ae (ay aW (ay aW (af 1) (eK (.int 1))) (af 7)) ah))))
  (ak (aV 4 (aj 3 az (ae (af 8) (ae (eK (.int 0)) (ae (eK (.int 2)) ah)))))
  (ak (aV 5 (aN .leaf 11 (zU "abc") (aO ao (ay aZ (aj 3 az (ae (af 8) (ae (ay aW (eK (.int 1)) (bW (Aa "abc") (ae (af 11) ah))) (ae (eK (.int 2)) ah)))) (eK (.int 1)))) (af 11)))
  (ak (aE false 9 (aN .leaf 10 (hU (ae (af 3) ah)) (aO ao (ay aZ (aj 3 az (ae (af 8) (ae (ay aW (eK (.int 4)) (af 10)) (ae (ay aW (eK (.int 2)) (bW ox (ae (ay jz (af 3) (eK (.int 3))) ah))) ah)))) (eK (.int 1)))) (af 10)))
  (ak (bO (aO ao (ay aZ (af 9) (aG .leaf ah))) (aE false 9 (aG .leaf (ae (aj 3 az (ae (af 8) (ae (ay aW (eK (.int 4)) (af 3)) (ae (af 3) ah)))) ah))) aP)
  (aV 6 (af 9))))))))
  (aS (bx (ae (cP 4) (ae (cP 5) (ae (cP 6) ah))))))))))
noncomputable def m__law_world:List PySem.PyData->bA:=aA 12 d__law_world
noncomputable abbrev eW:FS:=(ak (aE false 8 (aj 2 aC (ae (af 0) (ae (ay aW (ay aW (af 1) (eK (.int 1))) (af 7)) ah))))
  (ak (aV 4 (aj 3 az (ae (af 8) (ae (eK (.int 0)) (ae (eK (.int 2)) ah)))))
  (ak (aV 5 (aN .leaf 11 (zU "abc") (aO ao (ay aZ (aj 3 az (ae (af 8) (ae (ay aW (eK (.int 1)) (bW (Aa "abc") (ae (af 11) ah))) (ae (eK (.int 2)) ah)))) (eK (.int 1)))) (af 11)))
  (ak (aE false 9 (aN .leaf 10 (hU (ae (af 3) ah)) (aO ao (ay aZ (aj 3 az (ae (af 8) (ae (ay aW (eK (.int 4)) (af 10)) (ae (ay aW (eK (.int 2)) (bW ox (ae (ay jz (af 3) (eK (.int 3))) ah))) ah)))) (eK (.int 1)))) (af 10)))
  (ak (bO (aO ao (ay aZ (af 9) (aG .leaf ah))) (aE false 9 (aG .leaf (ae (aj 3 az (ae (af 8) (ae (ay aW (eK (.int 4)) (af 3)) (ae (af 3) ah)))) ah))) aP)
  (aV 6 (af 9)))))))
end KQ
namespace KC
open PySem PySem.Spec L2 T PySem.SeqAt
open PyProof.Rows hiding St
theorem An {n:Nat} {fl:FL} {Γ:Ev} {s:Sh} (hn:n<=1000) (h:fl Γ=.ok [⟨s,.int (n:Int)⟩] Γ):hU fl Γ=.ok ⟨(List.range n).map rm,true⟩ Γ:=by
 rw [sS (k:=(n:Int)) h rfl (by omega) (by omega),Int.toNat_natCast,pz]
theorem Ao {n:Nat} {fl:FL} {Γ:Ev} {s:Sh} (hn:n<=1000) (h:fl Γ=.ok [⟨s,.int (n:Int)⟩] Γ):vL fl Γ=.ok ⟨.lst .leaf,iU (List.range n)⟩ Γ:=by
 rw [JB (k:=(n:Int)) h rfl (by omega) (by omega),Int.toNat_natCast,pz]
theorem xr {r:List Nat}:r.map rm=(r.map fun t:Nat=>(t:Int)).map PyData.int:=by rw [map_map];rfl
noncomputable def Me (p:Int):D->Bool
 | .int o=>o==p
 | _=>false
noncomputable def own (w:Wd) (p:Int):Nat->Bool:=LH (w.os.map (Me p))
theorem Wd.Ok.o_at {w:Wd} (ok:w.Ok) {r:Nat} (hr:r<w.n):∃o:Int,(o=0\/o=1)/\fY w.os (r:Int)=some (.int o)/\∀p,own w p r=(o==p):=by
 have hl:r<w.os.length:=by rw [ok.g.lo];exact hr
 have hm:=ok.g.o _ (getElem_mem hl)
 have key:∀o:Int,w.os[r]=.int o->fY w.os (r:Int)=some (.int o)/\∀p,own w p r=(o==p):=fun o e=>by
  refine ⟨Ik (by rw [getElem?_eq_getElem hl,e]),fun p=>?_⟩
  unfold own LH;rw [getD_eq_getElem?_getD,getElem?_map,getElem?_eq_getElem hl,e];rfl
 rcases hm with e | e
 ·exact ⟨0,.inl rfl,key 0 e⟩
 ·exact ⟨1,.inr rfl,key 1 e⟩
noncomputable def Wd.inn (w:Wd) (L:List Nat):Wd:=⟨w.n,w.os,w.m,w.s.map fun row=>row.filter fun t=>L.contains t⟩
noncomputable abbrev gl (T L:List Nat):List Nat:=L.filter fun r=>T.contains r
noncomputable abbrev lst (rk:List (Option Nat)) (L:List Nat):List Nat:=L.filter fun r=>(DP rk r).isNone
noncomputable def HN (tn:List (Option (Nat×Nat))) (t:Nat):Option (Nat×Nat):=tn.getD t none
noncomputable def KH (tn:List (Option (Nat×Nat))) (a b t:Nat):Prop:=∃a' b',HN tn t=some (a',b')/\(a'<a\/(a'=a/\(b'<b\/(b=0/\b'=0))))
structure TS where
 tn:List (Option (Nat×Nat))
 L:List Nat
 k:Nat
 lost:List Nat
 x7:Option PV
 x8:Option PV
structure TI (w:Wd) (p:Int) (T:List Nat) (b:TS):Prop where
 len:b.tn.length=w.n
 std:LN w.n b.L
 mem:∀r,r<w.n->(r∈b.L↔HN b.tn r=none)
 c:∀r∈b.L,led (own w p r) (w.stp r) (·∈b.L)
 big:∀X,KD w.n w.stp (own w p) (·∈T) X->∀r,X r->r∈b.L
 los:∃rk,Dh w.n (inn w.stp b.L) (own w p) b.L (gl T b.L) rk/\b.lost=lst rk b.L
 tk:∀r a j,HN b.tn r=some (a,j)->a<b.k
 td:∀r a j,r<w.n->HN b.tn r=some (a,j)->(j=0->r∉T)/\led (!own w p r) (w.stp r) (KH b.tn a j)
noncomputable abbrev Ke (w:Wd) (c:Str) (r:Nat):Prop:=c∈w.mks r
noncomputable abbrev gm (w:Wd) (c:Str) (L:List Nat):List Nat:=L.filter fun r=>(w.mks r).contains c
structure GT (w:Wd) (M:List Str) (L off:List Nat):Prop where
 ne:off≠[]
 sub:∀r∈off,r∈L
 no:∀(R:Nat->Prop) X,Fr w.n w.stp R M (Ke w) X->(∀r,X r->r∈L)->∀r∈off,¬X r
structure GZ (w:Wd) (M:List Str) (L:List Nat):Prop where
 c:∀r∈L,∃t∈w.stp r,t∈L
 a:∀m∈M,∀S:Nat->Prop,(∀r,r∈L->Ke w m r->S r)->(∀r,r∈L->(∃t∈w.stp r,t∈L/\S t)->S r)->∀r,r∈L->S r
structure Mq where
 rows:List D
 L:List Nat
 row:D
structure FI (w:Wd) (R:List Nat) (M:List Str) (b:Mq):Prop where
 std:LN w.n b.L
 sub:∀r∈b.L,r∈R
 cnt:b.rows.length+b.L.length<=w.n
 big:∀X,Fr w.n w.stp (·∈R) M (Ke w) X->∀r,X r->r∈b.L
 row:(b.row=.none/\GZ w M b.L)\/(∃off o,b.row=.tuple [iU off,o]/\GT w M b.L off)
theorem xm {w:Wd} (ok:w.Ok) {Γ:Ev} {i:Nat} (h0:Γ[i]?=some (some ⟨.leaf,w.enc⟩)):bW bt (ae (av (af i) (eK (.int 0))) ah) Γ=.ok ⟨.leaf,.int (w.n:Int)⟩ Γ:=by
 have e:av (af i) (eK (.int 0)) Γ=.ok ⟨.leaf,.list w.os⟩ Γ:=by
  rw [iy,aD h0];simp only [Out.bind,aX,Wd.enc,eQ,mn,uy]
 refine dU (aw e ai) ?_
 simp [ok.g.lo]
end KC
namespace KQ
open PySem PySem.Spec L2 T PySem.SeqAt KC
open PyProof.Rows hiding St
noncomputable abbrev GP (w:Wd) (p c:Int) (b:Bool) (l:List (Option Nat)) (x5 x6 x7:Option PV):Ev:=[some ⟨.leaf,w.enc⟩,some ⟨.leaf,.int p⟩,some ⟨.leaf,.int c⟩,some ⟨.leaf,.bool b⟩,some ⟨.lst .leaf,JI l⟩,x5,x6,x7]
end KQ
namespace KC
open PySem PySem.Spec L2 T PySem.SeqAt
open PyProof.Rows hiding St
noncomputable abbrev GA (ch:List (Option Nat)) (r:Nat) (b:List Nat×Option Nat):Ev:=[some ⟨.leaf,JI ch⟩,some ⟨.leaf,rm r⟩,some ⟨.lst .leaf,iU b.1⟩,some ⟨.leaf,oD b.2⟩,none]
end KC
namespace KC
open PySem PySem.Spec L2 T
open PyProof.Rows hiding St
noncomputable def iQ:FS:=(ak (aE true 3 (aG .leaf ah))
  (ak (eJ 4 (hU (ae (bW bt (ae (av (af 0) (eK (.int 0))) ah)) ah))
  (ak (aE false 5 (aN .leaf 6 (b9 (av (av (af 0) (eK (.int 2))) (af 4))) (aO ao (ay (dS false) (af 6) (af 1))) (af 6)))
  (bO (eN (aO ao (ay aZ (bW bt (ae (af 5) ah)) (bW bt (ae (av (av (af 0) (eK (.int 2))) (af 4)) ah)))) (GI (cU (aO bY (af 2))) (aO ao (ay jz (bW bt (ae (af 5) ah)) (eK (.int 0)))))) (aV 3 (af 4)) aP)))
  (aS (cP 3))))
noncomputable def eF:List PySem.PyData->bA:=aA 7 iQ
noncomputable def lh:FS:=(ak (aE false 4 (af 2))
  (ak (eJ 5 (hU (ae (bW bt (ae (av (af 0) (eK (.int 0))) ah)) ah))
  (ak (aE false 6 (aj 3 eF (ae (af 0) (ae (af 4) (ae (af 3) ah)))))
  (aE false 4 (eo (ae (gL (af 2) (aN .leaf 7 (b9 (af 1)) (GI (aO ao (ay (dS false) (af 7) (af 6))) (aO ao (ay (dS true) (af 7) (af 2)))) (af 7))) ah)))))
  (aS (af 4))))
noncomputable def gD:List PySem.PyData->bA:=aA 8 lh
noncomputable def lj (r__law_judge:List PySem.PyData->bA):FS:=(ak (aE false 2 (vL (ae (bW bt (ae (av (af 0) (eK (.int 0))) ah)) ah)))
  (ak (aE false 3 (av (af 1) (eK (.int 0))))
  (ak (bO (aO ao (ay aZ (af 3) (eK (.str "yes")))) (aS (af 2)) aP)
  (ak (bO (aO ao (ay aZ (af 3) (eK (.str "mark")))) (aS (aN .leaf 8 (b9 (af 2)) (aO ao (ay (dS false) (av (af 1) (eK (.int 1))) (av (av (af 0) (eK (.int 1))) (af 8)))) (af 8))) aP)
  (ak (aE false 4 (aj 2 r__law_judge (ae (af 0) (ae (av (af 1) (eK (.int 1))) ah))))
  (ak (aE false 5 (aN .leaf 8 (b9 (af 2)) (aO ao (ay (dS true) (af 8) (af 4))) (af 8)))
  (ak (bO (aO ao (ay aZ (af 3) (eK (.str "not")))) (aS (af 5)) aP)
  (ak (bO (eN (aO ao (ay aZ (af 3) (eK (.str "some next")))) (aO ao (ay aZ (af 3) (eK (.str "all next"))))) (aS (aj 3 eF (ae (af 0) (ae (af 4) (ae (ay aZ (af 3) (eK (.str "all next"))) ah))))) aP)
  (ak (bO (eN (aO ao (ay aZ (af 3) (eK (.str "some always")))) (aO ao (ay aZ (af 3) (eK (.str "all always"))))) (ak (aE false 7 (aj 4 gD (ae (af 0) (ae (af 2) (ae (af 5) (ae (ay aZ (af 3) (eK (.str "some always"))) ah))))))
  (aS (aN .leaf 8 (b9 (af 2)) (aO ao (ay (dS true) (af 8) (af 7))) (af 8)))) aP)
  (ak (aE false 6 (aj 2 r__law_judge (ae (af 0) (ae (av (af 1) (eK (.int 2))) ah))))
  (ak (bO (aO ao (ay aZ (af 3) (eK (.str "and")))) (aS (aN .leaf 8 (b9 (af 4)) (aO ao (ay (dS false) (af 8) (af 6))) (af 8))) aP)
  (ak (bO (aO ao (ay aZ (af 3) (eK (.str "or")))) (aS (aN .leaf 8 (b9 (af 2)) (eN (aO ao (ay (dS false) (af 8) (af 4))) (aO ao (ay (dS false) (af 8) (af 6)))) (af 8))) aP)
  (aS (aj 4 gD (ae (af 0) (ae (af 4) (ae (af 6) (ae (ay aZ (af 3) (eK (.str "all until"))) ah))))))))))))))))))
noncomputable def gz:Nat->List PySem.PyData->bA
 | 0=>fun _=>.no
 | n+1=>aA 9 (lj (gz n))
noncomputable def gE:List PySem.PyData->bA:=gz 20
open PySem.SeqAt
@[simp] theorem LC (a:Wr):aZ (.str a.t) (.str "some next")=some (.bool (decide (a=.sn))):=eG a .sn
@[simp] theorem mV (a:Wr):aZ (.str a.t) (.str "all next")=some (.bool (decide (a=.an))):=eG a .an
@[simp] theorem LF (a:Wr):aZ (.str a.t) (.str "some always")=some (.bool (decide (a=.sa))):=eG a .sa
@[simp] theorem qk (a:Wr):aZ (.str a.t) (.str "all always")=some (.bool (decide (a=.aa))):=eG a .aa
@[simp] theorem LA (a:Wr):aZ (.str a.t) (.str "some until")=some (.bool (decide (a=.su))):=eG a .su
@[simp] theorem vJ (a:Wr):aZ (.str a.t) (.str "all until")=some (.bool (decide (a=.au))):=eG a .au
theorem Eb {sh:Sh} {d:D} (h:sh.isView=false):coer .leaf ⟨sh,d⟩=true:=by
 unfold coer;simp [h]
theorem Hl (a b:Wr):PyData.eqv (.str a.t) (.str b.t)=decide (a=b):=by
 have h:=eG a b
 unfold aZ at h;rw [D4 (fF a),D4 (fF b)] at h;simpa using h
theorem AJ {k k':U5}:k.w=k'.w↔k=k':=by cases k<;>cases k'<;>simp [U5.w]
theorem Da {k k':B4}:k.w=k'.w↔k=k':=by cases k<;>cases k'<;>simp [B4.w]
theorem Hq {xs ys:List D}:PyData.eqv (.tuple xs) (.tuple ys)=PyData.eqvAll xs ys:=by rw [PyData.eqv]
theorem G7 {x y:D} {xs ys:List D}:PyData.eqvAll (x::xs) (y::ys)=(PyData.eqv x y&&PyData.eqvAll xs ys):=by rw [PyData.eqvAll]
theorem G9:PyData.eqvAll [] []=true:=by rw [PyData.eqvAll]
theorem G8 {y:D} {ys:List D}:PyData.eqvAll [] (y::ys)=false:=by rw [PyData.eqvAll]
theorem Im {y:D} {ys:List D}:PyData.eqvAll (y::ys) []=false:=by rw [PyData.eqvAll]
theorem CV {x y:Str}:PyData.eqv (.str x) (.str y)=(x==y):=by rw [PyData.eqv]
theorem Io {x:Str} {s:Sn}:PyData.eqv (.str x) s.enc=false/\PyData.eqv s.enc (.str x)=false:=by
 cases s<;>exact ⟨by rw [Sn.enc,PyData.eqv],by rw [Sn.enc,PyData.eqv]⟩
theorem vb {k:U5}:(Wr.mark=k.w)=False/\(k.w=Wr.mark)=False:=by cases k<;>simp [U5.w]
theorem qm (s:Sn):∀t:Sn,PyData.eqv s.enc t.enc=true↔s=t:=by
 induction s with
 | yes=>intro t;cases t<;>simp only [Sn.enc,Hq,G7,G9,G8,Hl]<;>simp
 | mk c=>intro t;cases t<;>simp only [Sn.enc,Hq,G7,G9,G8,Im,Hl,CV,Io,vb]<;>simp
 | un k a ih=>intro t;cases t<;>simp only [Sn.enc,Hq,G7,G9,G8,Im,Hl,Io,vb,Bool.and_eq_true,ih,decide_eq_true_eq,AJ,Sn.un.injEq]<;>simp
 | bi k a b ia ib=>intro t;cases t<;>simp only [Sn.enc,Hq,G7,G9,G8,Im,Hl,Io,Bool.and_eq_true,ia,ib,decide_eq_true_eq,Da,Sn.bi.injEq]<;>simp
theorem ql {s:Sn} (h:s.ok):PyData.canLay0 s.enc=true/\PyData.depth s.enc=s.dep:=by
 induction s with
 | yes=>exact ⟨by simp [Sn.enc,PyData.canLay0,PyData.canLayAll0,fF],by simp [Sn.enc,PyData.depth,PyData.depthAll,Sn.dep]⟩
 | mk c=>exact ⟨by simp [Sn.enc,PyData.canLay0,PyData.canLayAll0,fF,(Hf h).1],by simp [Sn.enc,PyData.depth,PyData.depthAll,Sn.dep]⟩
 | un k a ih=>obtain ⟨h1,h2⟩:=ih h;exact ⟨by simp [Sn.enc,PyData.canLay0,PyData.canLayAll0,fF,h1],by simp [Sn.enc,PyData.depth,PyData.depthAll,Sn.dep,h2]⟩
 | bi k a b ia ib=>obtain ⟨h1,h2⟩:=ia h.1;obtain ⟨h3,h4⟩:=ib h.2;exact ⟨by simp [Sn.enc,PyData.canLay0,PyData.canLayAll0,fF,h1,h3],by simp [Sn.enc,PyData.depth,PyData.depthAll,Sn.dep,h2,h4]⟩
theorem vK {s:Sn} (h:s.ok) (hd:s.dep<=60):shaped s.enc=true:=by
 obtain ⟨h1,h2⟩:=ql h;unfold shaped;rw [h1,h2];simp
 omega
theorem CY {s t:Sn} (hs:s.ok) (ht:t.ok) (ds:s.dep<=60) (dt:t.dep<=60):aZ s.enc t.enc=some (.bool (decide (s=t))):=by
 unfold aZ;rw [vK hs ds,vK ht dt];simp only [Bool.and_self,if_true]
 congr 2
 rw [Bool.eq_iff_iff,qm,decide_eq_true_eq]
noncomputable abbrev dX:Sn:=.un .not .yes
noncomputable def xV:Sn->Sn
 | .un .not a=>a
 | s=>.un .not s
noncomputable def iC (k:B4) (one oth idle rul:Sn):Sn:=if one=rul\/oth=idle\/one=oth then one else if oth=rul\/one=idle then oth else .bi k one oth
noncomputable def bz:Sn->Sn
 | .yes=>.yes
 | .mk c=>.mk c
 | .un .not a=>xV (bz a)
 | .un k a=>if bz a=.yes\/bz a=dX then bz a else .un k (bz a)
 | .bi .and a b=>iC .and (bz a) (bz b) .yes dX
 | .bi .or a b=>iC .or (bz a) (bz b) dX .yes
 | .bi k a b=>if bz a=dX\/bz b=.yes\/bz b=dX then bz b else .bi k (bz a) (bz b)
noncomputable def iD:Sn->Bool
 | .un .not _=>true
 | _=>false
noncomputable def Cl:Sn->Prop
 | .yes=>True
 | .mk _=>True
 | .un .not a=>Cl a/\iD a=false
 | .un _ a=>Cl a/\a≠.yes/\a≠dX
 | .bi .and a b=>Cl a/\Cl b/\a≠.yes/\a≠dX/\b≠.yes/\b≠dX/\a≠b
 | .bi .or a b=>Cl a/\Cl b/\a≠.yes/\a≠dX/\b≠.yes/\b≠dX/\a≠b
 | .bi _ a b=>Cl a/\Cl b/\a≠dX/\b≠.yes/\b≠dX
theorem BU {s:Sn} (h:iD s=false):xV s=.un .not s:=by
 cases s with
 | un k a=>cases k<;>first | rfl | (simp [iD] at h)
 | _=>rfl
theorem IY (s:Sn):(∃a,s=.un .not a/\xV s=a)\/(iD s=false/\xV s=.un .not s):=by
 cases h:iD s with
 | false=>exact .inr ⟨rfl,BU h⟩
 | true=>
  cases s with
  | un k a=>cases k<;>first | exact .inl ⟨a,rfl,rfl⟩ | (simp [iD] at h)
  | _=>simp [iD] at h
structure wN (s t:Sn):Prop where
 ok:t.ok
 sz:t.size<=s.size
 dp:t.dep<=s.dep
 cl:Cl t
theorem Sn.dep_pos (s:Sn):1<=s.dep:=by cases s<;>simp [Sn.dep]
theorem tY {s:Sn} (h:s.ok):wN s (bz s):=by
 induction s with
 | yes=>exact ⟨trivial,Nat.le_refl _,Nat.le_refl _,trivial⟩
 | mk c=>exact ⟨h,Nat.le_refl _,Nat.le_refl _,trivial⟩
 | un k a ih=>
  have i:=ih h
  have i1:=i.sz
  have i2:=i.dp
  have oth:∀k,k≠.not->(∀t,bz (.un k a)=t->t=if bz a=.yes\/bz a=dX then bz a else .un k (bz a))->wN (.un k a) (bz (.un k a)):=fun k hk he=>by
   rw [he _ rfl];split
   ·exact ⟨i.ok,by simp only [Sn.size];omega,by simp only [Sn.dep];omega,i.cl⟩
   ·rename_i z
    rw [not_or] at z;refine ⟨i.ok,by simp only [Sn.size];omega,by simp only [Sn.dep];omega,?_⟩
    cases k<;>first | exact absurd rfl hk | exact ⟨i.cl,z.1,z.2⟩
  cases k with
  | not=>
   show wN _ (xV (bz a))
   rcases IY (bz a) with ⟨b,e1,e2⟩ | ⟨e1,e2⟩
   ·rw [e2]
    have hc:=i.cl
    rw [e1] at hc i1 i2
    have ho:=i.ok
    rw [e1] at ho;simp only [Sn.size,Sn.dep] at i1 i2
    exact ⟨ho,by simp only [Sn.size];omega,by simp only [Sn.dep];omega,hc.1⟩
   ·rw [e2]
    exact ⟨i.ok,by simp only [Sn.size];omega,by simp only [Sn.dep];omega,i.cl,e1⟩
  | sn=>exact oth .sn (by simp) fun t e=>by rw [<-e];rfl
  | an=>exact oth .an (by simp) fun t e=>by rw [<-e];rfl
  | sa=>exact oth .sa (by simp) fun t e=>by rw [<-e];rfl
  | aa=>exact oth .aa (by simp) fun t e=>by rw [<-e];rfl
 | bi k a b ia ib=>
  have i:=ia h.1
  have j:=ib h.2
  have i1:=i.sz
  have i2:=i.dp
  have j1:=j.sz
  have j2:=j.dp
  have fa:∀k,wN (.bi k a b) (bz a):=fun k=>⟨i.ok,by simp only [Sn.size];omega,by simp only [Sn.dep];omega,i.cl⟩
  have fb:∀k,wN (.bi k a b) (bz b):=fun k=>⟨j.ok,by simp only [Sn.size];omega,by simp only [Sn.dep];omega,j.cl⟩
  have fc:∀k,Cl (.bi k (bz a) (bz b))->wN (.bi k a b) (.bi k (bz a) (bz b)):=fun k hc=>⟨⟨i.ok,j.ok⟩,by simp only [Sn.size];omega,by simp only [Sn.dep];omega,hc⟩
  cases k with
  | and=>
   show wN _ (iC .and (bz a) (bz b) .yes dX)
   unfold iC;split
   ·exact fa _
   ·rename_i z
    rw [not_or,not_or] at z;split
    ·exact fb _
    ·rename_i y
     rw [not_or] at y;exact fc _ ⟨i.cl,j.cl,y.2,z.1,z.2.1,y.1,z.2.2⟩
  | or=>
   show wN _ (iC .or (bz a) (bz b) dX .yes)
   unfold iC;split
   ·exact fa _
   ·rename_i z
    rw [not_or,not_or] at z;split
    ·exact fb _
    ·rename_i y
     rw [not_or] at y;exact fc _ ⟨i.cl,j.cl,z.1,y.2,y.1,z.2.1,z.2.2⟩
  | su=>
   show wN _ (if bz a=dX\/bz b=.yes\/bz b=dX then bz b else .bi .su (bz a) (bz b))
   split
   ·exact fb _
   ·rename_i z
    rw [not_or,not_or] at z;exact fc _ ⟨i.cl,j.cl,z.1,z.2.1,z.2.2⟩
  | au=>
   show wN _ (if bz a=dX\/bz b=.yes\/bz b=dX then bz b else .bi .au (bz a) (bz b))
   split
   ·exact fb _
   ·rename_i z
    rw [not_or,not_or] at z;exact fc _ ⟨i.cl,j.cl,z.1,z.2.1,z.2.2⟩
noncomputable def Pl:Nat->D->Prop
 | 0,d=>∃s,d=.str s/\PyData.strOk s=true
 | n+1,d=>(∃s,d=.str s/\PyData.strOk s=true)\/∃l,d=.tuple l/\l.length<=8/\∀x∈l,Pl n x
theorem Pl.up {n:Nat}:∀{d:D},Pl n d->Pl (n+1) d:=by
 induction n with
 | zero=>intro d h;exact .inl h
 | succ n ih=>
  intro d h;rcases h with h | ⟨l,e,h1,h2⟩
  ·exact .inl h
  ·exact .inr ⟨l,e,h1,fun x hx=>ih (h2 x hx)⟩
theorem D9 {n:Nat} {s:Str} (h:PyData.strOk s=true):Pl n (.str s):=by
 cases n with
 | zero=>exact ⟨s,rfl,h⟩
 | succ n=>exact .inl ⟨s,rfl,h⟩
theorem Hh {n:Nat} {l:List D} (h1:l.length<=8) (h2:∀x∈l,Pl n x):Pl (n+1) (.tuple l):=.inr ⟨l,rfl,h1,h2⟩
theorem Pl.items {n:Nat} {l:List D} (h:Pl (n+1) (.tuple l)):l.length<=8/\∀x∈l,Pl n x:=by
 rcases h with ⟨s,e,_⟩ | ⟨l',e,h⟩
 ·cases e
 ·cases e;exact h
theorem Pl.tup_pos {n:Nat} {l:List D} (h:Pl n (.tuple l)):∃m,n=m+1:=by
 cases n with
 | zero=>obtain ⟨s,e,_⟩:=h;cases e
 | succ n=>exact ⟨n,rfl⟩
theorem BF {n:Nat}:∀{d:D},Pl n d->d.canLay0=true/\d.depth<=n:=by
 induction n with
 | zero=>intro d ⟨s,e,h⟩;subst e;exact ⟨by simpa [PyData.canLay0] using h,by simp [PyData.depth]⟩
 | succ n ih=>
  intro d h;rcases h with ⟨s,e,h⟩ | ⟨l,e,h1,h2⟩
  ·subst e;exact ⟨by simpa [PyData.canLay0] using h,by simp [PyData.depth]⟩
  ·subst e
   have:∀l:List D,(∀x∈l,Pl n x)->PyData.canLayAll0 l=true/\PyData.depthAll l<=n:=by
    intro l;induction l with
    | nil=>intro _;exact ⟨rfl,Nat.zero_le _⟩
    | cons a r ir=>
     intro h;obtain ⟨a1,a2⟩:=ih (h a (mem_cons_self ..));obtain ⟨b1,b2⟩:=ir fun x hx=>h x (mem_cons_of_mem _ hx)
     exact ⟨by simp [PyData.canLayAll0,a1,b1],by simp only [PyData.depthAll];omega⟩
   obtain ⟨c1,c2⟩:=this l h2;exact ⟨by simpa [PyData.canLay0] using c1,by simp only [PyData.depth];omega⟩
theorem Fj {n:Nat} {d:D} (h:Pl n d) (hn:n<=60):shaped d=true:=by
 obtain ⟨h1,h2⟩:=BF h;unfold shaped;rw [h1];simp
 omega
theorem Af {a b:Str} (ha:PyData.strOk a=true) (hb:PyData.strOk b=true):aZ (.str a) (.str b)=some (.bool (a==b)):=by
 unfold aZ;rw [D4 ha,D4 hb];rfl
theorem zR:PyData.strOk ("mark":Str)=true:=by decide +kernel
noncomputable def hX:D->Bool
 | .tuple (.str w::r)=>if w == "mark" then (match r with
  | [x]=>wL x
  | _=>false) else (match b8 w dB with
  | some k=>((r.length:Int)+1==1+k)
  | none=>false)
 | _=>false
noncomputable def ag:D->List D
 | .tuple (.str w::r)=>if w == "mark" then [] else r
 | _=>[]
theorem yk {n:Nat} {x:D} (h:Pl n x) (hn:n<=60):dS false x bI=some (.bool (wL x)):=by
 have h1:=Fj h hn
 have h2:=t9
 unfold bI at h2 ⊢
 simp only [dS,h1,h2,Bool.and_self,if_true]
 rfl
theorem Pl.cases {n:Nat} {x:D} (h:Pl n x):(∃s,x=.str s/\PyData.strOk s=true)\/∃l,x=.tuple l:=by
 cases n with
 | zero=>exact .inl h
 | succ n=>
  rcases h with h | ⟨l,e,_⟩
  ·exact .inl h
  ·exact .inr ⟨l,e⟩
theorem vY {n:Nat} {w:Str} {r:List D} (hw:PyData.strOk w=true) (hr:∀x∈r,Pl n x) (hn:n<=60):aL [.tuple (.str w::r)]=.ok ⟨.leaf,.bool (hX (.tuple (.str w::r)))⟩:=by
 have hz:((r.length:Int)+1==0)=false:=by
  have:¬((r.length:Int)+1=0):=by omega
  simpa using this
 have em:=Af hw zR
 cases hm:(w==("mark":Str)) with
 | true=>
  rw [hm] at em;match r,hr with
  | [],_=>simp [aL,aA,bq,aq,fx,lz,hX,eq_int,em,hm]
  | [x],hr=>simp [aL,aA,bq,aq,fx,lz,hX,eq_int,em,hm,yk (hr x (mem_cons_self ..)) hn]
  | x::y::q,_=>
   have h3:((q.length:Int)+1+1+1==2)=false:=by
    have:¬((q.length:Int)+1+1+1=2):=by omega
    simpa using this
   have h0:((q.length:Int)+1+1+1==0)=false:=by
    have:¬((q.length:Int)+1+1+1=0):=by omega
    simpa using this
   simp [aL,aA,bq,aq,fx,lz,hX,eq_int,em,hm,h3,h0]
 | false=>
  rw [hm] at em
  cases hk:b8 w dB with
  | none=>simp [aL,aA,bq,aq,fx,lz,hX,eq_int,em,hm,hk,hz]
  | some k=>simp [aL,aA,bq,aq,fx,lz,hX,eq_int,em,hm,hk,hz]
theorem yH {n:Nat} {d:D} (h:Pl n d) (hn:n<=60):aL [d]=.ok ⟨.leaf,.bool (hX d)⟩:=by
 rcases h.cases with ⟨s,e,_⟩ | ⟨l,e⟩
 ·subst e
  simp [aL,aA,bq,aq,fx,lz,hX]
 ·subst e
  obtain ⟨m,rfl⟩:=h.tup_pos;obtain ⟨hl,hp⟩:=h.items
  cases l with
  | nil=>simp [aL,aA,bq,aq,fx,lz,hX,eq_int]
  | cons x r=>
   rcases (hp x (mem_cons_self ..)).cases with ⟨w,e,hw⟩ | ⟨l',e⟩
   ·subst e
    exact vY hw (fun y hy=>hp y (mem_cons_of_mem _ hy)) (by omega)
   ·subst e
    have hz:((r.length:Int)+1==0)=false:=by
     have:¬((r.length:Int)+1=0):=by omega
     simpa using this
    simp [aL,aA,bq,aq,fx,lz,hX,eq_int,hz]
theorem oF {w:Str} {r:List D} (hw:PyData.strOk w=true):∃s,s.isView=false/\aT [.tuple (.str w::r)]=.ok ⟨s,.tuple (ag (.tuple (.str w::r)))⟩:=by
 have em:=Af hw zR
 cases hm:(w==("mark":Str)) with
 | true=>
  rw [hm] at em;exact ⟨.tup [],rfl,by simp [aT,aA,cB,aq,em,ag,hm]⟩
 | false=>
  rw [hm] at em;have z:(1:Int)<=(r.length:Int)+1:=by omega
  exact ⟨.leaf,rfl,by simp [aT,aA,cB,aq,em,ag,hm,z]⟩
noncomputable def DW (d:D):Prop:=∃s:Sn,s.ok/\s.enc=d
theorem qg {d:D} (h:hX d=true):∃w r,d=.tuple (.str w::r):=by
 unfold hX at h;split at h
 ·exact ⟨_,_,rfl⟩
 ·cases h
theorem yl {x:D} (h:wL x=true):∃c,x=.str c/\c∈dG:=by
 unfold wL at h;rw [any_eq_true] at h;obtain ⟨y,hy,e⟩:=h;simp only [mem_cons,not_mem_nil,or_false] at hy
 cases x with
 | str c=>
  refine ⟨c,rfl,?_⟩
  unfold dG;rcases hy with rfl | rfl | rfl | rfl | rfl | rfl<;>(simp only [PyData.eqv,beq_iff_eq] at e;subst e;simp)
 | _=>rcases hy with rfl | rfl | rfl | rfl | rfl | rfl<;>simp [PyData.eqv] at e
theorem yc {w:Str} {k:Int} (h:b8 w dB=some k):∃a:Wr,a≠.mark/\w=a.t/\a.ar=some k:=by
 by_cases hw:∃a:Wr,a≠.mark/\w=a.t
 ·obtain ⟨a,h1,rfl⟩:=hw
  exact ⟨a,h1,rfl,by rw [<-yd];exact h⟩
 ·exfalso
  have n:∀a:Wr,a≠.mark->w≠a.t:=fun a h1 h2=>hw ⟨a,h1,h2⟩
  unfold dB at h;simp only [b8] at h
  have n1:=n .yes (by decide);have n2:=n .not (by decide);have n3:=n .sn (by decide);have n4:=n .an (by decide);have n5:=n .sa (by decide);have n6:=n .aa (by decide);have n7:=n .and (by decide);have n8:=n .or (by decide);have n9:=n .su (by decide);have n0:=n .au (by decide)
  simp only [Wr.t] at n1 n2 n3 n4 n5 n6 n7 n8 n9 n0
  simp only [n1,n2,n3,n4,n5,n6,n7,n8,n9,n0,if_false] at h
  cases h
theorem AW {d:D} (h:hX d=true) (ha:∀a∈ag d,DW a):DW d:=by
 obtain ⟨w,r,rfl⟩:=qg h;simp only [hX] at h
 simp only [ag] at ha
 cases hm:(w==("mark":Str)) with
 | true=>
  rw [hm,if_pos rfl] at h;split at h
  ·obtain ⟨c,rfl,hc⟩:=yl h
   have ew:w = "mark":=by simpa using hm
   subst ew;exact ⟨.mk c,hc,rfl⟩
  ·cases h
 | false=>
  rw [hm,if_neg Bool.false_ne_true] at h ha
  split at h
  ·rename_i k hk
   obtain ⟨a,h1,rfl,h2⟩:=yc hk;have hl:(r.length:Int)=k:=by
    have:=beq_iff_eq.mp h
    omega
   have one:k=1->∃x,r=[x]:=fun z=>by
    match r,hl with
    | [x],_=>exact ⟨x,rfl⟩
    | [],e=>simp at e;omega
    | _::_::q,e=>simp at e;omega
   have two:k=2->∃x y,r=[x,y]:=fun z=>by
    match r,hl with
    | [x,y],_=>exact ⟨x,y,rfl⟩
    | [],e=>simp at e;omega
    | [_],e=>simp at e;omega
    | _::_::_::q,e=>simp at e;omega
   have un:∀u:U5,u.w=a->k=1->DW (.tuple (.str a.t::r)):=fun u hu hk=>by
    obtain ⟨x,rfl⟩:=one hk;obtain ⟨s,hs,rfl⟩:=ha x (mem_cons_self ..);exact ⟨.un u s,hs,by rw [Sn.enc,hu]⟩
   have bi:∀u:B4,u.w=a->k=2->DW (.tuple (.str a.t::r)):=fun u hu hk=>by
    obtain ⟨x,y,rfl⟩:=two hk;obtain ⟨s,hs,rfl⟩:=ha x (mem_cons_self ..);obtain ⟨t,ht,rfl⟩:=ha y (mem_cons_of_mem _ (mem_cons_self ..));exact ⟨.bi u s t,⟨hs,ht⟩,by rw [Sn.enc,hu]⟩
   cases a with
   | mark=>exact absurd rfl h1
   | yes=>
    have:k=0:=by simp [Wr.ar] at h2;omega
    have hr:r=[]:=List.length_eq_zero_iff.mp (by omega)
    subst hr;exact ⟨.yes,trivial,rfl⟩
   | not=>exact un .not rfl (by simp [Wr.ar] at h2;omega)
   | sn=>exact un .sn rfl (by simp [Wr.ar] at h2;omega)
   | an=>exact un .an rfl (by simp [Wr.ar] at h2;omega)
   | sa=>exact un .sa rfl (by simp [Wr.ar] at h2;omega)
   | aa=>exact un .aa rfl (by simp [Wr.ar] at h2;omega)
   | and=>exact bi .and rfl (by simp [Wr.ar] at h2;omega)
   | or=>exact bi .or rfl (by simp [Wr.ar] at h2;omega)
   | su=>exact bi .su rfl (by simp [Wr.ar] at h2;omega)
   | au=>exact bi .au rfl (by simp [Wr.ar] at h2;omega)
  ·cases h
theorem Dd (s:Sn):ag s.enc=s.args.map Sn.enc:=by
 cases s with
 | yes=>simp [Sn.enc,ag,Sn.args]
 | mk c=>rfl
 | un k a=>cases k<;>rfl
 | bi k a b=>cases k<;>rfl
theorem yy {s:Sn} (h:s.ok):hX s.enc=true:=by
 cases s with
 | yes=>decide +kernel
 | mk c=>exact (Hf h).2
 | un k a=>cases k<;>rfl
 | bi k a b=>cases k<;>rfl
theorem AU {s t:Sn} (hs:s.ok) (h:s.enc=t.enc):s=t:=by
 have:=(qm s t).mp
 rw [<-h] at this;exact this (eqv_refl _ (ql hs).1)
theorem BG {n:Nat}:∀{s:Sn},s.ok->s.dep<=n->Pl n s.enc:=by
 induction n with
 | zero=>intro s _ h;have:=s.dep_args;omega
 | succ n ih=>
  intro s h hd
  cases s with
  | yes=>exact Hh (by simp) fun x hx=>by rw [List.mem_singleton.mp hx];exact D9 (fF _)
  | mk c=>
   refine Hh (by simp) fun x hx=>?_
   rcases List.mem_cons.mp hx with rfl | hx
   ·exact D9 (fF _)
   ·rw [List.mem_singleton.mp hx];exact D9 (Hf h).1
  | un k a=>
   refine Hh (by simp) fun x hx=>?_
   rcases List.mem_cons.mp hx with rfl | hx
   ·exact D9 (fF _)
   ·rw [List.mem_singleton.mp hx];exact ih h (by simp only [Sn.dep] at hd;omega)
  | bi k a b=>
   simp only [Sn.dep] at hd
   refine Hh (by simp) fun x hx=>?_
   rcases List.mem_cons.mp hx with rfl | hx
   ·exact D9 (fF _)
   ·rcases List.mem_cons.mp hx with rfl | hx
    ·exact ih h.1 (by omega)
    ·rw [List.mem_singleton.mp hx];exact ih h.2 (by omega)
theorem pK {n:Nat} {d:D} (h:Pl n d) (hf:hX d=true):∃w r,d=.tuple (.str w::r)/\PyData.strOk w=true/\r.length<=7/\∀x∈r,Pl n x:=by
 obtain ⟨w,r,rfl⟩:=qg hf;obtain ⟨m,rfl⟩:=h.tup_pos;obtain ⟨hl,hp⟩:=h.items;rw [length_cons] at hl;refine ⟨w,r,rfl,?_,by omega,fun x hx=>(hp x (mem_cons_of_mem _ hx)).up⟩
 rcases (hp _ (mem_cons_self ..)).cases with ⟨s,e,hs⟩ | ⟨l,e⟩
 ·cases e;exact hs
 ·cases e
theorem wt {n:Nat} {d:D} (h:Pl n d) (hf:hX d=true):(ag d).length<=7/\∀x∈ag d,Pl n x:=by
 obtain ⟨w,r,rfl,_,hl,hp⟩:=pK h hf;simp only [ag]
 cases (w==("mark":Str)) with
 | true=>exact ⟨by simp,fun x hx=>by simp at hx⟩
 | false=>exact ⟨by simpa using hl,fun x hx=>hp x (by simpa using hx)⟩
theorem vX {n:Nat} {l:List D} (hn:l.length<=1000) (hl:∀d∈l,Pl n d/\hX d=true):bR [.list l]=.ok ⟨.lst .leaf,.list (l.flatMap ag)⟩:=by
 obtain ⟨y,e,_⟩:=IB (fun d:D=>d) (fun (b:List D) a=>b++ag a) (Inv:=fun b r=>b.length+7*r.length<=7000/\∀d∈r,Pl n d/\hX d=true) (i:=2) (body:=jF 1 (aj 1 aT (ae (af 2) ah))) (G:=fun b x=>[some ⟨.leaf,.list l⟩,some ⟨.lst .leaf,.list b⟩,x])
  (fun _ _=>by simp) (fun _ _ _=>by simp) (fun b a r hI=>by
   obtain ⟨hI1,hI2⟩:=hI;obtain ⟨p1,p2⟩:=hI2 a (mem_cons_self ..);obtain ⟨h2,_⟩:=wt p1 p2;obtain ⟨w,q,ea,hw,_⟩:=pK p1 p2;obtain ⟨sh,hv,hd⟩:=oF (r:=q) hw
   rw [<-ea] at hd;simp only [length_cons] at hI1
   refine ⟨?_,by simp only [length_append];omega,fun d hd=>hI2 d (mem_cons_of_mem _ hd)⟩
   rw [zJ (ds:=b) (es:=ag a) (p:=⟨sh,.tuple (ag a)⟩) rfl ?_ rfl (by simpa using hv) (by omega)]
   ·rfl
   ·exact df (aw (aD rfl) ai) hd rfl rfl) l [] none ⟨by simp;omega,hl⟩
 have ef:l.foldl (fun (b:List D) a=>b++ag a) []=l.flatMap ag:=by
  have:∀(l:List D) (b:List D),l.foldl (fun (b:List D) a=>b++ag a) b=b++l.flatMap ag:=by
   intro l;induction l with
   | nil=>intro b;simp
   | cons a r ih=>intro b;rw [List.foldl_cons,ih,flatMap_cons,append_assoc]
  rw [this,nil_append]
 rw [ef] at e;rw [List.map_id'' (fun _=>rfl)] at e
 refine bh ?_
 exact aB (Γ1:=[some ⟨.leaf,.list l⟩,some ⟨.lst .leaf,.list []⟩,none]) (by simp [aq]) (aB (iu (eB (s:=.leaf) (ds:=l) (aD rfl) rfl) e) (by simp))
noncomputable abbrev GY (s:D) (ls l:List D) (m:Nat):Ev:=[some ⟨.leaf,s⟩,some ⟨.lst .leaf,.list ls⟩,some ⟨.leaf,.list l⟩,some ⟨.leaf,.int (m:Int)⟩,none]
noncomputable abbrev yT:FB:=eN (aO ao (ay jz (af 3) (eK cb))) (eN (aO ao (ay aZ (bW bt (ae (af 1) ah)) (eK cf))) (cU (aO bY (bW (gJ false) (ae (aN .leaf 4 (b9 (af 2)) bD (aj 1 aL (ae (af 4) ah))) ah)))))
noncomputable abbrev yB:FS:=(ak (gv 3 (bW bt (ae (af 2) ah)))
  (ak (bO yT (aS (eK .none)) aP)
  (ak (aV 1 (af 2))
  (aE false 2 (aj 1 bR (ae (af 2) ah))))))
section
variable {n:Nat} {s:D} {ls l:List D} {m:Nat}
theorem zp:gv 3 (bW bt (ae (af 2) ah)) (GY s ls l m)=.nx (GY s ls l (m+l.length)):=by
 have h:bW bt (ae (af 2) ah) (GY s ls l m)=.ok ⟨.leaf,.int (l.length:Int)⟩ (GY s ls l m):=dU (g:=bt) (aw (aD rfl) ai) (by simp)
 unfold gv;show kc _ _ _=_
 unfold kc;rw [h];show oU 3 _ _ _=_
 unfold oU;simp
theorem AD (hn:n<=60) (hl:∀d∈l,Pl n d) (h1:l.length<=5000):yT (GY s ls l m)=.ok (decide (200<m)||(decide (ls.length=24)||!(l.all hX))) (GY s ls l m):=by
 have c1:=DM (Γ:=GY s ls l m) (s:=.leaf) (i:=4) (fi:=b9 (af 2)) (fe:=aj 1 aL (ae (af 4) ah)) (fun x:D=>x) l (fun x=>⟨.leaf,.bool (hX x)⟩) (st:=true) (by rw [List.map_id'' (fun _=>rfl)];exact eB (s:=.leaf) (aD rfl) rfl) (by simp) rfl (by omega) fun x hx=>⟨df (aw (aD rfl) ai) (yH (hl x hx) hn) rfl rfl,rfl⟩
 have g1:jz (.int (m:Int)) cb=some (.bool (decide (200<m))):=by
  show some (PyData.bool (decide ((200:Int)<(m:Int))))=_
  congr 2
  simp only [decide_eq_decide]
  omega
 have g2:aZ (.int (ls.length:Int)) cf=some (.bool (decide (ls.length=24))):=by
  show aZ (.int (ls.length:Int)) (.int 24)=_
  rw [KC.eq_int];congr 2
  rw [Bool.eq_iff_iff,beq_iff_eq,decide_eq_true_eq];omega
 exact fz (eO (s:=.leaf) (aQ (aD rfl) aX g1)) (fz (eO (s:=.leaf) (aQ (dU (g:=bt) (d:=.int (ls.length:Int)) (aw (Ew rfl) ai) rfl) aX g2)) (jv (iF (s:=.leaf) (dU (aw c1 ai) (zg (xs:=l) (f:=hX))))))
theorem sO (hn:n<=60) (hl:∀d∈l,Pl n d) (h1:l.length<=5000) (h2:ls.length<=24):(yB (GY s ls l m)=.rt ⟨.leaf,.none⟩/\¬(m+l.length<=200/\ls.length<24/\l.all hX=true)) \/
  (yB (GY s ls l m)=.nx (GY s (ls++[.list l]) (l.flatMap ag) (m+l.length))/\m+l.length<=200/\ls.length<24/\l.all hX=true):=by
 have t:=AD (s:=s) (ls:=ls) (m:=m+l.length) hn hl h1
 cases e:(decide (200<m+l.length)||(decide (ls.length=24)||!(l.all hX))) with
 | true=>
  rw [e] at t;refine .inl ⟨aB zp (sE (bJ t (fun _=>bg aX rfl) nofun)),fun ⟨a,b,c⟩=>?_⟩
  rw [c,decide_eq_false (by omega),decide_eq_false (by omega)] at e
  cases e
 | false=>
  rw [e] at t;simp only [Bool.or_eq_false_iff,decide_eq_false_iff_not,Bool.not_eq_false'] at e
  obtain ⟨a,b,c⟩:=e;have hf:∀d∈l,Pl n d/\hX d=true:=fun d hd=>⟨hl d hd,List.all_eq_true.mp c d hd⟩
  exact .inr ⟨aB zp (aB (bJ t nofun fun _=>rfl) (aB (wq rfl (aD rfl) rfl (by omega)) (ez (df (aw (aD rfl) ai) (vX (by omega) hf) rfl rfl) rfl (by simp)))),by omega,by omega,c⟩
end
theorem o4 {s:D} {ls l:List D} {m:Nat}:aO bY (af 2) (GY s ls l m)=.ok (!l.isEmpty) (GY s ls l m):=by
 unfold aO;rw [aD (d:=.list l) rfl];rfl
theorem ua {l:List D} (h:∀d∈l,DW d):∃S:List Sn,(∀s∈S,s.ok)/\l=S.map Sn.enc:=by
 induction l with
 | nil=>exact ⟨[],(fun _ z=>nomatch z),rfl⟩
 | cons a r ih=>
  obtain ⟨s,hs,rfl⟩:=h a (mem_cons_self ..);obtain ⟨S,hS,rfl⟩:=ih fun d hd=>h d (mem_cons_of_mem _ hd)
  exact ⟨s::S,fun x hx=>(List.mem_cons.mp hx).elim (fun e=>e▸hs) (hS x),rfl⟩
theorem mU (S:List Sn):(S.map Sn.enc).flatMap ag=(S.flatMap Sn.args).map Sn.enc:=by
 induction S with
 | nil=>rfl
 | cons a r ih=>rw [map_cons,flatMap_cons,flatMap_cons,List.map_append,ih,Dd]
theorem yb {S T:List Sn} (hS:∀s∈S,s.ok) (h:S.map Sn.enc=T.map Sn.enc):S=T:=by
 induction S generalizing T with
 | nil=>
  cases T with
  | nil=>rfl
  | cons _ _=>cases h
 | cons a r ih=>
  cases T with
  | nil=>cases h
  | cons b q=>
   rw [map_cons,map_cons,List.cons.injEq] at h;rw [AU (hS a (mem_cons_self ..)) h.1,ih (fun s hs=>hS s (mem_cons_of_mem _ hs)) h.2]
noncomputable def sA (l:List D) (m k:Nat):Prop:=∃S:List Sn,(∀s∈S,s.ok)/\l=S.map Sn.enc/\m+ja S<=200/\k+eL S<=24
theorem AE {n:Nat} (hn:n<=60) {s:D}:∀(j N:Nat) (ls l:List D) (m:Nat),ls.length+j=24->j+1<N->m<=200->l.length<=5000->(∀d∈l,Pl n d) ->
  (bK (aO bY (af 2)) yB N (GY s ls l m)=.rt ⟨.leaf,.none⟩/\¬sA l m ls.length)\/(∃ls' m',bK (aO bY (af 2)) yB N (GY s ls l m)=.nx (GY s ls' [] m')/\sA l m ls.length):=by
 intro j;induction j with
 | zero=>
  intro N ls l m h1 h2 h3 h4 h5;obtain ⟨N,rfl⟩:∃M,N=M+1:=⟨N-1,by omega⟩
  cases hl:l.isEmpty with
  | true=>
   have e:l=[]:=List.isEmpty_iff.mp hl
   subst e;exact .inr ⟨ls,m,by rw [bK,o4];rfl,[],(fun _ z=>nomatch z),rfl,by simp [ja];exact h3,by simp [eL];omega⟩
  | false=>
   have tt:aO bY (af 2) (GY s ls l m)=.ok true (GY s ls l m):=by rw [o4,hl];rfl
   rcases sO (s:=s) (m:=m) hn h5 h4 (by omega:ls.length<=24) with ⟨e,nf⟩ | ⟨e,_,hlt,_⟩
   ·refine .inl ⟨by rw [bK,tt];simp only [e],fun ⟨S,hS,el,_,hd⟩=>?_⟩
    have ne:S≠[]:=fun z=>by rw [z] at el;rw [el] at hl;cases hl
    have:=m8 ne
    omega
   ·omega
 | succ j ih=>
  intro N ls l m h1 h2 h3 h4 h5;obtain ⟨N,rfl⟩:∃M,N=M+1:=⟨N-1,by omega⟩
  cases hl:l.isEmpty with
  | true=>
   have e:l=[]:=List.isEmpty_iff.mp hl
   subst e;exact .inr ⟨ls,m,by rw [bK,o4];rfl,[],(fun _ z=>nomatch z),rfl,by simp [ja];exact h3,by simp [eL];omega⟩
  | false=>
   have tt:aO bY (af 2) (GY s ls l m)=.ok true (GY s ls l m):=by rw [o4,hl];rfl
   rcases sO (s:=s) (m:=m) hn h5 h4 (by omega:ls.length<=24) with ⟨e,nf⟩ | ⟨e,hm,hlt,hf⟩
   ·refine .inl ⟨by rw [bK,tt];simp only [e],fun ⟨S,hS,el,hz,hd⟩=>nf ⟨?_,by omega,?_⟩⟩
    ·have:=pT S
     rw [el,length_map];omega
    ·rw [el,all_eq_true]
     intro d hd'
     obtain ⟨t,ht,rfl⟩:=List.mem_map.mp hd'
     exact yy (hS t ht)
   ·have hfl:∀d∈l,hX d=true:=fun d hd=>List.all_eq_true.mp hf d hd
    have hpl:∀d∈l.flatMap ag,Pl n d:=fun d hd=>by
     obtain ⟨c,hc,hd⟩:=List.mem_flatMap.mp hd;exact (wt (h5 c hc) (hfl c hc)).2 d hd
    have hlen:(l.flatMap ag).length<=5000:=by
     have:∀q:List D,(∀d∈q,(ag d).length<=7)->(q.flatMap ag).length<=7*q.length:=by
      intro q;induction q with
      | nil=>intro _;simp
      | cons a r ir=>
       intro h;have a1:=h a (mem_cons_self ..)
       have a2:=ir fun d hd=>h d (mem_cons_of_mem _ hd)
       rw [flatMap_cons,length_append,length_cons];omega
     have:=this l fun d hd=>(wt (h5 d hd) (hfl d hd)).1
     omega
    have key:sA l m ls.length↔sA (l.flatMap ag) (m+l.length) (ls++[PyData.list l]).length:=by
     constructor
     ·rintro ⟨S,hS,el,hz,hd⟩
      have ne:S≠[]:=fun z=>by rw [z] at el;rw [el] at hl;cases hl
      have z1:=IG S
      have z2:=HF S ne
      refine ⟨S.flatMap Sn.args,fun t ht=>?_,by rw [el,mU],by rw [el,length_map];omega,by rw [length_append,length_singleton];omega⟩
      obtain ⟨c,hc,ht⟩:=List.mem_flatMap.mp ht;exact Sn.args_ok (hS c hc) t ht
     ·rintro ⟨S',hS',el',hz,hd⟩
      have hsen:∀d∈l,DW d:=fun d hd=>AW (hfl d hd) fun a ha=>by
       have:a∈l.flatMap ag:=List.mem_flatMap.mpr ⟨d,hd,ha⟩
       rw [el'] at this;obtain ⟨t,ht,rfl⟩:=List.mem_map.mp this;exact ⟨t,hS' t ht,rfl⟩
      obtain ⟨S,hS,el⟩:=ua hsen;have ne:S≠[]:=fun z=>by rw [z] at el;rw [el] at hl;cases hl
      have eS:S'=S.flatMap Sn.args:=yb hS' (by rw [<-el',el,mU])
      have z1:=IG S
      have z2:=HF S ne
      rw [eS] at hz hd
      rw [length_append,length_singleton] at hd;rw [el,length_map] at hz;exact ⟨S,hS,el,by omega,by omega⟩
    rw [key];have:=ih N (ls++[.list l]) (l.flatMap ag) (m+l.length) (by rw [length_append,length_singleton];omega) (by omega) hm hlen hpl
    rw [bK,tt];simp only [e]
    exact this
open Classical in
theorem rV {n:Nat} {d:D} (hn:n<=60) (h:Pl n d):(cC [d]=.ok ⟨.leaf,.none⟩/\¬sA [d] 0 0)\/(∃ls,cC [d]=.ok ⟨.lst .leaf,.list ls⟩)/\sA [d] 0 0:=by
 have hd:dJ=(ak (aE true 1 (aG .leaf ah)) (ak (aE false 2 (aG .leaf (ae (af 0) ah))) (ak (aE false 3 (eK (.int 0))) (ak (gW 1000 (aO bY (af 2)) yB) (aS (cP 1)))))):=rfl
 have st:∀{o:dr},ak (gW 1000 (aO bY (af 2)) yB) (aS (cP 1)) (GY d [] [d] 0)=o->dJ (aq 5 [d])=o:=fun ho=>by
  rw [hd];refine aB (Γ1:=[some ⟨.leaf,d⟩,some ⟨.lst .leaf,.list []⟩,none,none,none]) (Hm (jA (s:=.leaf) ai rfl rfl rfl) rfl (by simp [aq])) ?_
  refine aB (Γ1:=[some ⟨.leaf,d⟩,some ⟨.lst .leaf,.list []⟩,some ⟨.leaf,.list [d]⟩,none,none]) (ez (jA (s:=.leaf) (aw (aD rfl) ai) rfl rfl rfl) rfl (by simp)) ?_
  exact aB (Γ1:=GY d [] [d] 0) (ez aX rfl (by simp)) ho
 rcases AE hn (s:=d) 24 1000 [] [d] 0 rfl (by omega) (by omega) (by simp) (fun x hx=>by rw [List.mem_singleton.mp hx];exact h) with ⟨e,nf⟩ | ⟨ls,m,e,f⟩
 ·exact .inl ⟨bh (st (sE e)),nf⟩
 ·refine .inr ⟨⟨ls,bh (st (aB e ?_))⟩,f⟩
  exact bg (Hk rfl) rfl
noncomputable def tn (turned so:Bool) (t:Sn):Sn:=if so=turned then xV t else t
noncomputable def Dc (f g:Sn):Sn:=if f=dX then .un .not (.un .sa g) else .bi .and (.un .not (.un .sa g)) (.un .not (.bi .su g (.bi .and f g)))
noncomputable def b7:Sn->Bool->Sn
 | .yes,so=>tn false so .yes
 | .mk c,so=>tn false so (.mk c)
 | .un .not a,so=>b7 a (!so)
 | .un .sn a,so=>tn false so (.un .sn (b7 a true))
 | .un .an a,so=>tn true so (.un .sn (b7 a false))
 | .un .sa a,so=>tn false so (.un .sa (b7 a true))
 | .un .aa a,so=>tn true so (.bi .su .yes (b7 a false))
 | .bi .and a b,so=>tn false so (.bi .and (b7 a true) (b7 b true))
 | .bi .or a b,so=>tn true so (.bi .and (b7 a false) (b7 b false))
 | .bi .su a b,so=>tn false so (.bi .su (b7 a true) (b7 b true))
 | .bi .au a b,so=>tn false so (Dc (b7 a false) (b7 b false))
noncomputable def Al:Sn->Prop
 | .yes=>True
 | .mk _=>True
 | .un .an _=>False
 | .un .aa _=>False
 | .un _ a=>Al a
 | .bi .or _ _=>False
 | .bi .au _ _=>False
 | .bi _ a b=>Al a/\Al b
noncomputable def tb (n:Nat):Nat:=[0,2,5,15,24,54,81,171].getD n 0
noncomputable def td (n:Nat):Nat:=[0,2,4,7,9,12,14,17].getD n 0
noncomputable def gF:PySem.PyData:=.tuple [.str "yes"]
noncomputable def cz:PySem.PyData:=.tuple [.str "not",.tuple [.str "yes"]]
noncomputable def jY:FS:=(aS (ay (jN true) (aj 1 cC (ae (af 0) ah)) (eK .none)))
noncomputable def bj:List PySem.PyData->bA:=aA 1 jY
noncomputable def fR:FS:=(aS (nJ (aO ao (ay aZ (av (af 0) (eK (.int 0))) (eK (.str "not")))) (av (af 0) (eK (.int 1))) (bx (ae (eK (.str "not")) (ae (af 0) ah)))))
noncomputable def b4:List PySem.PyData->bA:=aA 1 fR
noncomputable def wb:FS:=(ak (bO (eN (aO ao (ay aZ (af 1) (af 4))) (eN (aO ao (ay aZ (af 2) (af 3))) (aO ao (ay aZ (af 1) (af 2))))) (aS (af 1)) aP)
  (ak (bO (eN (aO ao (ay aZ (af 2) (af 4))) (aO ao (ay aZ (af 1) (af 3)))) (aS (af 2)) aP)
  (aS (bx (ae (af 0) (ae (af 1) (ae (af 2) ah)))))))
noncomputable def gC:List PySem.PyData->bA:=aA 5 wb
noncomputable def de (r_shortened:List PySem.PyData->bA):FS:=(ak (aE false 1 (av (af 0) (eK (.int 0))))
  (ak (aE false 2 (aN .leaf 4 (dH (aj 1 aT (ae (af 0) ah))) bD (aj 1 r_shortened (ae (af 4) ah))))
  (ak (bO (eN (aO ao (ay aZ (af 1) (eK (.str "yes")))) (aO ao (ay aZ (af 1) (eK (.str "mark"))))) (aS (af 0)) aP)
  (ak (bO (aO ao (ay aZ (af 1) (eK (.str "not")))) (aS (aj 1 b4 (ae (av (af 2) (eK (.int 0))) ah))) aP)
  (ak (bO (aO ao (ay aZ (af 1) (eK (.str "and")))) (aS (aj 5 gC (ae (af 1) (ae (av (af 2) (eK (.int 0))) (ae (av (af 2) (eK (.int 1))) (ae (eK gF) (ae (eK cz) ah))))))) aP)
  (ak (bO (aO ao (ay aZ (af 1) (eK (.str "or")))) (aS (aj 5 gC (ae (af 1) (ae (av (af 2) (eK (.int 0))) (ae (av (af 2) (eK (.int 1))) (ae (eK cz) (ae (eK gF) ah))))))) aP)
  (ak (bO (aO ao (ay aZ (bW bt (ae (af 2) ah)) (eK (.int 2)))) (ak (aE false 3 (yD (ay aZ (av (af 2) (eK (.int 0))) (eK cz)) (yD (ay aZ (av (af 2) (eK (.int 1))) (eK gF)) (ay aZ (av (af 2) (eK (.int 1))) (eK cz)))))
  (aS (nJ (aO bY (af 3)) (av (af 2) (eK (.int 1))) (bx (ae (af 1) (ae (av (af 2) (eK (.int 0))) (ae (av (af 2) (eK (.int 1))) ah))))))) aP)
  (aS (nJ (eN (aO ao (ay aZ (av (af 2) (eK (.int 0))) (eK gF))) (aO ao (ay aZ (av (af 2) (eK (.int 0))) (eK cz)))) (av (af 2) (eK (.int 0))) (bx (ae (af 1) (ae (av (af 2) (eK (.int 0))) ah))))))))))))
noncomputable def ba:Nat->List PySem.PyData->bA
 | 0=>fun _=>.no
 | n+1=>aA 5 (de (ba n))
noncomputable def dC:List PySem.PyData->bA:=ba 20
open PySem.SeqAt
theorem zu {fa fb:F1} {Γ:Ev} {s:Sh} {a b:Bool} (ha:fa Γ=.ok ⟨s,.bool a⟩ Γ) (hb:fb Γ=.ok ⟨.leaf,.bool b⟩ Γ):yD fa fb Γ=.ok ⟨.leaf,.bool (a||b)⟩ Γ:=by
 unfold yD aY;rw [ha];simp only [sJ]
 cases a with
 | true=>rfl
 | false=>exact hb
theorem i8 {c:FB} {fa fb:F1} {Γ:Ev} {t:Bool} {p:PV} (hc:c Γ=.ok t Γ) (ha:t=true->fa Γ=.ok p Γ) (hb:t=false->fb Γ=.ok p Γ):nJ c fa fb Γ=.ok p Γ:=by
 unfold nJ;rw [hc];simp only [sJ]
 cases t with
 | true=>exact ha rfl
 | false=>exact hb rfl
theorem zB {s:Sn} {r:Ev}:av (af 0) (eK (.int 0)) (some ⟨.leaf,s.enc⟩::r)=.ok ⟨.leaf,.str s.w.t⟩ (some ⟨.leaf,s.enc⟩::r):=by
 cases s<;>simp [Sn.enc,Sn.w]
theorem FC {s:Sn}:iD s=decide (s.w=.not):=by
 cases s with
 | un k a=>cases k<;>rfl
 | bi k a b=>cases k<;>rfl
 | _=>rfl
theorem qt (s:Sn):∃sh:Sh,sh.isView=false/\b4 [s.enc]=.ok ⟨sh,(xV s).enc⟩:=by
 rcases IY s with ⟨a,rfl,e2⟩ | ⟨e1,e2⟩
 ·rw [e2]
  exact ⟨.leaf,rfl,by simp [b4,aA,fR,aq,Sn.enc,U5.w]⟩
 ·rw [e2]
  refine ⟨.tup [.leaf,.leaf],rfl,bh (bg (i8 (t:=false) (eO (aQ zB aX (by rw [Ar,<-FC,e1]))) nofun (fun _=>bQ (aw aX (aw (aD rfl) ai)) rfl rfl)) rfl)⟩
structure Fit60 (s:Sn):Prop where
 ok:s.ok
 dp:s.dep<=60
theorem Fit60.eq {s t:Sn} (hs:Fit60 s) (ht:Fit60 t):aZ s.enc t.enc=some (.bool (decide (s=t))):=CY hs.ok ht.ok hs.dp ht.dp
theorem fy:Fit60 .yes:=⟨trivial,by simp [Sn.dep]⟩
theorem fn:Fit60 dX:=⟨trivial,by simp [Sn.dep]⟩
theorem jr {k:B4} {s t i r:Sn} (hs:Fit60 s) (ht:Fit60 t) (hi:Fit60 i) (hr:Fit60 r):∃sh:Sh,sh.isView=false/\gC [.str k.w.t,s.enc,t.enc,i.enc,r.enc]=.ok ⟨sh,(iC k s t i r).enc⟩:=by
 have c1:(eN (aO ao (ay aZ (af 1) (af 4))) (eN (aO ao (ay aZ (af 2) (af 3))) (aO ao (ay aZ (af 1) (af 2))))) [some ⟨.leaf,.str k.w.t⟩,some ⟨.leaf,s.enc⟩,some ⟨.leaf,t.enc⟩,some ⟨.leaf,i.enc⟩,some ⟨.leaf,r.enc⟩]=.ok (decide (s=r)||(decide (t=i)||decide (s=t))) [some ⟨.leaf,.str k.w.t⟩,some ⟨.leaf,s.enc⟩,some ⟨.leaf,t.enc⟩,some ⟨.leaf,i.enc⟩,some ⟨.leaf,r.enc⟩]:=
  fz (eO (aQ (aD rfl) (aD rfl) (hs.eq hr))) (fz (eO (aQ (aD rfl) (aD rfl) (ht.eq hi))) (eO (aQ (aD rfl) (aD rfl) (hs.eq ht))))
 have c2:(eN (aO ao (ay aZ (af 2) (af 4))) (aO ao (ay aZ (af 1) (af 3)))) [some ⟨.leaf,.str k.w.t⟩,some ⟨.leaf,s.enc⟩,some ⟨.leaf,t.enc⟩,some ⟨.leaf,i.enc⟩,some ⟨.leaf,r.enc⟩]=.ok (decide (t=r)||decide (s=i)) [some ⟨.leaf,.str k.w.t⟩,some ⟨.leaf,s.enc⟩,some ⟨.leaf,t.enc⟩,some ⟨.leaf,i.enc⟩,some ⟨.leaf,r.enc⟩]:=
  fz (eO (aQ (aD rfl) (aD rfl) (ht.eq hr))) (eO (aQ (aD rfl) (aD rfl) (hs.eq hi)))
 unfold iC;by_cases h1:s=r\/t=i\/s=t
 ·rw [if_pos h1]
  rw [show (decide (s=r)||(decide (t=i)||decide (s=t)))=true by simpa using h1] at c1
  exact ⟨.leaf,rfl,bh (sE (bJ c1 (fun _=>bg (aD rfl) rfl) nofun))⟩
 ·rw [if_neg h1]
  rw [show (decide (s=r)||(decide (t=i)||decide (s=t)))=false by
   rw [Bool.eq_false_iff];intro z;exact h1 (by simpa using z)] at c1
  by_cases h2:t=r\/s=i
  ·rw [if_pos h2]
   rw [show (decide (t=r)||decide (s=i))=true by simpa using h2] at c2
   exact ⟨.leaf,rfl,bh (aB (bJ c1 nofun (fun _=>rfl)) (sE (bJ c2 (fun _=>bg (aD rfl) rfl) nofun)))⟩
  ·rw [if_neg h2]
   rw [show (decide (t=r)||decide (s=i))=false by
    rw [Bool.eq_false_iff];intro z;exact h2 (by simpa using z)] at c2
   exact ⟨.tup [.leaf,.leaf,.leaf],rfl,bh (aB (bJ c1 nofun (fun _=>rfl)) (aB (bJ c2 nofun (fun _=>rfl)) (bg (bQ (aw (aD rfl) (aw (aD rfl) (aw (aD rfl) ai))) rfl rfl) rfl)))⟩
noncomputable def Lo (r:bA):PV:=match r with
 | .ok p=>p
 | _=>⟨.leaf,.none⟩
noncomputable abbrev GH (s:Sn) (x3:Option PV):Ev:=[some ⟨.leaf,s.enc⟩,some ⟨.leaf,.str s.w.t⟩,some ⟨.leaf,.list (s.args.map fun a=>(bz a).enc)⟩,x3,none]
theorem fO:∀(n:Nat) (s:Sn),s.ok->s.dep<=n->s.dep<=60->∃sh:Sh,sh.isView=false/\ba n [s.enc]=.ok ⟨sh,(bz s).enc⟩
 | 0,s,_,h,_=>by
  have:=s.dep_args
  omega
 | n+1,s,hs,h,h60=>by
  show ∃sh:Sh,sh.isView=false/\aA 5 (de (ba n)) [s.enc]=_
  have ih:∀a∈s.args,∃sh:Sh,sh.isView=false/\ba n [a.enc]=.ok ⟨sh,(bz a).enc⟩:=fun a ha=>fO n a (Sn.args_ok hs a ha) (by have:=Dn ha;omega) (by have:=Dn ha;omega)
  have ft:∀a∈s.args,Fit60 (bz a):=fun a ha=>by
   have:=tY (Sn.args_ok hs a ha)
   exact ⟨this.ok,by have:=this.dp;have:=Dn ha;omega⟩
  have c:aN .leaf 4 (dH (aj 1 aT (ae (af 0) ah))) bD (aj 1 (ba n) (ae (af 4) ah)) [some ⟨.leaf,s.enc⟩,some ⟨.leaf,.str s.w.t⟩,none,none,none]=.ok ⟨.lst .leaf,.list (s.args.map fun a=>(bz a).enc)⟩ [some ⟨.leaf,s.enc⟩,some ⟨.leaf,.str s.w.t⟩,none,none,none]:=by
   have q:=DM Sn.enc s.args (fun a=>Lo (ba n [a.enc])) (s:=.leaf) (i:=4) (fi:=dH (aj 1 aT (ae (af 0) ah))) (fe:=aj 1 (ba n) (ae (af 4) ah)) (st:=true) (Γ:=[some ⟨.leaf,s.enc⟩,some ⟨.leaf,.str s.w.t⟩,none,none,none]) (by simp [Jj,aH]) (by simp) rfl (by have:=s.args_le;omega) (fun a ha=>by
    obtain ⟨sh,h1,h2⟩:=ih a ha;refine ⟨df (aw (aD rfl) ai) (by show ba n [a.enc]=_;rw [h2];rfl) rfl rfl,?_⟩
    rw [h2];exact Eb h1)
   rw [q];congr 3
   refine List.map_congr_left fun a ha=>?_
   obtain ⟨sh,h1,h2⟩:=ih a ha;rw [h2];rfl
  have go:∀{o:dr} {bf:FS},bf (GH s none)=o->(ak (aE false 1 (av (af 0) (eK (.int 0)))) (ak (aE false 2 (aN .leaf 4 (dH (aj 1 aT (ae (af 0) ah))) bD (aj 1 (ba n) (ae (af 4) ah)))) bf)) (aq 5 [s.enc])=o:=fun {o bf} hr=>
   aB (ez zB rfl (by simp [aq])) (aB (ez c rfl (by simp)) hr)
  have tq:∀{u:Wr} {t:Str} {v:Bool},aZ (.str s.w.t) (.str t)=some (.bool (decide (s.w=u)))->decide (s.w=u)=v->aO ao (ay aZ (af 1) (eK (.str t))) (GH s none)=.ok v (GH s none):=fun {u t v} h1 h2=>eO (aQ (aD rfl) aX (by rw [<-h2];exact h1))
  have no:∀{c:FB} {a:FS} {bf:FS} {Γ:Ev} {o:dr},c Γ=.ok false Γ->bf Γ=o->ak (bO c a aP) bf Γ=o:=fun h1 h2=>aB (bJ h1 nofun (fun _=>rfl)) h2
  have yes:∀{c:FB} {a:FS} {bf:FS} {Γ:Ev} {p:PV},c Γ=.ok true Γ->a Γ=.rt p->ak (bO c a aP) bf Γ=.rt p:=fun h1 h2=>sE (bJ h1 (fun _=>h2) nofun)
  cases s with
  | yes=>exact ⟨.leaf,rfl,bh (go (yes (fz (a:=true) (b:=false) (tq (As _) rfl) (tq (wY _) rfl)) (bg (aD rfl) rfl)))⟩
  | mk c=>exact ⟨.leaf,rfl,bh (go (yes (fz (a:=false) (b:=true) (tq (As _) rfl) (tq (wY _) rfl)) (bg (aD rfl) rfl)))⟩
  | un k a=>
   have fa:=ft a (by simp [Sn.args])
   have i0:∀x3,av (af 2) (eK (.int 0)) (GH (.un k a) x3)=.ok ⟨.leaf,(bz a).enc⟩ (GH (.un k a) x3):=fun x3=>wD (j:=0) (ds:=[(bz a).enc]) (aD rfl) aX rfl rfl rfl
   have e1:(eN (aO ao (ay aZ (av (af 2) (eK (.int 0))) (eK gF))) (aO ao (ay aZ (av (af 2) (eK (.int 0))) (eK cz)))) (GH (.un k a) none)=.ok (decide (bz a=.yes)||decide (bz a=dX)) (GH (.un k a) none):=fz (eO (aQ (i0 _) aX (fa.eq fy))) (eO (aQ (i0 _) aX (fa.eq fn)))
   have tail:k≠.not->bz (.un k a)=(if bz a=.yes\/bz a=dX then bz a else .un k (bz a))->∃sh:Sh,sh.isView=false/\(aS (nJ (eN (aO ao (ay aZ (av (af 2) (eK (.int 0))) (eK gF))) (aO ao (ay aZ (av (af 2) (eK (.int 0))) (eK cz)))) (av (af 2) (eK (.int 0))) (bx (ae (af 1) (ae (av (af 2) (eK (.int 0))) ah))))) (GH (.un k a) none)=.rt ⟨sh,(bz (.un k a)).enc⟩:=fun hk e=>by
    rw [e];by_cases z:bz a=.yes\/bz a=dX
    ·rw [if_pos z]
     rw [show (decide (bz a=.yes)||decide (bz a=dX))=true by simpa using z] at e1
     exact ⟨.leaf,rfl,bg (i8 e1 (fun _=>i0 _) (fun y=>nomatch y)) rfl⟩
    ·rw [if_neg z]
     rw [show (decide (bz a=.yes)||decide (bz a=dX))=false by rw [Bool.eq_false_iff];intro y;exact z (by simpa using y)] at e1
     exact ⟨.tup [.leaf,.leaf],rfl,bg (i8 e1 (fun y=>nomatch y) (fun _=>bQ (aw (aD rfl) (aw (i0 _) ai)) rfl rfl)) rfl⟩
   have l2:aO ao (ay aZ (bW bt (ae (af 2) ah)) (eK (.int 2))) (GH (.un k a) none)=.ok false (GH (.un k a) none):=eO (aQ (dU (aw (aD rfl) ai) rfl) aX eq_int)
   have bf:k≠.not->bz (.un k a)=(if bz a=.yes\/bz a=dX then bz a else .un k (bz a))->∃sh:Sh,sh.isView=false/\aA 5 (de (ba n)) [(Sn.un k a).enc]=.ok ⟨sh,(bz (.un k a)).enc⟩:=fun hk e=>by
    obtain ⟨sh,h1,h2⟩:=tail hk e;exact ⟨sh,h1,bh (go (no (fz (a:=false) (b:=false) (tq (As _) (by cases k<;>rfl)) (tq (wY _) (by cases k<;>rfl))) (no (tq (Ar _) (by cases k<;>first | rfl | exact absurd rfl hk)) (no (tq (G6 _) (by cases k<;>rfl)) (no (tq (gK _) (by cases k<;>rfl)) (no l2 h2))))))⟩
   cases k with
   | not=>
    obtain ⟨sh,h1,h2⟩:=qt (bz a);exact ⟨sh,h1,bh (go (no (fz (a:=false) (b:=false) (tq (As _) rfl) (tq (wY _) rfl)) (yes (tq (Ar _) rfl) (bg (df (aw (i0 _) ai) h2 rfl rfl) h1))))⟩
   | sn=>exact bf (by simp) rfl
   | an=>exact bf (by simp) rfl
   | sa=>exact bf (by simp) rfl
   | aa=>exact bf (by simp) rfl
  | bi k a b=>
   have fa:=ft a (by simp [Sn.args])
   have fb:=ft b (by simp [Sn.args])
   have i0:∀x3,av (af 2) (eK (.int 0)) (GH (.bi k a b) x3)=.ok ⟨.leaf,(bz a).enc⟩ (GH (.bi k a b) x3):=fun x3=>wD (j:=0) (ds:=[(bz a).enc,(bz b).enc]) (aD rfl) aX rfl rfl rfl
   have i1:∀x3,av (af 2) (eK (.int 1)) (GH (.bi k a b) x3)=.ok ⟨.leaf,(bz b).enc⟩ (GH (.bi k a b) x3):=fun x3=>wD (j:=1) (ds:=[(bz a).enc,(bz b).enc]) (aD rfl) aX rfl rfl rfl
   have l2:aO ao (ay aZ (bW bt (ae (af 2) ah)) (eK (.int 2))) (GH (.bi k a b) none)=.ok true (GH (.bi k a b) none):=eO (aQ (dU (aw (aD rfl) ai) rfl) aX eq_int)
   have e3:yD (ay aZ (av (af 2) (eK (.int 0))) (eK cz)) (yD (ay aZ (av (af 2) (eK (.int 1))) (eK gF)) (ay aZ (av (af 2) (eK (.int 1))) (eK cz))) (GH (.bi k a b) none)=.ok ⟨.leaf,.bool (decide (bz a=dX)||(decide (bz b=.yes)||decide (bz b=dX)))⟩ (GH (.bi k a b) none):=zu (aQ (i0 _) aX (fa.eq fn)) (zu (aQ (i1 _) aX (fb.eq fy)) (aQ (i1 _) aX (fb.eq fn)))
   have bf:k≠.and->k≠.or->bz (.bi k a b)=(if bz a=dX\/bz b=.yes\/bz b=dX then bz b else .bi k (bz a) (bz b))->∃sh:Sh,sh.isView=false/\aA 5 (de (ba n)) [(Sn.bi k a b).enc]=.ok ⟨sh,(bz (.bi k a b)).enc⟩:=fun h1 h2 e=>by
    rw [e];have st:∀{p:PV},(aS (nJ (aO bY (af 3)) (av (af 2) (eK (.int 1))) (bx (ae (af 1) (ae (av (af 2) (eK (.int 0))) (ae (av (af 2) (eK (.int 1))) ah)))))) (GH (.bi k a b) (some ⟨.leaf,.bool (decide (bz a=dX)||(decide (bz b=.yes)||decide (bz b=dX)))⟩))=.rt p->aA 5 (de (ba n)) [(Sn.bi k a b).enc]=.ok p:=fun {p} hp=>
     bh (go (no (fz (a:=false) (b:=false) (tq (As _) (by cases k<;>rfl)) (tq (wY _) (by cases k<;>rfl))) (no (tq (Ar _) (by cases k<;>rfl)) (no (tq (G6 _) (by cases k<;>first | rfl | exact absurd rfl h1)) (no (tq (gK _) (by cases k<;>first | rfl | exact absurd rfl h2)) (yes l2 (aB (ez e3 rfl (by simp)) hp)))))))
    by_cases z:bz a=dX\/bz b=.yes\/bz b=dX
    ·rw [if_pos z]
     refine ⟨.leaf,rfl,st (bg (i8 (t:=true) (iF (aD (by show some (some _)=_;rw [show (decide (bz a=dX)||(decide (bz b=.yes)||decide (bz b=dX)))=true by simpa using z]))) (fun _=>i1 _) (fun y=>nomatch y)) rfl)⟩
    ·rw [if_neg z]
     refine ⟨.tup [.leaf,.leaf,.leaf],rfl,st (bg (i8 (t:=false) (iF (aD (by show some (some _)=_;rw [show (decide (bz a=dX)||(decide (bz b=.yes)||decide (bz b=dX)))=false by rw [Bool.eq_false_iff];intro y;exact z (by simpa using y)]))) (fun y=>nomatch y) (fun _=>bQ (aw (aD rfl) (aw (i0 _) (aw (i1 _) ai))) rfl rfl)) rfl)⟩
   cases k with
   | and=>
    obtain ⟨sh,h1,h2⟩:=jr (k:=.and) fa fb fy fn
    exact ⟨sh,h1,bh (go (no (fz (a:=false) (b:=false) (tq (As _) rfl) (tq (wY _) rfl)) (no (tq (Ar _) rfl) (yes (tq (G6 _) rfl) (bg (df (aw (aD rfl) (aw (i0 _) (aw (i1 _) (aw aX (aw aX ai))))) h2 rfl rfl) h1)))))⟩
   | or=>
    obtain ⟨sh,h1,h2⟩:=jr (k:=.or) fa fb fn fy
    exact ⟨sh,h1,bh (go (no (fz (a:=false) (b:=false) (tq (As _) rfl) (tq (wY _) rfl)) (no (tq (Ar _) rfl) (no (tq (G6 _) rfl) (yes (tq (gK _) rfl) (bg (df (aw (aD rfl) (aw (i0 _) (aw (i1 _) (aw aX (aw aX ai))))) h2 rfl rfl) h1))))))⟩
   | su=>exact bf (by simp) (by simp) rfl
   | au=>exact bf (by simp) (by simp) rfl
noncomputable def gG:PySem.PyData:=.tuple [.str "or",.str "all next",.str "all always"]
noncomputable def bS:PySem.PyData:=.tuple [.str "or",.str "all next",.str "all always",.str "all until"]
noncomputable def oK:FS:=(ak (aR (aj 1 bG (ae (af 0) ah)))
  (aS (aj 1 b4 (ae (af 0) ah))))
noncomputable def oj:List PySem.PyData->bA:=aA 1 oK
noncomputable def dQ:FS:=(ak (aE false 2 (bx (ae (eK (.str "not")) (ae (bx (ae (eK (.str "some always")) (ae (af 1) ah))) ah))))
  (ak (bO (aO ao (ay aZ (af 0) (eK cz))) (aS (af 2)) aP)
  (aS (bx (ae (eK (.str "and")) (ae (af 2) (ae (bx (ae (eK (.str "not")) (ae (bx (ae (eK (.str "some until")) (ae (af 1) (ae (bx (ae (eK (.str "and")) (ae (af 0) (ae (af 1) ah)))) ah)))) ah))) ah)))))))
noncomputable def bP:List PySem.PyData->bA:=aA 3 dQ
noncomputable def iP:FS:=(ak (aE false 2 (av (af 0) (eK (.int 0))))
  (ak (bO (aO ao (ay aZ (af 2) (eK (.str "or")))) (aS (bx (ae (eK (.str "and")) (ae (av (af 1) (eK (.int 0))) (ae (av (af 1) (eK (.int 1))) ah))))) aP)
  (ak (bO (aO ao (ay aZ (af 2) (eK (.str "all next")))) (aS (bx (ae (eK (.str "some next")) (ae (av (af 1) (eK (.int 0))) ah)))) aP)
  (ak (bO (aO ao (ay aZ (af 2) (eK (.str "all always")))) (aS (bx (ae (eK (.str "some until")) (ae (eK gF) (ae (av (af 1) (eK (.int 0))) ah))))) aP)
  (ak (bO (aO ao (ay aZ (af 2) (eK (.str "all until")))) (aS (aj 2 bP (ae (av (af 1) (eK (.int 0))) (ae (av (af 1) (eK (.int 1))) ah)))) aP)
  (aS (nJ (aO ao (ay aZ (af 2) (eK (.str "mark")))) (af 0) (mY (bx (ae (af 2) ah)) (jn (af 1))))))))))
noncomputable def b3:List PySem.PyData->bA:=aA 3 iP
noncomputable def kq (r_base_of:List PySem.PyData->bA):FS:=(ak (aE false 2 (av (af 0) (eK (.int 0))))
  (ak (bO (aO ao (ay aZ (af 2) (eK (.str "not")))) (aS (aj 2 r_base_of (ae (av (af 0) (eK (.int 1))) (ae (rO (af 1)) ah)))) aP)
  (ak (aE false 3 (aj 2 b3 (ae (af 0) (ae (aN .leaf 4 (dH (aj 1 aT (ae (af 0) ah))) bD (aj 2 r_base_of (ae (af 4) (ae (ay (dS true) (af 2) (eK bS)) ah)))) ah))))
  (aS (nJ (aO ao (ay aZ (af 1) (ay (dS false) (af 2) (eK gG)))) (aj 1 b4 (ae (af 3) ah)) (af 3))))))
noncomputable def bH:Nat->List PySem.PyData->bA
 | 0=>fun _=>.no
 | n+1=>aA 5 (kq (bH n))
noncomputable def fo:List PySem.PyData->bA:=bH 20
noncomputable def C6:FS:=(ak (aR (aj 1 bG (ae (af 0) ah)))
  (ak (aE false 1 (aj 2 fo (ae (aj 1 dC (ae (af 0) ah)) (ae (eK (.bool true)) ah))))
  (ak (bO (cU (aO bY (aj 1 bj (ae (af 1) ah)))) fm aP)
  (aS (af 1)))))
noncomputable def Ce:List PySem.PyData->bA:=aA 2 C6
noncomputable def lg (r__law_words:List PySem.PyData->bA):FS:=(ak (aE false 1 (aG .leaf (ae (av (af 0) (eK (.int 0))) ah)))
  (ak (eJ 2 (dH (rN (af 0) (eK (.int 1))))
  (bO (aO bY (mX "tuple" (af 2))) (aE false 1 (gL (af 1) (aj 1 r__law_words (ae (af 2) ah)))) aP))
  (aS (af 1))))
noncomputable def gy:Nat->List PySem.PyData->bA
 | 0=>fun _=>.no
 | n+1=>aA 3 (lg (gy n))
noncomputable def kR:List PySem.PyData->bA:=gy 30
noncomputable def d_law:FS:=(ak (aE false 1 (aj 3 iL (ae (af 0) (ae (eK (.int 8)) (ae (ay aW (eK (.int 1)) (ay bN (aj 2 aC (ae (af 0) (ae (eK (.int 7)) ah))) (eK (.int 7)))) ah)))))
  (ak (aE false 2 (aj 3 m__law_world (ae (af 0) (ae (eK (.int 0)) (ae (eK (.int 6)) ah)))))
  (ak (aE false 3 (bx (ae (eK (.str "not")) (ae (af 1) ah))))
  (ak (bO (aO ao (ay aZ (av (af 1) (eK (.int 0))) (eK (.str "not")))) (aE false 3 (av (af 1) (eK (.int 1)))) aP)
  (ak (bO (aO ao (ay qf (aj 1 oj (ae (af 1) ah)) (af 3))) (aS (eK (.bool false))) aP)
  (ak (bO (aO ao (ay jz (aj 1 kS (ae (af 1) ah)) (eK (.int 7)))) (aS (eK (.bool true))) aP)
  (ak (aE false 4 (aj 1 Ce (ae (af 1) ah)))
  (ak (bO (eN (cU (aO bY (mX "tuple" (af 4)))) (aO ao (ay (rJ true) (aj 1 bj (ae (af 4) ah)) (eK (.bool true))))) (aS (eK (.bool false))) aP)
  (ak (aE false 5 (aG .leaf (ae (eK (.str "yes")) (ae (eK (.str "mark")) (ae (eK (.str "not")) (ae (eK (.str "and")) (ae (eK (.str "some next")) (ae (eK (.str "some until")) (ae (eK (.str "some always")) ah)))))))))
  (ak (bO (aO ao (ay jz (bW bt (ae (aN .leaf 6 (b9 (aj 1 kR (ae (af 4) ah))) (aO ao (ay (dS true) (af 6) (af 5))) (af 6)) ah)) (eK (.int 0)))) (aS (eK (.bool false))) aP)
  (aS (ay aZ (aj 2 gE (ae (af 2) (ae (af 4) ah))) (aj 2 gE (ae (af 2) (ae (af 1) ah)))))))))))))))
noncomputable def m_law:List PySem.PyData->bA:=aA 7 d_law
open PySem.SeqAt
theorem yI {f g:Sn} (hf:Fit60 f):∃sh:Sh,sh.isView=false/\bP [f.enc,g.enc]=.ok ⟨sh,(Dc f g).enc⟩:=by
 have s1:=ez (i:=2) (bQ (fl:=ae (eK (.str "not")) (ae (bx (ae (eK (.str "some always")) (ae (af 1) ah))) ah)) (Γ:=aq 3 [f.enc,g.enc]) (aw aX (aw (bQ (aw aX (aw (aD rfl) ai)) rfl rfl) ai)) rfl rfl) rfl (by simp [aq])
 have t:aO ao (ay aZ (af 0) (eK cz)) [some ⟨.leaf,f.enc⟩,some ⟨.leaf,g.enc⟩,some ⟨.leaf,(Sn.un .not (.un .sa g)).enc⟩]=.ok (decide (f=dX)) [some ⟨.leaf,f.enc⟩,some ⟨.leaf,g.enc⟩,some ⟨.leaf,(Sn.un .not (.un .sa g)).enc⟩]:=eO (aQ (aD rfl) aX (hf.eq fn))
 unfold Dc;by_cases z:f=dX
 ·rw [if_pos z]
  rw [decide_eq_true z] at t;exact ⟨.leaf,rfl,bh (aB s1 (sE (bJ t (fun _=>bg (aD rfl) rfl) nofun)))⟩
 ·rw [if_neg z]
  rw [decide_eq_false z] at t;exact ⟨_,rfl,bh (aB s1 (aB (bJ t nofun (fun _=>rfl)) (bg (bQ (aw aX (aw (aD rfl) (aw (bQ (aw aX (aw (bQ (aw aX (aw (aD rfl) (aw (bQ (aw aX (aw (aD rfl) (aw (aD rfl) ai))) rfl rfl) ai))) rfl rfl) ai)) rfl rfl) ai))) rfl rfl) rfl)))⟩
theorem AH {Γ Γ1 Γ2:Ev} {fa fb:F1} {s s':Sh} {xs ys:List D} (ha:fa Γ=.ok ⟨s,.tuple xs⟩ Γ1) (hb:fb Γ1=.ok ⟨s',.tuple ys⟩ Γ2) (h0:s.isView=false) (h1:aH ⟨s',.tuple ys⟩ ys=true) (h2:xs.isEmpty=false) (hn:xs.length+ys.length<=10000):mY fa fb Γ=.ok ⟨.leaf,.tuple (xs++ys)⟩ Γ2:=by
 have hb':(10000:Nat)<=sizeLine:=by decide
 have:xs.length+ys.length<=sizeLine:=Nat.le_trans hn hb'
 unfold mY aY;rw [ha];simp only [sJ]
 rw [hb];simp only [sJ,h0,h1,h2,decide_eq_true this,Bool.not_false,Bool.and_self,if_true]
theorem w9 {Γ Γ1:Ev} {fa:F1} {s:Sh} {ds:List D} (ha:fa Γ=.ok ⟨s,.list ds⟩ Γ1) (h1:aH ⟨s,.list ds⟩ ds=true):jn fa Γ=.ok ⟨.leaf,.tuple ds⟩ Γ1:=by
 unfold jn aY;rw [ha];simp only [sJ,h1,if_true]
noncomputable def fl (s:Sn):Bool:=!decide (s.w=.or\/s.w=.an\/s.w=.aa\/s.w=.au)
noncomputable def tu (s:Sn):Bool:=decide (s.w=.or\/s.w=.an\/s.w=.aa)
noncomputable def Aj:Sn->Sn
 | .yes=>.yes
 | .mk c=>.mk c
 | .un .not a=>a
 | .un .sn a=>.un .sn (b7 a true)
 | .un .an a=>.un .sn (b7 a false)
 | .un .sa a=>.un .sa (b7 a true)
 | .un .aa a=>.bi .su .yes (b7 a false)
 | .bi .and a b=>.bi .and (b7 a true) (b7 b true)
 | .bi .or a b=>.bi .and (b7 a false) (b7 b false)
 | .bi .su a b=>.bi .su (b7 a true) (b7 b true)
 | .bi .au a b=>Dc (b7 a false) (b7 b false)
theorem yW {s:Sn} (h:s.w≠.not) (so:Bool):b7 s so=tn (tu s) so (Aj s):=by
 cases s with
 | yes=>rfl
 | mk c=>rfl
 | un k a=>cases k<;>first | exact absurd rfl h | rfl
 | bi k a b=>cases k<;>rfl
theorem CA (a:Wr):dS true (.str a.t) bS=some (.bool (!decide (a=.or\/a=.an\/a=.aa\/a=.au))):=by cases a<;>kernel_rfl
theorem Cy (a:Wr):dS false (.str a.t) gG=some (.bool (decide (a=.or\/a=.an\/a=.aa))):=by cases a<;>kernel_rfl
theorem Gf (a b:Bool):aZ (.bool a) (.bool b)=some (.bool (decide (a=b))):=by cases a<;>cases b<;>kernel_rfl
noncomputable abbrev ze (s:Sn):Ev:=[some ⟨.leaf,s.enc⟩,some ⟨.leaf,.list (s.args.map fun a=>(b7 a (fl s)).enc)⟩,some ⟨.leaf,.str s.w.t⟩]
theorem oJ {s:Sn} (hn:s.w≠.not) (hf:∀a∈s.args,Fit60 (b7 a (fl s))):∃sh:Sh,sh.isView=false/\b3 [s.enc,.list (s.args.map fun a=>(b7 a (fl s)).enc)]=.ok ⟨sh,(Aj s).enc⟩:=by
 have go:∀{p:PV} {bf:FS},bf (ze s)=.rt p->(ak (aE false 2 (av (af 0) (eK (.int 0)))) bf) (aq 3 [s.enc,.list (s.args.map fun a=>(b7 a (fl s)).enc)])=.rt p:=fun {p bf} hr=>
  aB (ez zB rfl (by simp [aq])) hr
 have tq:∀{u:Wr} {t:Str} {v:Bool},aZ (.str s.w.t) (.str t)=some (.bool (decide (s.w=u)))->decide (s.w=u)=v->aO ao (ay aZ (af 2) (eK (.str t))) (ze s)=.ok v (ze s):=fun {u t v} h1 h2=>eO (aQ (aD rfl) aX (by rw [<-h2];exact h1))
 have no:∀{c:FB} {a:FS} {bf:FS} {Γ:Ev} {o:dr},c Γ=.ok false Γ->bf Γ=o->ak (bO c a aP) bf Γ=o:=fun h1 h2=>aB (bJ h1 nofun (fun _=>rfl)) h2
 have yes:∀{c:FB} {a:FS} {bf:FS} {Γ:Ev} {p:PV},c Γ=.ok true Γ->a Γ=.rt p->ak (bO c a aP) bf Γ=.rt p:=fun h1 h2=>sE (bJ h1 (fun _=>h2) nofun)
 have same:decide (s.w=.or)=false->decide (s.w=.an)=false->decide (s.w=.aa)=false->decide (s.w=.au)=false->decide (s.w=.mark)=false->(Aj s).enc=.tuple (.str s.w.t::s.args.map fun a=>(b7 a (fl s)).enc)->∃sh:Sh,sh.isView=false/\b3 [s.enc,.list (s.args.map fun a=>(b7 a (fl s)).enc)]=.ok ⟨sh,(Aj s).enc⟩:=fun h1 h2 h3 h4 h5 e=>by
  rw [e];exact ⟨.leaf,rfl,bh (go (no (tq (gK _) h1) (no (tq (mV _) h2) (no (tq (qk _) h3) (no (tq (vJ _) h4) (bg (i8 (tq (wY _) h5) nofun (fun _=>AH (bQ (aw (aD rfl) ai) rfl rfl) (w9 (aD rfl) rfl) rfl rfl rfl (by have:=s.args_le;simp only [length_map,length_cons,length_nil];omega))) rfl))))))⟩
 cases s with
 | yes=>exact same rfl rfl rfl rfl rfl rfl
 | mk c=>exact ⟨.leaf,rfl,bh (go (no (tq (gK _) rfl) (no (tq (mV _) rfl) (no (tq (qk _) rfl) (no (tq (vJ _) rfl) (bg (i8 (tq (wY _) rfl) (fun _=>aD rfl) nofun) rfl))))))⟩
 | un k a=>
  have i0:av (af 1) (eK (.int 0)) (ze (.un k a))=.ok ⟨.leaf,(b7 a (fl (.un k a))).enc⟩ (ze (.un k a)):=wD (j:=0) (ds:=[(b7 a (fl (.un k a))).enc]) (aD rfl) aX rfl rfl rfl
  cases k with
  | not=>exact absurd rfl hn
  | sn=>exact same rfl rfl rfl rfl rfl rfl
  | sa=>exact same rfl rfl rfl rfl rfl rfl
  | an=>exact ⟨.tup [.leaf,.leaf],rfl,bh (go (no (tq (gK _) rfl) (yes (tq (mV _) rfl) (bg (bQ (aw aX (aw i0 ai)) rfl rfl) rfl))))⟩
  | aa=>exact ⟨.tup [.leaf,.leaf,.leaf],rfl,bh (go (no (tq (gK _) rfl) (no (tq (mV _) rfl) (yes (tq (qk _) rfl) (bg (bQ (aw aX (aw aX (aw i0 ai))) rfl rfl) rfl)))))⟩
 | bi k a b=>
  have i0:av (af 1) (eK (.int 0)) (ze (.bi k a b))=.ok ⟨.leaf,(b7 a (fl (.bi k a b))).enc⟩ (ze (.bi k a b)):=wD (j:=0) (ds:=[(b7 a (fl (.bi k a b))).enc,(b7 b (fl (.bi k a b))).enc]) (aD rfl) aX rfl rfl rfl
  have i1:av (af 1) (eK (.int 1)) (ze (.bi k a b))=.ok ⟨.leaf,(b7 b (fl (.bi k a b))).enc⟩ (ze (.bi k a b)):=wD (j:=1) (ds:=[(b7 a (fl (.bi k a b))).enc,(b7 b (fl (.bi k a b))).enc]) (aD rfl) aX rfl rfl rfl
  cases k with
  | and=>exact same rfl rfl rfl rfl rfl rfl
  | su=>exact same rfl rfl rfl rfl rfl rfl
  | or=>exact ⟨.tup [.leaf,.leaf,.leaf],rfl,bh (go (yes (tq (gK _) rfl) (bg (bQ (aw aX (aw i0 (aw i1 ai))) rfl rfl) rfl)))⟩
  | au=>
   obtain ⟨sh,h1,h2⟩:=yI (f:=b7 a (fl (.bi .au a b))) (g:=b7 b (fl (.bi .au a b))) (hf a (by simp [Sn.args]))
   exact ⟨sh,h1,bh (go (no (tq (gK _) rfl) (no (tq (mV _) rfl) (no (tq (qk _) rfl) (yes (tq (vJ _) rfl) (bg (df (aw i0 (aw i1 ai)) h2 rfl rfl) h1))))))⟩
end KC
namespace T
open PySem PySem.Spec L2
open PyProof.Rows hiding St
theorem qi {B B2 h h':Heap}:∀{l:List Env},h.FunFrames B l->(∀b,B.get? b=none->B2.get? b=none)->(∀b o,b∈fN l->h.get? b=some o->(∀vs,o.data≠.fields vs)->∃o',h'.get? b=some o'/\o'.data=o.data)->h'.FunFrames B2 l
 | [],_,_,_=>trivial
 | env::r,⟨k,⟨L,o,e1,e2,e3,e4⟩,f⟩,hB,hk=>by
  obtain ⟨o',q1,q2⟩:=hk L o (List.mem_filterMap.mpr ⟨env,mem_cons_self,e1⟩) e3 e4
  refine ⟨k,⟨L,o',e1,hB _ e2,q1,fun vs z=>e4 vs (q2▸z)⟩,qi f hB fun b o hb=>hk b o ?_⟩
  obtain ⟨env',he,hf⟩:=List.mem_filterMap.mp hb;exact List.mem_filterMap.mpr ⟨env',mem_cons_of_mem _ he,hf⟩
noncomputable def C2 (e:Addr) (h:Heap):Prop:=∃oe vs,h.get? e=some oe/\oe.data=.fields vs/\vs[2]?=some .none
theorem Dz {h:Heap} {a:Addr} {o:Obj} {vs:Array Value} {f:Array Value->Array Value} (g:h.get? a=some o) (d:o.data=.fields vs):h.UpToSlots (h.update a (Obj.mapFields f)):=fun b u q n=>by
 by_cases e:b=a
 ·subst e
  rw [g] at q
  cases q;exact absurd d (n vs)
 ·exact ⟨u.slots,by rw [Heap.get?_update_ne _ _ _ _ e,q]⟩
theorem Du {h:Heap} {a:Addr} {o:Obj} {vs:Array Value} {f:Array Value->Array Value} (g:h.get? a=some o) (d:o.data=.fields vs):∃o',(h.update a (Obj.mapFields f)).get? a=some o'/\o'.data=.fields (f vs)/\o'.cls=o.cls:=by
 obtain ⟨c,dd,da,sl⟩:=o;have d:da=.fields vs:=d
 subst d;exact ⟨_,Heap.get?_update_self _ g rfl,rfl,rfl⟩
theorem D7 {h h' B:Heap} {l:List Env} (f:h.FunFrames B l) (u:h.UpToSlots h'):h'.FunFrames B l:=qi f (fun _ z=>z) fun b o _ q n=>by
 obtain ⟨sl,e⟩:=u b o q n;exact ⟨_,e,rfl⟩
theorem ffd {h B:Heap} {env:Env} {l:List Env}:h.FunFrames B (env::l)↔(env.scope.kind≠.module/\(∃L o,env.frame=some L/\B.get? L=none/\h.get? L=some o/\∀vs,o.data≠.fields vs)/\h.FunFrames B l):=Iff.rfl
theorem zq {M:Model} {A:Around} {E:Value->Shared->Prop} {s:Shared} {base:Heap} {env:Env} {outer:List Env} {L e:Addr} {cls a0:Value} {Q:Unit->Shared->Prop} (hA:A.frames=some (env::outer)) (hf:env.frame=some L)
  (fl:base.FlyingW (env::outer) e cls a0 s.heap) (c:C2 e s.heap) (hQ:∀h',base.FlyingW (env::outer) e cls a0 h'->s.heap.UpToSlots h'->C2 e h'->Q () { s with heap:=h' }):wpAny M A (noteFrame (.ref e) env) (fun _ s2=>wpAny M A (setFlight (.ref e) none) Q E s2) E s:=by
 obtain ⟨st,be,ff,oe,vs,T,oT,ts,g1,⟨c1,v0⟩,d1,v1,bT,Te,g2,d2,t3⟩:=fl;obtain ⟨oe',vs',q1,q2,q3⟩:=c;rw [g1] at q1
 cases q1;rw [d1] at q2
 cases q2;have nfr:∀b∈fN (env::outer),base.get? b=none/\∃o,s.heap.get? b=some o/\∀vs,o.data≠.fields vs:=fun b hb=>by
  obtain ⟨z1,o,z2,z3⟩:=ff.mem hb;exact ⟨z1,o,z2,z3⟩
 unfold noteFrame;rw [hf];dsimp only;refine wpAny_bind (wpAny_field g1 d1 v1 ?_)
 rw [if_pos (by rfl)]
 refine wpAny_bind (wpAny_field g2 d2 t3 ?_)
 rw [if_neg (by show ¬(Value.none==rawInt (L:Int))=true;simp [rawInt];try decide)]
 have ts3:3<ts.size:=(Array.getElem?_eq_some_iff.mp t3).1
 refine wpAny_bind (wpAny_setField g2 d2 ts3 ?_)
 have u1:=Dz (f:=fun x=>x.setIfInBounds 3 Value.none) g2 d2
 have k1:∀b,b≠T->(s.heap.update T (Obj.mapFields fun x=>x.setIfInBounds 3 Value.none)).get? b=s.heap.get? b:=fun b z=>Heap.get?_update_ne _ _ _ _ z
 generalize s.heap.update T (Obj.mapFields fun x=>x.setIfInBounds 3 Value.none)=h1 at u1 k1 ⊢
 refine wpAny_bind (wpAny_frameOf_fun (base:=base) hA (D7 ff u1) hf fun h2 so=>?_)
 obtain ⟨_,so1,so2⟩:=so;have u2:h1.UpToSlots h2:=fun b o q _=>so2 b o q
 have eFr:e∉List.filterMap (fun x=>x.frame) (env::outer):=fun z=>by
  obtain ⟨_,o,q,n⟩:=nfr e z;rw [g1] at q
  cases q;exact n vs d1
 have g3:h2.get? e=some oe:=by rw [so1 e eFr,k1 e (Ne.symm Te)];exact g1
 refine wpAny_bind (wpAny_entryPlaceOf fun pl hp=>?_)
 unfold EntryCells.newEntry newFields;have hz:∃es:List Value,es.length<=11/\3<es.length/\es=([Value.ref T,Value.ref L,Value.none,rawInt (L:Int),Value.none]++if pl.isEmpty=true then List.replicate 6 Value.none else pl):=by
  refine ⟨_,?_,?_,rfl⟩<;>(rcases hp with rfl | ⟨a,b,c,d,c9,b10,_,rfl⟩<;>simp)
 obtain ⟨es,el,e3,ees⟩:=hz;rw [<-ees];refine wpAny_bind (wpAny_newObj_type ?_ (by show _<=_;rw [size_toArray];have z:1000<sizeLine:=(by decide);omega))
 have g4:(h2.push { cls:=Value.type "traceback",data:=Data.fields es.toArray }).get? e=some oe:=Heap.get?_push_of_some _ g3
 have g5:(h2.push { cls:=Value.type "traceback",data:=Data.fields es.toArray }).get? h2.objs.size=some { cls:=Value.type "traceback",data:=Data.fields es.toArray }:=Heap.get?_push_size _ rfl
 have n2:h2.get? h2.objs.size=none:=by
  cases q:h2.get? h2.objs.size with
  | none=>rfl
  | some o=>exact absurd (Heap.lt_size q) (Nat.lt_irrefl _)
 have u3:h2.UpToSlots (h2.push { cls:=Value.type "traceback",data:=Data.fields es.toArray }):=fun b o q _=>⟨o.slots,Heap.get?_push_of_some _ q⟩
 have k3:∀b o,h2.get? b=some o->(h2.push { cls:=Value.type "traceback",data:=Data.fields es.toArray }).get? b=some o:=fun b o q=>Heap.get?_push_of_some _ q
 generalize hT2:h2.objs.size=T2 at g5 n2 ⊢
 generalize h2.push { cls:=Value.type "traceback",data:=Data.fields es.toArray }=h3 at g4 g5 u3 k3 ⊢
 have vs1:1<vs.size:=(Array.getElem?_eq_some_iff.mp v1).1
 have eT2:e≠T2:=fun z=>by rw [<-z,g3] at n2;cases n2
 refine wpAny_setField g4 d1 vs1 ?_
 have u4:=Dz (f:=fun x=>x.setIfInBounds 1 (Value.ref T2)) g4 d1
 obtain ⟨oe2,g6,d6,c6⟩:=Du (f:=fun x=>x.setIfInBounds 1 (Value.ref T2)) g4 d1
 have k4:∀b,b≠e->(h3.update e (Obj.mapFields fun x=>x.setIfInBounds 1 (Value.ref T2))).get? b=h3.get? b:=fun b z=>Heap.get?_update_ne _ _ _ _ z
 generalize h3.update e (Obj.mapFields fun x=>x.setIfInBounds 1 (Value.ref T2))=h4 at u4 g6 k4 ⊢
 have g7:h4.get? T2=some { cls:=Value.type "traceback",data:=Data.fields es.toArray }:=by rw [k4 T2 (Ne.symm eT2)];exact g5
 have v6:(vs.setIfInBounds 1 (Value.ref T2))[1]?=some (Value.ref T2):=by simp [vs1]
 refine wpAny_setFlight_none g6 d6 v6 g7 rfl (by rw [size_toArray];exact e3) ?_
 have u5:=Dz (f:=fun x=>x.setIfInBounds 3 Value.none) g7 rfl
 obtain ⟨oT2,g8,d8,c8⟩:=Du (f:=fun x=>x.setIfInBounds 3 Value.none) g7 rfl
 have k5:∀b,b≠T2->(h4.update T2 (Obj.mapFields fun x=>x.setIfInBounds 3 Value.none)).get? b=h4.get? b:=fun b z=>Heap.get?_update_ne _ _ _ _ z
 generalize h4.update T2 (Obj.mapFields fun x=>x.setIfInBounds 3 Value.none)=h5 at u5 g8 k5 ⊢
 have u:s.heap.UpToSlots h5:=(((u1.trans u2).trans u3).trans u4).trans u5
 have g9:h5.get? e=some oe2:=by rw [k5 e eT2];exact g6
 have bT2:base.get? T2=none:=by
  cases q:base.get? T2 with
  | none=>rfl
  | some o=>
   have q1:=st T2 o q
   have hb:T2∉List.filterMap (fun x=>x.frame) (env::outer):=fun z=>by
    have:=(nfr T2 z).1
    rw [q] at this
    cases this
   have:h2.get? T2=some o:=by rw [so1 T2 hb,k1 T2 (fun z=>by rw [z,bT] at q;cases q)];exact q1
   rw [n2] at this
   cases this
 refine hQ h5 ⟨fun b o q=>?_,be,?_,oe2,_,T2,oT2,_,g9,⟨c6.trans c1,?_⟩,d6,v6,bT2,Ne.symm eT2,g8,d8,?_⟩ u ⟨oe2,_,g9,d6,?_⟩
 ·have hb:b∉List.filterMap (fun x=>x.frame) (env::outer):=fun z=>by
   have:=(nfr b z).1
   rw [q] at this
   cases this
  have n1:b≠e:=fun z=>by rw [z,be] at q;cases q
  have n2':b≠T:=fun z=>by rw [z,bT] at q;cases q
  have n3:b≠T2:=fun z=>by rw [z,bT2] at q;cases q
  rw [k5 b n3,k4 b n1];exact k3 b o (by rw [so1 b hb,k1 b n2'];exact st b o q)
 ·exact D7 ff u
 ·simp [v0]
 ·have:3<es.toArray.size:=by rw [size_toArray];exact e3
  simp [e3]
 ·simp [q3]
theorem Cg {M:Model} {A:Around} {E:Value->Shared->Prop} {s:Shared} {base:Heap} {l:List Env} {e:Addr} {cls a0 fl:Value} {Q:Unit->Shared->Prop} (st:base.StaysIn s.heap) (be:base.get? e=none) (ff:s.heap.FunFrames base l) (tr:s.heap.TracedAtW base e cls a0 fl) (c:C2 e s.heap)
  (hQ:∀h',base.FlyingW l e cls a0 h'->s.heap.UpToSlots h'->C2 e h'->Q () { s with heap:=h' }):wpAny M A (setFlight (.ref e) none) Q E s:=by
 obtain ⟨oe,vs,T,oT,ts,g1,⟨c1,v0⟩,d1,v1,bT,Te,g2,d2,t3⟩:=tr;obtain ⟨oe',vs',q1,q2,q3⟩:=c;rw [g1] at q1
 cases q1;rw [d1] at q2
 cases q2;have ts3:3<ts.size:=(Array.getElem?_eq_some_iff.mp t3).1
 refine wpAny_setFlight_none g1 d1 v1 g2 d2 ts3 ?_
 have u5:=Dz (f:=fun x=>x.setIfInBounds 3 Value.none) g2 d2
 obtain ⟨oT2,g8,d8,c8⟩:=Du (f:=fun x=>x.setIfInBounds 3 Value.none) g2 d2
 have k5:∀b,b≠T->(s.heap.update T (Obj.mapFields fun x=>x.setIfInBounds 3 Value.none)).get? b=s.heap.get? b:=fun b z=>Heap.get?_update_ne _ _ _ _ z
 generalize s.heap.update T (Obj.mapFields fun x=>x.setIfInBounds 3 Value.none)=h5 at u5 g8 k5 ⊢
 have g9:h5.get? e=some oe:=by rw [k5 e (Ne.symm Te)];exact g1
 refine hQ h5 ⟨fun b o q=>?_,be,D7 ff u5,oe,vs,T,oT2,_,g9,⟨c1,v0⟩,d1,v1,bT,Te,g8,d8,?_⟩ u5 ⟨oe,vs,g9,d1,q3⟩
 ·rw [k5 b (fun z=>by rw [z,bT] at q;cases q)]
  exact st b o q
 ·simp [ts3]
theorem om {M:Model} {A:Around} {E:Value->Shared->Prop} {s:Shared} {base:Heap} {env:Env} {outer:List Env} {L e:Addr} {cls a0:Value} {Q:Unit->Shared->Prop} (hA:A.frames=some (env::outer)) (hf:env.frame=some L)
  (fl:base.FlyingW (env::outer) e cls a0 s.heap) (c:C2 e s.heap) (hQ:∀h',base.FlyingW outer e cls a0 h'->s.heap.UpToSlots h'->C2 e h'->Q () { s with heap:=h' }):wpAny M A (leaving env (.ref e)) Q E s:=by
 unfold leaving;exact wpAny_bind (zq hA hf fl c fun h' f u c=>hQ h' ⟨f.1,f.2.1,(ffd.mp f.2.2.1).2.2,f.2.2.2⟩ u c)
theorem kT {M:Model} {A:Around} {E:Value->Shared->Prop} {s:Shared} {base h:Heap} {env:Env} {outer:List Env} {L e:Addr} {cls:Value} {args:List Value} {Q:Unit->Shared->Prop} (hA:A.frames=some (env::outer)) (hf:env.frame=some L)
  (zB:base.StaysIn h) (ff0:h.FunFrames base (env::outer)) (hx:h.MadeExcOf s.heap e cls args) (hQ:∀h' t,base.FlyingW outer e cls (.ref t) h'->s.heap.UpToSlots h'->C2 e h'->Q () { s with heap:=h' }):wpAny M A (leaving env (.ref e)) Q E s:=by
 obtain ⟨t,g1,nt,gt⟩:=hx.there;have st:base.StaysIn s.heap:=fun b o q=>hx.keeps b o (zB b o q)
 have ff:s.heap.FunFrames base (env::outer):=D7 ff0 (Heap.UpToSlots.of_keeps hx.keeps)
 have be:base.get? e=none:=by
  cases q:base.get? e with
  | none=>rfl
  | some o=>have:=zB e o q;rw [hx.new] at this;cases this
 have nfr:∀b∈fN (env::outer),base.get? b=none/\∃o,s.heap.get? b=some o/\∀vs,o.data≠.fields vs:=fun b hb=>by
  obtain ⟨z1,o,z2,z3⟩:=ff.mem hb;exact ⟨z1,o,z2,z3⟩
 unfold leaving noteFrame;rw [hf];dsimp only;refine wpAny_bind (wpAny_bind (wpAny_field (i:=1) (x:=.none) g1 rfl rfl ?_))
 rw [if_neg (by decide)]
 refine wpAny_bind (wpAny_frameOf_fun (base:=base) hA ff hf fun h2 so=>?_)
 obtain ⟨_,so1,so2⟩:=so;have u2:s.heap.UpToSlots h2:=fun b o q _=>so2 b o q
 have eFr:e∉List.filterMap (fun x=>x.frame) (env::outer):=fun z=>by
  obtain ⟨_,o,q,n⟩:=nfr e z;rw [g1] at q
  cases q;exact n _ rfl
 have g3:=g1
 rw [<-so1 e eFr] at g3;refine wpAny_bind (wpAny_entryPlaceOf fun pl hp=>?_)
 unfold EntryCells.newEntry newFields;have hz:∃es:List Value,es.length<=11/\3<es.length/\es=([Value.none,Value.ref L,Value.none,rawInt (L:Int),Value.none]++if pl.isEmpty=true then List.replicate 6 Value.none else pl):=by
  refine ⟨_,?_,?_,rfl⟩<;>(rcases hp with rfl | ⟨a,b,c,d,c9,b10,_,rfl⟩<;>simp)
 obtain ⟨es,el,e3,ees⟩:=hz;rw [<-ees];refine wpAny_bind (wpAny_newObj_type ?_ (by show _<=_;rw [size_toArray];have z:1000<sizeLine:=(by decide);omega))
 have g4:(h2.push { cls:=Value.type "traceback",data:=Data.fields es.toArray }).get? e=some { cls:=cls,data:=Data.fields #[Value.ref t,Value.none,Value.none,Value.none,Value.bool false,Value.none] }:=Heap.get?_push_of_some _ g3
 have g5:(h2.push { cls:=Value.type "traceback",data:=Data.fields es.toArray }).get? h2.objs.size=some { cls:=Value.type "traceback",data:=Data.fields es.toArray }:=Heap.get?_push_size _ rfl
 have n2:h2.get? h2.objs.size=none:=by
  cases q:h2.get? h2.objs.size with
  | none=>rfl
  | some o=>exact absurd (Heap.lt_size q) (Nat.lt_irrefl _)
 have u3:h2.UpToSlots (h2.push { cls:=Value.type "traceback",data:=Data.fields es.toArray }):=fun b o q _=>⟨o.slots,Heap.get?_push_of_some _ q⟩
 have k3:∀b o,h2.get? b=some o->(h2.push { cls:=Value.type "traceback",data:=Data.fields es.toArray }).get? b=some o:=fun b o q=>Heap.get?_push_of_some _ q
 generalize hT2:h2.objs.size=T2 at g5 n2 ⊢
 generalize h2.push { cls:=Value.type "traceback",data:=Data.fields es.toArray }=h3 at g4 g5 u3 k3 ⊢
 have vs1:1<(#[Value.ref t,Value.none,Value.none,Value.none,Value.bool false,Value.none]:Array Value).size:=by simp
 have eT2:e≠T2:=fun z=>by rw [<-z,g3] at n2;cases n2
 refine wpAny_setField g4 rfl vs1 ?_
 have u4:=Dz (f:=fun x=>x.setIfInBounds 1 (Value.ref T2)) g4 rfl
 obtain ⟨oe2,g6,d6,c6⟩:=Du (f:=fun x=>x.setIfInBounds 1 (Value.ref T2)) g4 rfl
 have k4:∀b,b≠e->(h3.update e (Obj.mapFields fun x=>x.setIfInBounds 1 (Value.ref T2))).get? b=h3.get? b:=fun b z=>Heap.get?_update_ne _ _ _ _ z
 generalize h3.update e (Obj.mapFields fun x=>x.setIfInBounds 1 (Value.ref T2))=h4 at u4 g6 k4 ⊢
 have g7:h4.get? T2=some { cls:=Value.type "traceback",data:=Data.fields es.toArray }:=by rw [k4 T2 (Ne.symm eT2)];exact g5
 have v6:((#[Value.ref t,Value.none,Value.none,Value.none,Value.bool false,Value.none]:Array Value).setIfInBounds 1 (Value.ref T2))[1]?=some (Value.ref T2):=by simp
 refine wpAny_setFlight_none g6 d6 v6 g7 rfl (by rw [size_toArray];exact e3) ?_
 have u5:=Dz (f:=fun x=>x.setIfInBounds 3 Value.none) g7 rfl
 obtain ⟨oT2,g8,d8,c8⟩:=Du (f:=fun x=>x.setIfInBounds 3 Value.none) g7 rfl
 have k5:∀b,b≠T2->(h4.update T2 (Obj.mapFields fun x=>x.setIfInBounds 3 Value.none)).get? b=h4.get? b:=fun b z=>Heap.get?_update_ne _ _ _ _ z
 generalize h4.update T2 (Obj.mapFields fun x=>x.setIfInBounds 3 Value.none)=h5 at u5 g8 k5 ⊢
 have u:s.heap.UpToSlots h5:=((u2.trans u3).trans u4).trans u5
 have g9:h5.get? e=some oe2:=by rw [k5 e eT2];exact g6
 have bT2:base.get? T2=none:=by
  cases q:base.get? T2 with
  | none=>rfl
  | some o=>
   have q1:=st T2 o q
   have hb:T2∉List.filterMap (fun x=>x.frame) (env::outer):=fun z=>by
    have:=(nfr T2 z).1
    rw [q] at this
    cases this
   have:h2.get? T2=some o:=by rw [so1 T2 hb];exact q1
   rw [n2] at this
   cases this
 refine hQ h5 t ⟨fun b o q=>?_,be,?_,oe2,_,T2,oT2,_,g9,⟨c6,?_⟩,d6,v6,bT2,Ne.symm eT2,g8,d8,?_⟩ u ⟨oe2,_,g9,d6,?_⟩
 ·have hb:b∉List.filterMap (fun x=>x.frame) (env::outer):=fun z=>by
   have:=(nfr b z).1
   rw [q] at this
   cases this
  have n1:b≠e:=fun z=>by rw [z,be] at q;cases q
  have n3:b≠T2:=fun z=>by rw [z,bT2] at q;cases q
  rw [k5 b n3,k4 b n1];exact k3 b o (by rw [so1 b hb];exact st b o q)
 ·exact (ffd.mp (D7 ff u)).2.2
 ·simp
 ·have:3<es.toArray.size:=by rw [size_toArray];exact e3
  simp [e3]
 ·simp
theorem rz {P:Program} {w:World} {H:Hp} {h:Heap} {a:Addr} {o:HO} (x:ObjOk P w H h a o):∃u,h.get? a=some u:=by
 cases o with
 | lst xs=>obtain ⟨_,_,_,_,e⟩:=x;exact ⟨_,e⟩
 | tup xs=>obtain ⟨_,_,_,_,e,_⟩:=x;exact ⟨_,e⟩
 | dK kvs=>obtain ⟨_,_,_,_,o,_,_,e,_⟩:=x;exact ⟨_,e⟩
 | dT kvs=>obtain ⟨_,_,_,_,o,_,_,e,_⟩:=x;exact ⟨_,e⟩
 | set S n=>obtain ⟨o,_,_,_,e,_⟩:=x;exact ⟨_,e⟩
 | ins C dx fs=>obtain ⟨_,_,_,e,_⟩:=x;exact ⟨_,e⟩
 | own y=>obtain ⟨_,e⟩:=x;exact ⟨_,e⟩
 | xd fs=>obtain ⟨_,⟨_,_,_,e,_⟩,_⟩:=x;exact ⟨_,e⟩
 | rng lo hi=>obtain ⟨_,_,_,e⟩:=x;exact ⟨_,e⟩
 | frz ob u=>obtain ⟨e,_⟩:=x;exact ⟨_,e⟩
 | tbl ps=>exact ⟨_,show h.get? a=some _ from x⟩
 | met f y=>exact ⟨_,show h.get? a=some _ from x⟩
 | ext φ=>obtain ⟨_,⟨_,e⟩,_⟩:=x;exact ⟨_,e⟩
structure Dl (P:Program) (w:World) (outer:List Env) (H:Hp) (s:Shared) (H':Hp) (C a:Addr) (s':Shared):Prop where
 os:s'.os=s.os
 bare:AllBare s'.gens
 un:Un (fN outer) [] H H' s.heap s'.heap
 hok:HOk P w H' s'.heap
 ctx:C2 a s'.heap
 fly:∃B a0,Heap.FlyingW B outer a (.ref C) a0 s'.heap/\(∀b o,H' b=some o->∃u,B.get? b=some u)/\(∀b o,s.heap.get? b=some o->b∉fN outer->∃u,B.get? b=some u)
noncomputable def oZ (P:Program) (w:World):sC:=fun outer H s E e s'=>∃a C H',e=.ref a/\Dl P w outer H s H' C a s'/\E (.ref C) none H'
section
variable {X:Cx} {pins:List (Addr×Obj)} {σ:St} {H H':Hp} {s s':Shared} {B h2:Heap} {C a:Addr} {a0:Value} {E:XK}
theorem vF (I:Inv X pins σ H s) (hex:X.ex=[]) (hst:X.stack=X.env::X.outer) (hf:X.env.frame=some X.env.locals)
  (un:Un (fN X.stack) [] H H' s.heap h2) (hok:HOk X.prog X.w H' h2) (st:B.StaysIn h2) (c1:∀b o,H' b=some o->∃u,B.get? b=some u) (c2:∀b o,s.heap.get? b=some o->b∉fN X.stack->∃u,B.get? b=some u)
  (ff:h2.FunFrames B X.stack) (fl:Heap.FlyingW B X.outer a (.ref C) a0 s'.heap) (up:h2.UpToSlots s'.heap) (os:s'.os=s.os) (bare:AllBare s'.gens) (cx:C2 a s'.heap):Dl X.prog X.w X.outer X.H₀ X.s₀ H' C a s':=by
 have hfs:fN X.stack=X.env.locals::X.fs:=by
  rw [hst];show List.filterMap _ _=_
  rw [filterMap_cons,hf];rfl
 have hx:∀b:Addr,b∉X.ex:=fun b=>by rw [hex];exact nofun
 have hn:∀b:Addr,b∉([]:List Addr):=fun b z=>nomatch z
 have old:∀b o,X.s₀.heap.get? b=some o->b∉X.fs->b∉fN X.stack:=fun b o q hb z=>by
  rw [hfs] at z;rcases List.mem_cons.mp z with z | z
  ·have l1:=Heap.lt_size q
   have l2:=I.ok.above
   rw [<-z] at l2;exact absurd l1 (Nat.not_lt.mpr l2)
  ·exact hb z
 have keepB:∀b o u,B.get? b=some u->h2.get? b=some o->s'.heap.get? b=some o:=fun b o u e1 e2=>by
  have e3:=st b u e1
  rw [e2] at e3
  cases e3;exact fl.1 b o e1
 have ffo:=fl.2.2.1
 refine ⟨os.trans I.os,bare,⟨fun b o q n hb _=>?_,fun b o q n hb _=>?_,fun b o q n _=>?_,fun b o q _=>?_,fun b xs q=>un.tups b xs (I.base.tups b xs q),fun b o u q=>un.frzs b o u (I.base.frzs b o u q),fun b ps q=>?_⟩,fun b o e=>?_,cx,B,a0,fl,c1,fun b o q hb=>?_⟩
 ·have q1:=I.base.keep b o q n hb (hx b)
  have n1:=I.base.free b o q n (hx b)
  have hb':=old b o q hb
  obtain ⟨u,e⟩:=c2 b o q1 hb'
  exact keepB b o u e (un.keep b o q1 n1 hb' (hn b))
 ·obtain ⟨sl,q1⟩:=I.base.slot b o q n hb (hx b)
  have n1:=I.base.free b o q n (hx b)
  have hb':b∈fN X.stack:=by rw [hfs];exact mem_cons_of_mem _ hb
  obtain ⟨sl2,q2⟩:=un.slot b _ q1 n1 hb' (hn b)
  obtain ⟨_,o',e,d⟩:=ff.mem hb'
  rw [q2] at e
  cases e;obtain ⟨sl3,q3⟩:=up b _ q2 d;exact ⟨sl3,q3⟩
 ·obtain ⟨o1,q1⟩:=I.base.there b o q (hx b)
  exact un.free b o1 q1 (I.base.free b o q n (hx b)) (hn b)
 ·obtain ⟨o1,q1⟩:=I.base.there b o q (hx b)
  by_cases hb:b∈X.fs
  ·obtain ⟨_,o',e,_⟩:=ffo.mem hb
   exact ⟨o',e⟩
  ·obtain ⟨u,e⟩:=c2 b o1 q1 (old b o q hb)
   exact ⟨u,fl.1 b u e⟩
 ·obtain ⟨m1,e1⟩:=I.base.tbls b ps q
  obtain ⟨m2,e2⟩:=un.tbls b _ e1;exact ⟨m1++m2,by rw [e2,Array.append_assoc]⟩
 ·refine (hok b o e).stay (fun c u hc q=>?_) (fun _ q=>q) fun _ _ q=>q
  have hc':∃o',H' c=some o':=by
   rcases hc with z | z
   ·exact ⟨o,by rw [z];exact e⟩
   ·exact ⟨_,z⟩
  obtain ⟨o',z⟩:=hc'
  obtain ⟨v,e1⟩:=c1 c o' z
  exact keepB c u v e1 q
 ·obtain ⟨o1,q1⟩:=I.base.there b o q (hx b)
  exact c2 b o1 q1 (old b o q hb)
theorem CP {M:Model} {A:Around} {E2:Value->Shared->Prop} {Q:Unit->Shared->Prop} (I:Inv X pins σ H s) (hex:X.ex=[]) (hst:X.stack=X.env::X.outer) (hf:X.env.frame=some X.env.locals) (hA:A.frames=some X.stack) (f:Dl X.prog X.w X.stack H s H' C a s')
  (hQ:∀h',Dl X.prog X.w X.outer X.H₀ X.s₀ H' C a { s' with heap:=h' }->Q () { s' with heap:=h' }):wpAny M A (leaving X.env (.ref a)) Q E2 s':=by
 obtain ⟨os,bare,un,hok,cx,B,a0,fl,c1,c2⟩:=f;refine om (by rw [hA,hst]) hf (by rw [<-hst];exact fl) cx fun h' fl' up cx'=>hQ h' ?_
 exact vF (s':={ s' with heap:=h' }) I hex hst hf un hok fl.1 c1 c2 fl.2.2.1 fl' up os bare cx'
theorem vG {M:Model} {A:Around} {E2:Value->Shared->Prop} {Q:Unit->Shared->Prop} {h1:Heap} {args:List Value} (I:Inv X pins σ H s) (hex:X.ex=[]) (hst:X.stack=X.env::X.outer) (hf:X.env.frame=some X.env.locals) (hA:A.frames=some X.stack)
  (hx:Heap.MadeExcOf s.heap h1 a (.ref C) args) (hQ:∀h',Dl X.prog X.w X.outer X.H₀ X.s₀ H C a { s with heap:=h' }->Q () { s with heap:=h' }):wpAny M A (leaving X.env (.ref a)) Q E2 { s with heap:=h1 }:=by
 have ff:s.heap.FunFrames (PySem.W.hideAll s.heap (fN X.stack)) X.stack:=PySem.W.funFrames_hide I.stack fun env he b hb=>List.mem_filterMap.mpr ⟨env,he,hb⟩
 refine kT (base:=PySem.W.hideAll s.heap (fN X.stack)) (h:=s.heap) (env:=X.env) (outer:=X.outer) (by rw [hA,hst]) hf (fun b o q=>PySem.W.of_hideAll _ q) (by rw [<-hst];exact ff) hx fun h' t fl up cx=>hQ h' ?_
 refine vF (h2:=s.heap) (s':={ s with heap:=h' }) I hex hst hf (Un.kept fun b o q=>q) I.hok (fun b o q=>PySem.W.of_hideAll _ q) (fun b o e=>?_) (fun b o q hb=>⟨o,PySem.W.hideAll_get _ q hb⟩) ff fl ((Heap.UpToSlots.of_keeps hx.keeps).trans up) rfl I.bare cx
 by_cases hb:b∈fN X.stack
 ·have:=I.stkFree b hb
  rw [this] at e
  cases e
 ·obtain ⟨u,hu⟩:∃u,s.heap.get? b=some u:=by
   exact rz (I.hok b o e)
  exact ⟨u,PySem.W.hideAll_get _ hu hb⟩
end
theorem Fp {P:Program} {w:World} {K:Fg} {mg:Str->Option Value} {base:Heap} {N:List Str} {qual:Str} {sc:Scope} {f:Addr} {cd:Value} {A:Around} {outer:List Env} {s:Shared} {H:Hp} {E E':XK}
  (h:∀u d H',E' u d H'->E u d H'):lx (oZ P w) (fg (oZ P w) P w K mg base N qual sc f cd A outer s H E) E':=by
 intro pins σ H1 s1 e s2 I h2;obtain ⟨a,C,H',rfl,fl,hE⟩:=h2;exact CP I rfl rfl rfl I.ok.frames fl fun h' fl'=>⟨a,C,H',rfl,fl',h _ _ _ hE⟩
noncomputable def Makes (X:Cx) (E:XK):Prop:=∀(pins:List (Addr×Obj)) (σ:St) (H:Hp) (s:Shared) (h1:Heap) (a C:Addr) (args:List Value),Inv X pins σ H s->Heap.MadeExcOf s.heap h1 a (.ref C) args->E (.ref C) none H->X.xe (.ref a) { s with heap:=h1 }
theorem Cd {P:Program} {w:World} {K:Fg} {mg:Str->Option Value} {base:Heap} {N:List Str} {qual:Str} {sc:Scope} {f:Addr} {cd:Value} {A:Around} {outer:List Env} {s:Shared} {H:Hp} {E E':XK}
  (h:∀u d H',E' u d H'->E u d H'):Makes (fg (oZ P w) P w K mg base N qual sc f cd A outer s H E) E':=by
 intro pins σ H1 s1 h1 a C args I hx hE;exact vG I rfl rfl rfl I.ok.frames hx fun h' fl=>⟨a,C,H1,rfl,fl,h _ _ _ hE⟩
section
variable {X:Cx} {x:Str} {C:Addr} {B Bn newId nid initId inN:String} {bm bmN:List Value} {np cpos pos:Pos} {e:Expr} {es:List Expr} {t:TA} {E:XK}
noncomputable def AQ (C:Addr) (E:XK) (t:TA):TS:=fun _ σ H=>t σ H fun vs H1=>vs.length<=sizeLine/\E (.ref C) none H1
theorem uI (hc:X.calm=true) (O:OwnCls x C bm newId X.mg X.base) (Fn:ExcBaseFacts Bn newId inN bmN) (hBn:bm.contains (.type Bn)=true) (FB:ExcBaseFacts B nid initId bm) (hg:Gl X x) (hM:Makes X E) (ha:PA X (e::es) t)
  (he:starEach (e::es) X.env=(false,eval e X.env)::starEach es X.env:=by rfl) (hplain:(backTo cpos (starEach es X.env)).any (·.1)=false:=by rfl) (hd:(x==("__debug__":Str))=false:=by decide) :
  PS X (.Raise (some (.Call (.Name x np) (e::es) [] cpos)) none pos) (AQ C E t):=by
 intro pins s σ H D I h;obtain ⟨tl,N,nm,q,bs,hdct,sn,sub,ab,col,dd,k0,k1,k2,k3,k5,mN,hC,hN,hni,T⟩:=O.obj;refine wpAny_Raise_call_subU (C:=C) (nm:=nm) (q:=q) (N:=N) (bs:=bs) (bm:=tl) (hdct:=hdct) (sn:=sn) (sub:=sub) (ab:=ab) (col:=col) (dd:=dd) (k0:=k0) (k1:=k1) (k2:=k2) (k3:=k3) (k5:=k5)
  Fn hBn FB (mN:=mN) (T.hasType FB.hasBase) (I.ok.hd hc) (by rw [he];show (false||(backTo cpos (starEach es X.env)).any (·.1))=false;rw [hplain];rfl) hni (zh I hg O.bound ⟨rfl,?_⟩ hd)
 have h2:=ha cpos pins s σ H _ I h
 rw [he] at h2 ⊢;refine Calls.evalArgs_plain (wpAny_mono h2 (fun vs s₂ h₂=>?_) fun _ _ y=>y)
 obtain ⟨ws,H1,I1,r,hl,hE⟩:=h₂;exact ⟨rfl,by rw [<-r.length];exact hl,I1.bk _ _ hC,hN.keeps I1.bk,T.keeps I1.bk,fun h' a hx=>hM pins σ H1 s₂ h' a C vs I1 hx hE⟩
end
noncomputable def iX (CX:sC) (X:Cx) (EE:St->XK):Prop:=∀(pins:List (Addr×Obj)) (σ:St) (H:Hp) (s:Shared) (e:Value) (s':Shared),Inv X pins σ H s->CX X.stack H s (EE σ) e s'->X.xe e s'
noncomputable def tU (sp:Sp) (EE:St->XK) (t:TA):TE:=fun σ H Q=>t σ H fun vs H1=>sp vs H1 Q (EE σ)
section
variable {X:Cx} {CX:sC} {k:Nat} {f:Addr} {fd:FuncData} {ps:List Str} {sp:Sp} {EE:St->XK} {x:Str} {p pos:Pos} {e:Expr} {es:List Expr} {t:TA}
theorem xp {pins:List (Addr×Obj)} {σ:St} {H:Hp} {s:Shared} {Q:VK} {us:List Value} {vs:List V} (F:dk X.prog X.w X.K X.mg X.base CX k f fd ps sp) (hr:Room k X.A) (hb:Binds X.K fd ps []) (hx:iX CX X EE)
  (I:Inv X pins σ H s) (r:Vals vs us) (h:sp vs H Q (EE σ)):wpAny (model X.prog X.w) X.A (call (.ref f) us) (EP X pins σ Q) X.xe s:=by
 have hl:us.length=ps.length:=by rw [<-r.length];exact F.len _ _ _ _ h
 have hb2:=hb s us I.kIn (by rw [append_nil];exact hl)
 rw [append_nil] at hb2;refine wpAny_call (codeAny_mono (F.run X.A X.stack s H ⟨us,[]⟩ us vs Q (EE σ) hr I.env0 hb2 r h) fun r s' hq=>?_)
 cases r with
 | error e=>exact hx pins σ H s e s' I hq
 | ok fl=>
  cases fl with
  | ret u=>exact I.after hq
  | next=>exact False.elim hq
  | brk=>exact False.elim hq
  | cont=>exact False.elim hq
theorem uV (F:dk X.prog X.w X.K X.mg X.base CX k f fd ps sp) (hr:Room k X.A) (hg:Gl X x) (hm:X.mg x=some (.ref f)) (hk:PySem.W.keepIn X.K (.ref f)=true) (hb:Binds X.K fd ps []) (hx:iX CX X EE)
  (ha:PA X (e::es) t) (hdb:(x==("__debug__":Str))=false:=by decide) (he:starEach (e::es) X.env=(false,eval e X.env)::starEach es X.env:=by rfl) (hpl:(backTo pos (starEach es X.env)).any (·.1)=false:=by rfl) :
  PE X (.Call (.Name x p) (e::es) [] pos) (tU sp EE t):=by
 intro pins s σ H Q I h;refine wpAny_Call_Name_kw (zh I hg hm ?_ hdb)
 refine PySem.W.callWith_K (h₀:=X.base) I.ok.mod.kin hk (bF (ha pos pins s σ H _ I h) fun us s1 ⟨vs,H1,I1,r,q⟩=>⟨I1.kIn,?_⟩) he hpl
 exact xp F hr hb hx I1 r q
end
noncomputable def eY (X:Cx) (pins:List (Addr×Obj)) (W:Addr->St->Hp->Prop):Cx:=
 { X with pn:=X.pn++pins,xe:=fun e s'=>∃(ps:List (Addr×Obj)) (σ:St) (H H':Hp) (s:Shared) (a C:Addr),e=.ref a/\Inv X (pins++ps) σ H s/\Dl X.prog X.w X.stack H s H' C a s'/\W C σ H' }
section
variable {X:Cx} {pins ps:List (Addr×Obj)} {W:Addr->St->Hp->Prop} {σ:St} {H:Hp} {s:Shared}
theorem vp (ok:X.Ok):(eY X pins W).Ok:=⟨ok.mod,ok.kind,ok.glob,ok.blt,ok.above,ok.inj,ok.has,ok.cab,ok.hd,ok.frames,ok.stk,ok.exf,ok.bs,ok.bsz,ok.noex,ok.exfs,ok.funs,ok.frf⟩
theorem vn (ok:(eY X pins W).Ok):X.Ok:=⟨ok.mod,ok.kind,ok.glob,ok.blt,ok.above,ok.inj,ok.has,ok.cab,ok.hd,ok.frames,ok.stk,ok.exf,ok.bs,ok.bsz,ok.noex,ok.exfs,ok.funs,ok.frf⟩
theorem vo (I:Inv X (pins++ps) σ H s):Inv (eY X pins W) ps σ H s:=⟨vp I.ok,I.os,I.bare,I.base,I.loc,I.cell,I.free,I.freeC,fun p hp=>I.pin p (by rw [<-append_assoc];exact hp),I.hok,I.len⟩
theorem mR (I:Inv (eY X pins W) ps σ H s):Inv X (pins++ps) σ H s:=⟨vn I.ok,I.os,I.bare,I.base,I.loc,I.cell,I.free,I.freeC,fun p hp=>I.pin p (by rw [<-append_assoc] at hp;exact hp),I.hok,I.len⟩
theorem Inv.less (I:Inv X (pins++ps) σ H s):Inv X pins σ H s:=⟨I.ok,I.os,I.bare,I.base,I.loc,I.cell,I.free,I.freeC,fun p hp=>I.pin p (by rw [<-append_assoc];exact mem_append_left _ hp),I.hok,I.len⟩
theorem kU:iX (oZ X.prog X.w) (eY X pins W) fun σ=>fun u _ H'=>∃C,u=.ref C/\W C σ H':=by
 intro qs σ H s e s' I h
 obtain ⟨a,C,H',rfl,fl,C',hC,hW⟩:=h
 cases hC;exact ⟨qs,σ,H,H',s,a,C,rfl,mR I,fl,hW⟩
end
theorem jO:entryFor table "proto.unchain"=some Builtin.«proto.unchain»:=by kernel_rfl
theorem oz:(firstArgMember (Value.type "StopIteration") []:Sem Value)=pure Value.none:=by with_unfolding_all rfl
theorem uY:ownMembersOf (Value.type "StopIteration") []=#[]:=by with_unfolding_all rfl
theorem tV:isSubtype (Value.type "StopIteration") (Value.type "StopIteration")=pure true:=by with_unfolding_all rfl
theorem lQ {α:Type} {prog:Program} {w:World} {A:Around} {E:Value->Shared->Prop} {s:Shared} {a:Addr} {Q:α->Shared->Prop} (hh:A.handled=some (.ref a)) (c:C2 a s.heap)
  (hE:∀h' e,(∀b o,s.heap.get? b=some o->h'.get? b=some o)->(∃o,h'.get? e=some o/\o.cls=Value.type "StopIteration")->E (.ref e) { s with heap:=h' }):wpAny (model prog w) A (Builtin.SmallTypes.stopIteration:Sem α) Q E s:=by
 obtain ⟨oa,va,ga,da,v2⟩:=c;unfold Builtin.SmallTypes.stopIteration newExc;rw [oz,uY];refine wpAny_bind (wpAny_bind (wpAny_newTuple ?_ (by decide)))
 refine wpAny_bind (wpAny_pure ?_)
 refine wpAny_newObj_type ?_ (by show _<=_;simp [sizeLine];try decide)
 have k1:∀b o,s.heap.get? b=some o->(s.heap.push { cls:=Value.type "tuple",data:=Data.seq ([]:List Value).toArray }).get? b=some o:=fun b o q=>Heap.get?_push_of_some _ q
 generalize s.heap.push { cls:=Value.type "tuple",data:=Data.seq ([]:List Value).toArray }=h1 at k1 ⊢
 dsimp only;have g2:=Heap.get?_push_size h1 (o:={ cls:=Value.type "StopIteration",data:=Data.fields (#[Value.ref s.heap.objs.size,Value.none,Value.none,Value.none,Value.bool false,Value.none] ++ #[]) }) rfl
 have k2:∀b o,h1.get? b=some o->(h1.push { cls:=Value.type "StopIteration",data:=Data.fields (#[Value.ref s.heap.objs.size,Value.none,Value.none,Value.none,Value.bool false,Value.none] ++ #[]) }).get? b=some o:=fun b o q=>Heap.get?_push_of_some _ q
 have ne:h1.objs.size≠a:=fun z=>by
  have:=Heap.lt_size (k1 a oa ga)
  rw [<-z] at this;exact Nat.lt_irrefl _ this
 have old:∀b o,s.heap.get? b=some o->b≠h1.objs.size:=fun b o q z=>by
  have:=Heap.lt_size (k1 b o q)
  rw [z] at this;exact Nat.lt_irrefl _ this
 generalize hsz:h1.objs.size=e at g2 ne old ⊢
 generalize h1.push { cls:=Value.type "StopIteration",data:=Data.fields (#[Value.ref s.heap.objs.size,Value.none,Value.none,Value.none,Value.bool false,Value.none] ++ #[]) }=h2 at g2 k2 ⊢
 unfold raiseNew;refine wpAny_bind (wpAny_handled ?_)
 rw [hh];dsimp only;rw [if_pos (by show (Value.ref a != Value.ref e)=true;simpa using Ne.symm ne)]
 refine wpAny_bind (wpAny_holding (runValue_entry jO ?_))
 unfold Builtin.«proto.unchain»
 refine wpAny_bind (wpAny_field (k2 _ _ (k1 _ _ ga)) da v2 ?_)
 rw [if_pos (by rfl)]
 refine wpAny_pure ⟨_,rfl,?_⟩
 refine wpAny_bind ?_
 refine wpAny_setField (a:=e) g2 rfl (by simp) ?_
 refine wpAny_throw (hE _ e (fun b o q=>?_) ?_)
 ·rw [Heap.get?_update_ne _ _ _ _ (old b o q)]
  exact k2 b o (k1 b o q)
 ·obtain ⟨o',q,_,q2⟩:=Du (f:=fun x=>x.setIfInBounds 2 (Value.ref a)) g2 rfl
  exact ⟨o',q,q2⟩
theorem pyNext_range_endC {prog:Program} {w:World} {A:Around} {E:Value->Shared->Prop} {s:Shared} {it a:Addr} {x left step:Int} {Q:Option Value->Shared->Prop} (hh:A.handled=some (.ref a)) (c:C2 a s.heap) (h:IsRangeIter s.heap it x left step) (hl:left<=0)
  (hQ:∀h',(∀b o,s.heap.get? b=some o->h'.get? b=some o)->Q none { s with heap:=h' }):wpAny (model prog w) A (pyNext (.ref it)) Q E s:=by
 unfold pyNext;refine wpAny_bind (wpAny_attempt (wpAny_callSpecial?_slotG ⟨_,h,rfl⟩ F.slot_range_iterator_next.toG (wpAny_call_entry F.slot_range_iterator_next ⟨_,h,rfl⟩ F.entry_range_iterator_next ?_ (F.args_range_iterator_next_1 _))))
 unfold Builtin.«range_iterator.__next__»
 refine wpAny_bind (wpAny_pure ?_)
 dsimp only;refine wpAny_bind (wpAny_field (i:=0) (x:=rawInt x) h rfl rfl ?_)
 dsimp only [rawInt]
 refine wpAny_bind (wpAny_field (i:=1) (x:=rawInt left) h rfl rfl ?_)
 dsimp only [rawInt]
 refine wpAny_bind (wpAny_field (i:=2) (x:=rawInt step) h rfl rfl ?_)
 dsimp only [rawInt]
 rw [if_pos hl];refine wpAny_bind (wpAny_rule ?_)
 refine wpAny_bind (lQ (by rw [Around.in1_handled];exact hh) c fun h' e k he=>?_)
 try dsimp only
 refine wpAny_bind (wpAny_isInstance he tV ?_)
 rw [if_pos rfl];exact wpAny_pure (hQ h' k)
end T
namespace L2
open PySem PySem.Spec PyProof.Rows
open T (C2)
structure Am (e9:Addr) (P:Program) (w:World) (K:Fg) (tg:Expr) (J:It) (fp:List Addr) (it:Addr) (tn:Nat->Heap->Prop):Prop where
 mem:it∈fp
 obj:∀i h,tn i h->∀b∈fp,∃o,h.get? b=some o/\∀v,o.data≠.cell v
 keep:∀i h h',tn i h->(∀b∈fp,∀o,h.get? b=some o->h'.get? b=some o)->tn i h'
 item:∀(X:Cx),X.prog=P->X.w=w->X.K=K->∀(i:Nat) (pins:List (Addr×Obj)) (s:Shared) (σ:St) (H:Hp) (E:Value->Shared->Prop),Inv X pins σ H s->(∀b∈fp,gP X pins H b)->tn i s.heap->J.go i H ->
  wpAny (model P w) X.A (pyNext (.ref it)) (fun r s1=>∃u,r=some u /\
   wpAny (model P w) X.A (letOwnedTupleGo tg (.ref it) u) (fun _ s2=>∃x H',Inv X pins σ H' s2/\RelV x u/\J.yld i H x H'/\tn (i+1) s2.heap/\∀b∈fp,H' b=none) E s1) E s
 done:∀(X:Cx),X.prog=P->X.w=w->X.K=K->X.A.handled=some (.ref e9)->∀(i:Nat) (pins:List (Addr×Obj)) (s:Shared) (σ:St) (H:Hp) (E:Value->Shared->Prop),C2 e9 s.heap->Inv X pins σ H s->(∀b∈fp,gP X pins H b)->tn i s.heap->J.stop i H ->
  wpAny (model P w) X.A (pyNext (.ref it)) (fun r s1=>r=none/\Inv X pins σ H s1) E s
 self:∀(A:Around) (i:Nat) (s:Shared) (Q:Value->Shared->Prop) (E:Value->Shared->Prop),tn i s.heap->Q (.ref it) s->wpAny (model P w) A (pyIter (.ref it)) Q E s
noncomputable def GQ (e9:Addr) (X:Cx) (pins:List (Addr×Obj)) (σ:St) (tg:Expr) (R:It->Hp->Prop) (itv:Value) (s2:Shared):Prop:=
 ∃(it:Addr) (fp:List Addr) (tn:Nat->Heap->Prop) (J:It) (H':Hp),itv=.ref it/\Inv X pins σ H' s2/\Am e9 X.prog X.w X.K tg J fp it tn/\tn 0 s2.heap/\(∀b∈fp,gP X pins H' b)/\R J H'
noncomputable def Di (e9:Addr) (X:Cx) (tg iter:Expr) (wi:TI):Prop:=
 ∀(pins:List (Addr×Obj)) (s:Shared) (σ:St) (H:Hp) (R:It->Hp->Prop),Inv X pins σ H s->wi σ H R ->
  wpAny (model X.prog X.w) X.A (eval iter X.env) (fun v s1=>wpAny (model X.prog X.w) X.A (pyIter v) (GQ e9 X pins σ tg R) X.xe s1) X.xe s
theorem lL {e9:Addr} {P:Program} {w:World} {K:Fg} {tg:Expr} (it:Addr) (lo:Int) (n:Nat):Am e9 P w K tg (zc lo n) [it] it (fun i h=>IsRangeIter h it (lo+(i:Nat)*1) ((n:Int)-(i:Nat)) 1) where
 mem:=by simp
 obj:=(Jf (P:=P) (w:=w) (K:=K) (tg:=tg) it lo n).obj
 keep:=(Jf (P:=P) (w:=w) (K:=K) (tg:=tg) it lo n).keep
 item:=by
  intro X hP hw hK i pins s σ H E I hf st hg;subst hP hw hK;obtain ⟨f0,f1,f2,f3,f4,f5⟩:=hf it (by simp)
  have hg:i<n:=hg
  refine wpAny_pyNext_range_item st (by omega) fun h' st' sb=>?_
  have st2:IsRangeIter h' it (lo+((i+1:Nat):Int)*1) ((n:Int)-((i+1:Nat):Int)) 1:=by
   rw [show lo+((i+1:Nat):Int)*1=lo+(i:Nat)*1+1 by omega,show (n:Int)-((i+1:Nat):Int)=(n:Int)-(i:Nat)-1 by omega]
   exact st'
  have I1:Inv X pins σ H { s with heap:=h',toks:=s.toks+1 }:=I.turned (fun b o hb e=>(sb.2 b hb).trans e) f0 f1 f3 f4 f5
  refine ⟨_,rfl,qe (s:={ s with heap:=h',toks:=s.toks+1 }) (n := "range_iterator") st2 rfl rfl (by decide) ⟨.int (lo+i),H,I1,⟨s.toks,?_⟩,⟨rfl,rfl⟩,st2,fun b hb=>(hf b hb).1⟩⟩
  rw [Int.mul_one]
 done:=by
  intro X hP hw hK hh i pins s σ H E c I hf st hg;subst hP hw hK;obtain ⟨f0,f1,f2,f3,f4,f5⟩:=hf it (by simp)
  exact T.pyNext_range_endC hh c st (by have:n<=i:=hg;omega) fun h' eb=>⟨rfl,I.turned (t':=s.toks) (fun b o hb e=>eb b o e) f0 f1 f3 f4 f5⟩
 self:=fun _ _ _ _ _ st h=>wpAny_pyIter_rangeiter st h
section
variable {X:Cx} {tg:Expr}
theorem qT {e9:Addr} {pins:List (Addr×Obj)} {σ:St} {H:Hp} {s:Shared} {R:It->Hp->Prop} {E:Value->Shared->Prop} {lo hi:Int} {t u v:Tok} {tk:Nat} (I:Inv X pins σ H s) (h1:-(2 ^ 62)<=lo) (h2:lo<2 ^ 62) (h3:-(2 ^ 62)<=hi) (h4:hi<2 ^ 62)
  (q:R (zc lo (hi-lo).toNat) H):wpAny (model X.prog X.w) X.A (pyIter (.ref s.heap.objs.size)) (GQ e9 X pins σ tg R) E { s with heap:=s.heap.push { cls:=.type "range",data:=.fields #[.int lo t,.int hi u,.int 1 v] },toks:=tk }:=by
 refine wpAny_pyIter_range (IsRange.new ..) (small_one h1 h2 h3 h4) ?_
 have I1:Inv X pins σ H { s with heap:=s.heap.push { cls:=.type "range",data:=.fields #[.int lo t,.int hi u,.int 1 v] },toks:=tk }:=I.kept fun b o e=>Heap.get?_push_of_some _ e
 refine ⟨(s.heap.push { cls:=.type "range",data:=.fields #[.int lo t,.int hi u,.int 1 v] }).objs.size,[(s.heap.push { cls:=.type "range",data:=.fields #[.int lo t,.int hi u,.int 1 v] }).objs.size],_,_,H,rfl,
  I1.kept (t':=tk) fun b o e=>Heap.get?_push_of_some _ e,lL _ lo (hi-lo).toNat,?_,fun b hb=>?_,q⟩
 ·have e1:lo+((0:Nat):Int)*1=lo:=by simp
  have e2:(((hi-lo).toNat:Nat):Int)-((0:Nat):Int)=Builtin.Range.rangeSize lo hi 1:=by rw [rangeSize_one];split<;>omega
  show IsRangeIter _ _ (lo+((0:Nat):Int)*1) ((((hi-lo).toNat:Nat):Int)-((0:Nat):Int)) 1
  rw [e1,e2];exact Heap.get?_push_size _ rfl
 ·have e:b=(s.heap.push { cls:=.type "range",data:=.fields #[.int lo t,.int hi u,.int 1 v] }).objs.size:=by simpa using hb
  subst e;exact I1.fpOk (Nat.le_refl _) (I1.hok.fresh (Nat.le_refl _))
theorem nX {e9:Addr} {a:Expr} {ta:TA} {p pos:Pos} (hg:Gl X "range") (hm:X.mg "range"=none) (ha:PA X [a] ta) (hs:starEach [a] X.env=[(false,eval a X.env)]:=by rfl):Di e9 X tg (.Call (.Name "range" p) [a] [] pos) (vq ta):=by
 intro pins s σ H R I h;refine Call_ (wR I hg hm boot_range (PyProof.Rows.callWith_type1 (bF (ha pos pins s σ H _ I h) fun us s1 ⟨vs,H1,I1,r1,q1⟩=>?_) hs rfl))
 obtain ⟨j,e,q1,q2,q⟩:=q1;subst e
 cases r1 with
 | cons r rr=>
  cases rr;obtain ⟨t,rfl⟩:=r;exact call_range_1 (qT I1 (by omega) (by omega) q1 q2 (by simpa using q))
end
section
variable {X:Cx} {scope:Scope} {is:List Nat} {tg iter elt:Expr} {ifs:List Expr} {wi:TI} {g:TG} {tc:TT} {te:TE} {pos:Pos}
theorem oO {e9:Addr} {pins:List (Addr×Obj)} {s:Shared} {σ:St} {H:Hp} {Q:VK} {RR:Value->Addr->Result->Shared->Prop} (S:cW X.N is X.env.scope scope) (hh:X.A.handled=some (.ref e9)) (hot:∀pins σ H s,Inv X pins σ H s->C2 e9 s.heap) (hi:Di e9 X tg iter wi)
  (hg:∀cells C s₀ H₀ ex,PG (blk X scope cells C s₀ H₀ ex) tg g) (hc:∀cells C s₀ H₀ ex,PF (blk X scope cells C s₀ H₀ ex) ifs tc) (he:∀cells C s₀ H₀ ex,PE (blk X scope cells C s₀ H₀ ex) elt te)
  (I:Inv X pins σ H s) (h:fG is wi g tc te σ H Q)
  (hRR:∀D C s' H' m,Inv X pins σ H' s'->s'.heap.Ns C m->Q (.ref D) H'->H' C=none->C≠X.env.locals->X.s₀.heap.objs.size<=C->(∀x c,X.env.cells.lookup x=some c->c≠C)->(∀p∈X.pn++pins,p.1≠C)->RR (.ref D) C (.ok .next) s') :
  wpAny (model X.prog X.w) X.A (eval iter X.env) (fun x s₁=>wpAny (model X.prog X.w) X.A (pyIter x) (fun it s₂=>wpAny (model X.prog X.w) X.A (newList []) (fun acc s₃=>
   wpAny (model X.prog X.w) X.A (newFunctionEnv scope X.env.globals (cI X.env scope.names []) [] X.env.qual none .none (some X.env)) (fun cenv s₄=>
    codeAny (model X.prog X.w) X.A (.compStart (.ListComp elt [⟨tg,iter,ifs,0⟩] scope pos) 0 it acc { cenv with scope:=relabel scope X.env }) (RR acc cenv.locals) s₄) X.xe s₃) X.xe s₂) X.xe s₁) X.xe s:=by
 refine bF (hi pins s σ H _ I h) fun v s1 h1=>bF h1 fun itv s2 h2=>?_
 obtain ⟨it,fp,tn,J,H2,e,I2,T,st2,f2,hW⟩:=h2;subst e;obtain ⟨W,⟨m0,w0⟩,turn⟩:=hW s2.heap.objs.size (I2.hok.fresh (Nat.le_refl _));refine wpAny_newObj_type (fM ?_)
 have s1:(s2.heap.push { cls:=.type "list",dict:=none,data:=.seq ([]:List Value).toArray }).objs.size=s2.heap.objs.size+1:=by rw [Heap.size_push]
 dsimp only;rw [s1];have hfs:∀b∈fp,b<s2.heap.objs.size:=fun b hb=>by
  obtain ⟨o,e,_⟩:=T.obj 0 _ st2 b hb;exact Heap.lt_size e
 have I4:=I2.block (t':=s2.toks) S f2 hfs
 generalize hCC:s2.heap.objs.size+1=C at I4 ⊢
 have hDC:s2.heap.objs.size<C:=by rw [<-hCC];exact Nat.lt_succ_self _
 have Hg:=hg (aM X scope C) C s2 H2 fp
 have Hc:=hc (aM X scope C) C s2 H2 fp
 have He:=he (aM X scope C) C s2 H2 fp
 have Ha:=IX (X:=blk X scope (aM X scope C) C s2 H2 fp)
 have hYcell:∀x c,(blk X scope (aM X scope C) C s2 H2 fp).env.cells.lookup x=some c->s2.heap.objs.size<=c\/X.env.cells.lookup x=some c:=fun x c e=>by
  have e:(cellsFrom (C+1) scope.names (cI X.env scope.names [])).lookup x=some c:=e
  rcases DN e with ⟨_,q⟩ | q
  ·exact .inl (Nat.le_trans (Nat.le_of_lt hDC) (Nat.le_of_succ_le q))
  ·exact .inr (I2.blkOld S q)
 have FY:∀{H':Hp},(∀b∈fp,H' b=none)->∀b∈fp,gP (blk X scope (aM X scope C) C s2 H2 fp) [] H' b:=fun {H'} hn b hb=>by
  obtain ⟨f0,f1,f3,f4,f5,f6⟩:=f2 b hb;refine ⟨hn b hb,Nat.ne_of_lt (Nat.lt_trans (hfs b hb) hDC),fun z=>?_,.inl hb,fun x c e z=>?_,fun p hp=>absurd (show p∈([]:List (Addr×Obj)) from hp) (by simp)⟩
  ·rcases List.mem_cons.mp (I2.stkSub b z) with e | e
   ·exact f1 e
   ·exact f3 e
  ·rcases hYcell x c e with q | q
   ·rw [z] at q
    exact absurd (Nat.lt_of_lt_of_le (hfs b hb) q) (Nat.lt_irrefl _)
   ·exact f5 x c q z
 have hCx:∀x c,X.env.cells.lookup x=some c->c≠C:=fun x c e z=>by
  obtain ⟨v,q⟩:=I2.cell x c e;have:=q.lt
  rw [z] at this;exact absurd (Nat.lt_trans this hDC) (Nat.lt_irrefl _)
 have hCp:∀p∈X.pn++pins,p.1≠C:=fun p hp z=>by
  have:=Heap.lt_size (I2.pin p hp).1
  rw [z] at this;exact absurd (Nat.lt_trans this hDC) (Nat.lt_irrefl _)
 have out:∀{σ':St} {H':Hp} {s':Shared},Inv (blk X scope (aM X scope C) C s2 H2 fp) [] σ' H' s'->Inv X pins σ H' s':=fun {σ' H' s'} J=>
  I2.call' (ch:=fp) J.os J.base J.hok J.bare fun b hb=>by
   obtain ⟨f0,f1,f3,f4,f5,f6⟩:=f2 b hb;exact ⟨f4,f1,f5,f6⟩
 have loop:∀s₃:Shared,s₃={ s2 with heap:=pushCells ((s2.heap.push { cls:=.type "list",data:=.seq ([]:List Value).toArray }).push { cls:=.type "dict",data:=.dict #[] }) scope.names } ->
   codeAny (model X.prog X.w) X.A (.compLoop (.ListComp elt [⟨tg,iter,ifs,0⟩] scope pos) 0 (.ref it) (.ref s2.heap.objs.size) (blk X scope (aM X scope C) C s2 H2 fp).env) (RR (.ref s2.heap.objs.size) C) s₃:=by
  rintro s₃ rfl
  refine gN (fun n s'=>∃k ys H',Inv (blk X scope (aM X scope C) C s2 H2 fp) [] (bC is σ) H' s'/\tn k s'.heap/\(∀b∈fp,H' b=none)/\W k n ys H') ?_ m0
   ⟨0,[],_,I4,T.keep 0 _ _ st2 fun b _ o e=>pushCells_keeps _ _ b o (Heap.get?_push_of_some _ (Heap.get?_push_of_some _ e)),fun b hb=>by rw [d0 (Nat.ne_of_lt (hfs b hb))];exact (f2 b hb).1,w0⟩
  rintro n s3 ⟨k,ys,H3,I3,st3,fr3,w3⟩
  obtain ⟨hD3,hcase⟩:=turn k n ys H3 w3;rcases hcase with ⟨stop,qn⟩ | ⟨go,hlen,step⟩
  ·refine bF (T.done (blk X scope (aM X scope C) C s2 H2 fp) rfl rfl rfl hh k [] s3 (bC is σ) H3 wA (hot _ _ _ _ (out I3)) I3 (FY fr3) st3 stop) fun r s4 ⟨hr,I4⟩=>?_
   subst hr;obtain ⟨m,hn,_⟩:=id I4.loc;exact hRR _ C s4 H3 m (out I4) hn qn I4.free (fun z=>Nat.lt_irrefl _ (Nat.lt_trans (Nat.lt_of_lt_of_eq hDC z) I2.lt)) (Nat.le_trans I2.sz (Nat.le_of_lt hDC)) hCx hCp
  ·refine bF (T.item (blk X scope (aM X scope C) C s2 H2 fp) rfl rfl rfl k [] s3 (bC is σ) H3 wA I3 (FY fr3) st3 go) fun r s4 ⟨u,hr,h4⟩=>?_
   subst hr;refine bF h4 fun _ s5 ⟨x,H5,I5,r5,y5,st5,fr5⟩=>?_
   have I5':=I5.pinned (FY fr5) (T.obj _ _ st5)
   refine bF (Hg _ s5 (bC is σ) H5 x u _ I5' r5 (step x H5 y5)) fun _ s6 ⟨σ6,H6,I6,le6,q6⟩=>?_
   refine bF (Hc _ s6 σ6 H6 _ I6 q6) fun ok s7 ⟨H7,I7,q7⟩=>?_
   have again:∀{H8:Hp} {s8:Shared} {ys':List V},Inv (blk X scope (aM X scope C) C s2 H2 fp) ([]++gX fp s5.heap) σ6 H8 s8->(∃m',m'<n/\W (k+1) m' ys' H8) ->
     ∃m,m<n/\∃k ys H',Inv (blk X scope (aM X scope C) C s2 H2 fp) [] (bC is σ) H' s8/\tn k s8.heap/\(∀b∈fp,H' b=none)/\W k m ys H':=fun {H8 s8 ys'} I8 ⟨m',hm,w8⟩=>by
    refine ⟨m',hm,k+1,ys',H8,(I8.weak le6.1.symm le6.2).unpinned,T.keep _ _ _ st5 fun b hb o e=>(I8.pin (b,o) (mem_append_right _ (mem_append_right _ (DF hb e)))).1,fun b hb=>?_,w8⟩
    obtain ⟨o,e,d⟩:=T.obj _ _ st5 b hb;exact (I8.pin (b,o) (mem_append_right _ (mem_append_right _ (DF hb e)))).2.1
   cases ok with
   | false=>
    rw [if_neg Bool.false_ne_true] at q7;exact again I7 q7
   | true=>
    rw [if_pos rfl] at q7;refine bF (He _ s7 σ6 H7 _ I7 q7) fun y s8 ⟨v8,H8,I8,r8,q8⟩=>?_
    obtain ⟨hD8,q8⟩:=q8;refine bF (Ha _ s8 σ6 H8 (.ref s2.heap.objs.size) [v8] (.ref s2.heap.objs.size) [y] (fun _ H9=>∃m',m'<n/\W (k+1) m' (ys++[v8]) H9) I8 rfl (.cons r8 .nil) ⟨_,ys,v8,rfl,rfl,hD8,hlen,q8⟩) fun _ s9 ⟨_,H9,I9,_,q9⟩=>?_
    exact again I9 q9
 exact codeAny_compStart_list (loop _ rfl) (T.self X.A 0 _ _ _ (T.keep 0 _ _ st2 fun b _ o e=>pushCells_keeps _ _ b o (Heap.get?_push_of_some _ (Heap.get?_push_of_some _ e))) (loop _ rfl))
theorem uT {e9:Addr} (S:cW X.N is X.env.scope scope) (hh:X.A.handled=some (.ref e9)) (hot:∀pins σ H s,Inv X pins σ H s->C2 e9 s.heap) (hi:Di e9 X tg iter wi)
  (hg:∀cells C s₀ H₀ ex,PG (blk X scope cells C s₀ H₀ ex) tg g) (hc:∀cells C s₀ H₀ ex,PF (blk X scope cells C s₀ H₀ ex) ifs tc) (he:∀cells C s₀ H₀ ex,PE (blk X scope cells C s₀ H₀ ex) elt te)
  (hs:∀x,foldedSetIterable iter X.env x=pure x:=by intro _;rfl):PE X (.ListComp elt [⟨tg,iter,ifs,0⟩] scope pos) (fG is wi g tc te):=by
 intro pins s σ H Q I h;rw [eval_ListComp];refine wpAny_comprehension_free (use:=none) rfl hs (Jp (I.freeCells S)) S.kind S.loc (oO (RR:=fun acc C=>compPost (model X.prog X.w) X.A X.xe none (EP X pins σ Q) acc C) S hh hot hi hg hc he I h ?_)
 intro D C s' H' m I' hn q n1 n2 n3 n4 n5
 refine ⟨m,hn,fun h' hs'=>?_⟩
 exact ⟨.ref D,H',I'.turned (t':=s'.toks) (fun b o hb e=>(hs'.2 b hb).trans e) n1 n2 (.inr n3) n4 n5,rfl,q⟩
end
end L2
namespace T
open PySem
noncomputable def Rs (xs:Array Nat):Prop:=xs.toList.Pairwise (· < ·)
structure Tb (b:Bool) (t:SetTable):Prop where
 led:b=false->t.led=true
 rs:Rs t.place
 nd:t.dummies=#[]
open PySem.Spec L2
open PyProof.Rows hiding St
section
variable {i:Nat} {tab:List (Str×Int)} {K:Fg} {W:XW} {σ:St} {H H':Hp} {Q Q':VK} {QB QB':Bool->Hp->Prop} {f fa fb:F1} {g ga gb:FB} {D:eu} {s g1 g2:FS}
theorem wj {He:Hp} {O:List Addr} {Fs:List (List Addr)} {Γ:Ev} {v:Option V} (E:EnvOk K He O Fs H σ Γ) (e:Γ[i]?=some none):EnvOk K He O Fs H (σ.set i v) Γ:=by
 refine ⟨by rw [length_set];exact E.len1,E.len2,E.same,E.nd,E.inH,E.fresh,fun k p hp=>?_⟩
 obtain ⟨a,u,F,h1,h2,h3⟩:=E.slot k p hp;refine ⟨a,u,F,?_,h2,h3⟩
 have hk:i≠k:=fun z=>by rw [z,hp] at e;cases e
 rw [getElem?_set_ne hk];exact h1
end
end T
namespace TQ
open PySem PySem.Spec L2 T
open PyProof.Rows hiding St
section
variable {X:Cx} {N gl:List Str} {vs cs ls lo gs:List Nat} {W:XW} {a b c e:Expr} {es:List Expr} {pos p p2:Pos} {fa fb fc:F1} {fl:FL} {ga gb:FB} {g1 g2 g:FS} {i:Nat} {tab:List (Str×Int)}
theorem Kd (S:Cp X N gl vs cs ls lo gs) (i:Nat) {x:Str} {pos:Pos} (e:N[i]?=some x) (hi:vs.contains i=true):PE X (.Name x pos) (b6 i):=by
 have m:=S.nm x (mem_of_getElem? e)
 exact wB (by rw [S.hN];exact e) (S.vis i x e hi) m.1 m.2
end
end TQ
namespace T
open PySem PySem.Spec L2
open PyProof.Rows hiding St
abbrev It:=cV ⊕ List cV
section
variable {prog:Program} {w:World}
inductive Its2 (h:Heap):List It->List Value->Prop
 | nil:Its2 h [] []
 | v {k:cV} {u:Value} {ks:List It} {us:List Value}:(bp prog w).is k u=true->Its2 h ks us->Its2 h (.inl k::ks) (u::us)
 | t {l:List cV} {b:Addr} {ks:List It} {us:List Value}:IsTupleKey (bp prog w) h l b->Its2 h ks us->Its2 h (.inr l::ks) (.ref b::us)
variable (prog w)
noncomputable def Is2 (h:Heap) (ks:List It) (a:Addr):Prop:=∃o items n,h.get? a=some o/\o.cls=.type "tuple"/\o.data=.seq items n/\Its2 (prog:=prog) (w:=w) h ks items.toList
variable {prog w}
theorem pW {k:cV} {b:Addr}:(bp prog w).is k (.ref b)=true->False:=fun h=>by
 rcases wJ h with ⟨i,t,_,e⟩ | ⟨x,t,_,e⟩<;>cases e
theorem Its2.inj {h:Heap} {x y:List It} {us:List Value} (hx:Its2 (prog:=prog) (w:=w) h x us) (hy:Its2 (prog:=prog) (w:=w) h y us):x=y:=by
 induction hx generalizing y with
 | nil=>cases hy;rfl
 | v h1 _ ih=>
  cases hy with
  | v h2 t2=>rw [(bp prog w).inj _ _ _ h1 h2,ih t2]
  | t h2 t2=>exact (pW h1).elim
 | t h1 _ ih=>
  cases hy with
  | v h2 t2=>exact (pW h2).elim
  | t h2 t2=>rw [h1.inj h2,ih t2]
theorem Is2.typeIs {s:Shared} {ks:List It} {a:Addr} (x:Is2 prog w s.heap ks a):s.TypeIs (.ref a) "tuple":=let ⟨o,_,_,ho,hc,_⟩:=x;⟨o,ho,hc⟩
theorem Is2.inj {h:Heap} {a:Addr} {x y:List It} (hx:Is2 prog w h x a) (hy:Is2 prog w h y a):x=y:=by
 obtain ⟨o,items,n,ho,_,hd,hi⟩:=hx;obtain ⟨o',items',n',ho',_,hd',hi'⟩:=hy;obtain rfl:o=o':=Option.some.inj (ho.symm.trans ho')
 rw [hd] at hd';injection hd' with h1 _
 subst h1;exact hi.inj hi'
theorem Its2.keeps {h h':Heap} {ks:List It} {us:List Value} {d:Addr} {o:Obj} {es:Array DictEntry} {ep:Nat} (x:Its2 (prog:=prog) (w:=w) h ks us) (ho:h.get? d=some o) (hd:o.data=.dict es ep) (hs:Heap.SameBut d h h'):Its2 (prog:=prog) (w:=w) h' ks us:=by
 induction x with
 | nil=>exact .nil
 | v h1 _ ih=>exact .v h1 ih
 | t h1 _ ih=>exact .t (h1.keeps ho hd hs) ih
theorem Is2.keeps {h h':Heap} {ks:List It} {a d:Addr} {o:Obj} {es:Array DictEntry} {ep:Nat} (x:Is2 prog w h ks a) (ho:h.get? d=some o) (hd:o.data=.dict es ep) (hs:Heap.SameBut d h h'):Is2 prog w h' ks a:=by
 obtain ⟨o',items,n,ho',hc,hd',hi⟩:=x;have hne:a≠d:=by
  rintro rfl
  obtain rfl:o'=o:=Option.some.inj (ho'.symm.trans ho)
  rw [hd] at hd';exact nomatch hd'
 exact ⟨o',items,n,(hs.2 a hne).trans ho',hc,hd',hi.keeps ho hd hs⟩
noncomputable def hI (w:World):It->Int
 | .inl k=>Cr w k
 | .inr l=>reduceHash (Builtin.Tuple.tupleHashOf (l.map (Cr w)))
noncomputable def dI:It->Nat
 | .inl _=>1
 | .inr l=>l.length+1
noncomputable def Kk (w:World) (ks:List It):Int:=reduceHash (Builtin.Tuple.tupleHashOf (ks.map (hI w)))
noncomputable def Ku (ks:List It):Nat:=(ks.map dI).sum+1
variable {A:Around} {E:Value->Shared->Prop} {s:Shared}
theorem F5 {ks:List It} {a:Addr} {Q:Int->Shared->Prop} (hu:A.units+1<cLine) (hk:Is2 prog w s.heap ks a) (h:Q (Kk w ks) { s with toks:=s.toks+Ku ks }):wpAny (model prog w) A (pyHash (.ref a)) Q E s:=by
 have hT:=hk.typeIs
 obtain ⟨o,items,n,ho,_,hd,hi⟩:=hk;unfold pyHash;first | unfold pyHashByItsType | skip
 first | refine wpAny_bind (wpAny_cRoomFor_or (.inr (by omega)) ?_) | skip
 refine wpAny_bind (wpAny_specialOf hT PySem.F.slot_tuple_hash.lookup ?_)
 show wpAny _ _ (if (some (Value.builtin "tuple.__hash__")==some Value.none)=true then _ else _) Q E s
 rw [if_neg (by rw [beq_builtin_none];exact Bool.false_ne_true)]
 refine wpAny_bind (wpAny_specialOf hT PySem.F.slot_tuple_hash.lookup ?_)
 show wpAny _ _ (callSpecialIfBoundUnlessNone? (.ref a) "__hash__" _ >>= _) Q E s
 refine wpAny_bind (wpAny_callSpecialIfBoundUnlessNone?_slot hT PySem.F.slot_tuple_hash (wpAny_call_entry PySem.F.slot_tuple_hash hT PySem.F.entry_tuple_hash ?_ (PySem.F.args_tuple_hash_1 _)))
 show wpAny _ _ (Builtin.Tuple.tupleItemsOf (.ref a) >>= _) _ _ s
 refine wpAny_bind (wpAny_tupleItemsOf ho hd ?_)
 refine wpAny_bind ?_
 rw [<-Array.forIn_toList];refine wpAny_forIn_list _
  (fun bf (b:Array Int) s'=>∃done left,ks=done++left/\Its2 (prog:=prog) (w:=w) s.heap left bf/\b.toList=done.map (hI w)/\s'={ s with toks:=s.toks+(done.map dI).sum })
  _ ?_ ?_ _ _ ⟨[],ks,rfl,hi,rfl,rfl⟩
 ·rintro x bf b s' ⟨done,left,rfl,hl,hb,rfl⟩
  cases hl with
  | @v k _ ks' _ h1 hl'=>
   refine wpAny_bind ((bp prog w).pyHash h1 ?_)
   first
    | exact wpAny_pure ⟨done++[.inl k],ks',by simp,hl',by simp [hb];rfl,by simp [Nat.add_assoc,dI]⟩
    | exact wpAny_bind (wpAny_pure (wpAny_pure ⟨done++[.inl k],ks',by simp,hl',by simp [hb];rfl,by simp [Nat.add_assoc,dI]⟩))
  | @t l q ks' _ h1 hl'=>
   refine wpAny_bind (wpAny_pyHash_tuple (knd:=bp prog w) (by simp;omega) h1 ?_)
   first
    | exact wpAny_pure ⟨done++[.inr l],ks',by simp,hl',by simp [hb];rfl,by simp [Nat.add_assoc,dI]⟩
    | exact wpAny_bind (wpAny_pure (wpAny_pure ⟨done++[.inr l],ks',by simp,hl',by simp [hb];rfl,by simp [Nat.add_assoc,dI]⟩))
 ·rintro b s' ⟨done,left,rfl,hl,hb,rfl⟩
  cases hl;rw [append_nil] at h;show wpAny _ _ (retInt (Builtin.Tuple.tupleHashOf b.toList)) _ _ _
  rw [hb];refine wpAny_ret_mkInt ?_
  show wpAny _ _ (if (decide (-(2:Int) ^ 63<=Builtin.Tuple.tupleHashOf (done.map (hI w)))&&decide (Builtin.Tuple.tupleHashOf (done.map (hI w))<2 ^ 63))=true then _ else _) Q E _
  unfold Kk reduceHash Ku at h;by_cases hr:(decide (-(2:Int) ^ 63<=Builtin.Tuple.tupleHashOf (done.map (hI w)))&&decide (Builtin.Tuple.tupleHashOf (done.map (hI w))<2 ^ 63))=true
  ·rw [if_pos hr]
   rw [if_pos hr] at h;exact wpAny_pure (by simpa [Nat.add_assoc] using h)
  ·rw [if_neg hr]
   rw [if_neg hr] at h;exact wpAny_bind (wpAny_rule (wpAny_pure (by simpa [Nat.add_assoc] using h)))
noncomputable def vj:It->Bool
 | .inl _=>false
 | .inr _=>true
theorem vI {x y:List It} {a b:Addr} {P:Fin->Shared->Prop} (hu:A.units<cLine) (hsh:x.map vj=y.map vj) (hx:Is2 prog w s.heap x a) (hy:Is2 prog w s.heap y b) (h:P (.done (.ret (.bool (decide (x=y))))) s) :
  wpAny (model prog w) A (Builtin.«tuple.__eq__» ⟨[.ref a,.ref b],[]⟩) P E s:=by
 have hTb:=hy.typeIs
 obtain ⟨oa,xs,na,hoa,_,hda,hia⟩:=hx;obtain ⟨ob,ys,nb,hob,_,hdb,hib⟩:=hy;show wpAny _ _ (isInstance (.ref b) (.type "tuple") >>= _) _ _ s
 refine wpAny_bind (wpAny_isInstance hTb isSubtype_tuple_tuple ?_)
 simp only [Bool.not_true,Bool.false_eq_true,if_false]
 refine wpAny_bind (wpAny_tupleItemsOf hoa hda ?_)
 refine wpAny_bind (wpAny_tupleItemsOf hob hdb ?_)
 refine wpAny_bind ?_
 refine wpAny_forIn_list _
  (fun bf r s'=>r.1=none/\s'=s/\∃x' y' xs' ys',bf=List.zip xs' ys'/\x'.map vj=y'.map vj/\Its2 (prog:=prog) (w:=w) s.heap x' xs'/\Its2 (prog:=prog) (w:=w) s.heap y' ys'/\decide (x'=y')=decide (x=y)/\(xs'.length==ys'.length)=(xs.size==ys.size))
  _ ?_ ?_ _ _ ⟨rfl,rfl,x,y,xs.toList,ys.toList,rfl,hsh,hia,hib,rfl,by simp⟩
 ·rintro ⟨u,v⟩ bf r s' ⟨hr,rfl,x',y',xs',ys',hz,hsh',hx',hy',hdec,hlen⟩
  cases hx' with
  | nil=>simp at hz
  | @v k1 u' x'' xs'' h1 hx''=>
   cases hy' with
   | nil=>simp at hz
   | t h2 hy''=>simp [vj] at hsh'
   | @v k2 v' y'' ys'' h2 hy''=>
    simp only [List.zip_cons_cons,List.cons.injEq,Prod.mk.injEq] at hz
    obtain ⟨⟨rfl,rfl⟩,rfl⟩:=hz;refine wpAny_bind ((bp prog w).eqBool (a:=k1) (b:=k2) h1 h2 ?_)
    by_cases hk:k1=k2
    ·subst hk
     rw [decide_eq_true rfl];simp only [Bool.not_true,Bool.false_eq_true,if_false]
     refine wpAny_pure ⟨rfl,rfl,x'',y'',xs'',ys'',rfl,by simpa using hsh',hx'',hy'',?_,by simpa using hlen⟩
     rw [<-hdec];by_cases hxy:x''=y''
     ·simp [hxy]
     ·simp [hxy]
    ·rw [decide_eq_false hk]
     simp only [Bool.not_false,if_true]
     have hf:decide (x=y)=false:=by rw [<-hdec];simp [hk]
     rw [hf] at h;exact wpAny_bind (wpAny_pure (wpAny_pure (wpAny_pure h)))
  | @t l1 b1 x'' xs'' h1 hx''=>
   cases hy' with
   | nil=>simp at hz
   | v h2 hy''=>simp [vj] at hsh'
   | @t l2 b2 y'' ys'' h2 hy''=>
    simp only [List.zip_cons_cons,List.cons.injEq,Prod.mk.injEq] at hz
    obtain ⟨⟨rfl,rfl⟩,rfl⟩:=hz;refine wpAny_bind (wpAny_eqBool_tuple (knd:=bp prog w) hu h1 h2 ?_)
    by_cases hk:l1=l2
    ·subst hk
     rw [decide_eq_true rfl];simp only [Bool.not_true,Bool.false_eq_true,if_false]
     refine wpAny_pure ⟨rfl,rfl,x'',y'',xs'',ys'',rfl,by simpa using hsh',hx'',hy'',?_,by simpa using hlen⟩
     rw [<-hdec];by_cases hxy:x''=y''
     ·simp [hxy]
     ·simp [hxy]
    ·rw [decide_eq_false hk]
     simp only [Bool.not_false,if_true]
     have hf:decide (x=y)=false:=by rw [<-hdec];simp [hk]
     rw [hf] at h;exact wpAny_bind (wpAny_pure (wpAny_pure (wpAny_pure h)))
 ·rintro ⟨r1,r2⟩ s' ⟨hr,rfl,x',y',xs',ys',hz,hsh',hx',hy',hdec,hlen⟩
  simp only at hr
  subst hr;refine wpAny_pure ?_
  have hfin:(xs.size==ys.size)=decide (x=y):=by
   rw [<-hdec,<-hlen]
   cases hx' with
   | nil=>
    cases hy' with
    | nil=>simp
    | v _ _=>simp at hsh'
    | t _ _=>simp at hsh'
   | v _ _=>
    cases hy' with
    | nil=>simp at hsh'
    | v _ _=>simp at hz
    | t _ _=>simp at hz
   | t _ _=>
    cases hy' with
    | nil=>simp at hsh'
    | v _ _=>simp at hz
    | t _ _=>simp at hz
  show P (.done (.ret (.bool (xs.size==ys.size)))) s'
  rw [hfin];exact h
theorem Kq {x y:List It} {a b:Addr} {Q:Bool->Shared->Prop} (hu:A.units+1<cLine) (hsh:x.map vj=y.map vj) (hx:Is2 prog w s.heap x a) (hy:Is2 prog w s.heap y b) (h:Q (decide (x=y)) s) :
  wpAny (model prog w) A (eqBool (.ref a) (.ref b)) Q E s:=by
 unfold eqBool;try with_reducible refine wpAny_holding ?_
 show wpAny _ _ (if (Value.ref a==Value.ref b)=true then _ else _) Q E s
 by_cases hab:(Value.ref a==Value.ref b)=true
 ·rw [if_pos hab]
  have e:a=b:=by have:=eq_of_beq hab;injection this
  subst e;obtain rfl:=hx.inj hy
  exact wpAny_bind (wpAny_rule (wpAny_pure (by simpa using h)))
 ·rw [if_neg hab]
  exact wpAny_bind (wpAny_richCompare_same_room (op:=.Eq) hx.typeIs hy.typeIs PySem.F.slot_tuple_eq
   (wpAny_call_entry PySem.F.slot_tuple_eq hx.typeIs PySem.F.entry_tuple_eq (vI (by simp;omega) hsh hx hy ⟨_,rfl,(fun e=>nomatch e),wpAny_truthy_bool h⟩) (PySem.F.args_tuple_eq_2 _ _)) (by omega))
theorem By {n:Nat} {ks:List cV} {a:Addr} {Q:Bool->Shared->Prop} (hk:IsTupleKey (bp prog w) s.heap ks a) (h:Q true s):wpAny (model prog w) A (eqIsQuiet (n+1) (.ref a)) Q E s:=by
 have hT:=hk.typeIs
 obtain ⟨o,items,m,ho,_,hd,hi⟩:=hk;unfold eqIsQuiet;refine wpAny_bind (wpAny_specialOf hT PySem.F.slot_tuple_eq.lookup ?_)
 show wpAny _ _ (isInstance (.ref a) (.type "tuple") >>= _) _ _ s
 refine wpAny_bind (wpAny_isInstance hT isSubtype_tuple_tuple ?_)
 simp only [Bool.not_true,Bool.false_eq_true,if_false]
 refine wpAny_bind (wpAny_seqItems ho hd ?_)
 refine wpAny_bind ?_
 show wpAny _ _ (forIn items _ _) _ _ s
 rw [<-Array.forIn_toList];refine wpAny_forIn_list _ (fun bf r s'=>r.1=none/\s'=s/\∀v∈bf,carriedByValue v=true) _ ?_ ?_ _ _ ⟨rfl,rfl,hi.byValue⟩
 ·rintro v bf r s' ⟨hr,rfl,hall⟩
  rw [eqIsQuiet_byValue _ (hall v mem_cons_self)];refine wpAny_bind (wpAny_pure ?_)
  simp only [Bool.not_true,Bool.false_eq_true,if_false]
  exact wpAny_pure ⟨rfl,rfl,fun u hu'=>hall u (mem_cons_of_mem _ hu')⟩
 ·rintro ⟨r1,r2⟩ s' ⟨hr,rfl,_⟩
  simp only at hr
  subst hr;exact wpAny_pure h
theorem Bx {n:Nat} {ks:List It} {a:Addr} {Q:Bool->Shared->Prop} (hk:Is2 prog w s.heap ks a) (h:Q true s):wpAny (model prog w) A (eqIsQuiet (n+2) (.ref a)) Q E s:=by
 have hT:=hk.typeIs
 obtain ⟨o,items,m,ho,_,hd,hi⟩:=hk;unfold eqIsQuiet;refine wpAny_bind (wpAny_specialOf hT PySem.F.slot_tuple_eq.lookup ?_)
 show wpAny _ _ (isInstance (.ref a) (.type "tuple") >>= _) _ _ s
 refine wpAny_bind (wpAny_isInstance hT isSubtype_tuple_tuple ?_)
 simp only [Bool.not_true,Bool.false_eq_true,if_false]
 refine wpAny_bind (wpAny_seqItems ho hd ?_)
 refine wpAny_bind ?_
 show wpAny _ _ (forIn items _ _) _ _ s
 rw [<-Array.forIn_toList];refine wpAny_forIn_list _ (fun bf r s'=>r.1=none/\s'=s/\∃ks,Its2 (prog:=prog) (w:=w) s.heap ks bf) _ ?_ ?_ _ _ ⟨rfl,rfl,ks,hi⟩
 ·rintro v bf r s' ⟨hr,rfl,ks,hall⟩
  cases hall with
  | @v k _ ks' _ h1 hl'=>
   rw [eqIsQuiet_byValue _ ((bp prog w).byValue _ _ h1)];refine wpAny_bind (wpAny_pure ?_)
   simp only [Bool.not_true,Bool.false_eq_true,if_false]
   exact wpAny_pure ⟨rfl,rfl,ks',hl'⟩
  | @t l q ks' _ h1 hl'=>
   refine wpAny_bind (By h1 ?_)
   simp only [Bool.not_true,Bool.false_eq_true,if_false]
   exact wpAny_pure ⟨rfl,rfl,ks',hl'⟩
 ·rintro ⟨r1,r2⟩ s' ⟨hr,rfl,_⟩
  simp only at hr
  subst hr;exact wpAny_pure h
end
noncomputable def kf (prog:Program) (w:World) (sh:List Bool):HeapKind prog w (List It) where
 is:=fun h ks a=>Is2 prog w h ks a/\ks.map vj=sh
 hash:=Kk w
 draws:=Ku
 room:=fun A=>A.units+1<cLine
 inj:=fun hx hy=>hx.1.inj hy.1
 keeps:=fun x ho hd hs=>⟨x.1.keeps ho hd hs,x.2⟩
 pyHash:=fun hu hk h=>F5 hu hk.1 h
 eqBool:=fun hu hx hy h=>Kq hu (hx.2.trans hy.2.symm) hx.1 hy.1 h
 quiet:=fun hk h=>Bx hk.1 h
noncomputable def Ls (K:Fg) (H:Hp):It->V->Prop
 | .inl k,v=>v=kV k
 | .inr l,v=>∃c,v=.ref c/\SqT K H c (l.map kV)
noncomputable def K2 (K:Fg) (H:Hp) (ks:List It) (b:Addr):Prop:=∃vs,SqT K H b vs/\Paired (Ls K H) ks vs
theorem K2.mono {K:Fg} {H H':Hp} {ks:List It} {b:Addr} (k:K2 K H ks b) (m:∀c xs,SqT K H c xs->SqT K H' c xs):K2 K H' ks b:=by
 obtain ⟨vs,h,p⟩:=k;refine ⟨vs,m _ _ h,?_⟩
 clear h;induction p with
 | nil=>exact .nil
 | @cons a v l l' q _ ih=>
  refine .cons ?_ ih
  cases a with
  | inl k=>exact q
  | inr l=>obtain ⟨c,e,h⟩:=q;exact ⟨c,e,m _ _ h⟩
theorem xc {X:Cx} {pins:List (Addr×Obj)} {σ:St} {H:Hp} {s:Shared} {l:List cV} {c:Addr} (I:L2.Inv X pins σ H s) (h:SqT X.K H c (l.map kV)):IsTupleKey (bp X.prog X.w) s.heap l c:=by
 obtain ⟨its,r,⟨o,h1,h2,n,h3⟩,_⟩:=I.tuple h;exact ⟨o,its.toArray,n,h1,h2,h3,by simpa using IW r⟩
theorem pX {X:Cx} {pins:List (Addr×Obj)} {σ:St} {H:Hp} {s:Shared} {ks:List It} {b:Addr} (I:L2.Inv X pins σ H s) (k:K2 X.K H ks b):Is2 X.prog X.w s.heap ks b:=by
 obtain ⟨vs,h,p⟩:=k;obtain ⟨its,r,⟨o,h1,h2,n,h3⟩,_⟩:=I.tuple h;refine ⟨o,its.toArray,n,h1,h2,h3,?_⟩
 show Its2 s.heap ks its.toArray.toList
 rw [List.toList_toArray];have key:∀{ks:List It} {vs:List V} {us:List Value},Paired (Ls X.K H) ks vs->Vals vs us->Its2 (prog:=X.prog) (w:=X.w) s.heap ks us:=by
  intro ks vs us p;induction p generalizing us with
  | nil=>intro r;cases r;exact .nil
  | @cons a v l l' q _ ih=>
   intro r
   cases r with
   | cons rv r=>
    cases a with
    | inl k=>
     cases (show v=kV k from q)
     exact .v (mO rv) (ih r)
    | inr m=>
     obtain ⟨c,e,hc⟩:=q;subst e;rename_i u _
     cases (show u=Value.ref c from rv)
     exact .t (xc I hc) (ih r)
 exact key p r
noncomputable def B9 (P:Program) (w:World) (sh:List Bool) (a:Addr) (xs:List (List It×Addr×Value)):HO:=.ext fun h=>∃o es ep,h.get? a=some o/\o.ExactDict/\o.data=.dict es ep/\es.toList=xs.map (entryOfKey (kf P w sh))
noncomputable abbrev KX (K:Fg) (H:Hp) (sh:List Bool):List (List It×V)->List (List It×Addr×Value)->Prop:=Paired fun p q=>p.1=q.1/\p.1.map vj=sh/\K2 K H p.1 q.2.1/\RelV p.2 q.2.2
noncomputable def D2 (P:Program) (w:World) (K:Fg) (H:Hp) (sh:List Bool) (a:Addr) (kvs:List (List It×V)):Prop:=
 ∃xs,H a=some (B9 P w sh a xs)/\KX K H sh kvs xs/\(xs.map (·.1)).Nodup/\xs.length<=1000/\(a==sysModules)=false
theorem KX.mono {K:Fg} {H H':Hp} {sh:List Bool} {kvs:List (List It×V)} {xs:List (List It×Addr×Value)} (k:KX K H sh kvs xs) (m:∀c xs,SqT K H c xs->SqT K H' c xs):KX K H' sh kvs xs:=by
 induction k with
 | nil=>exact .nil
 | cons q _ ih=>exact .cons ⟨q.1,q.2.1,q.2.2.1.mono m,q.2.2.2⟩ ih
theorem KX.val {K:Fg} {H:Hp} {sh:List Bool} {kvs:List (List It×V)} {xs:List (List It×Addr×Value)} (r:KX K H sh kvs xs) (k:List It):RelO (eI kvs k) ((atKey xs k).map (·.2)):=by
 induction r with
 | nil=>exact trivial
 | @cons p q l l' h _ ih=>
  by_cases e:p.1=k
  ·rw [Ec e]
   have:atKey (q::l') k=some q.2:=by simp [atKey,find?_cons,<-h.1,e]
   rw [this];exact h.2.2.2
  ·rw [Eh e]
   have:atKey (q::l') k=atKey l' k:=by
    have e':¬q.1=k:=fun z=>e (h.1.trans z)
    simp [atKey,find?_cons,e']
   rw [this];exact ih
theorem KX.len {K:Fg} {H:Hp} {sh:List Bool} {kvs:List (List It×V)} {xs:List (List It×Addr×Value)} (r:KX K H sh kvs xs):kvs.length=xs.length:=Paired.length r
theorem vU {X:Cx} {pins:List (Addr×Obj)} {σ:St} {H:Hp} {s:Shared} {sh:List Bool} {a:Addr} {kvs:List (List It×V)} {xs:List (List It×Addr×Value)} (I:L2.Inv X pins σ H s) (e:H a=some (B9 X.prog X.w sh a xs)) (r:KX X.K H sh kvs xs) (nd:(xs.map (·.1)).Nodup):s.heap.DictOfH (kf X.prog X.w sh) a xs:=by
 obtain ⟨⟨o,es,ep,h1,h2,h3,h4⟩,_⟩:=(show ObjOk X.prog X.w H s.heap a (B9 X.prog X.w sh a xs) from I.hok a _ e);refine ⟨o,es,ep,h1,h2,h3,h4,fun x hx=>?_,nd⟩
 have all:∀{l:List (List It×V)} {m:List (List It×Addr×Value)},KX X.K H sh l m->∀x∈m,(kf X.prog X.w sh).is s.heap x.1 x.2.1:=by
  intro l m q;induction q with
  | nil=>intro x hx;exact nomatch hx
  | @cons p q ps qs hq t ih=>
   intro x hx;rcases List.mem_cons.mp hx with e | hx
   ·subst e
    exact ⟨by rw [<-hq.1];exact pX I hq.2.2.1,by rw [<-hq.1];exact hq.2.1⟩
   ·exact ih x hx
 exact all r x hx
theorem EN {P:Program} {w:World} {sh:List Bool} {A:Around} (hu:A.units+2<cLine):(kf P w sh).room A.in1:=by
 show A.in1.units+1<cLine
 simp
 omega
noncomputable def tR (P:Program) (w:World) (K:Fg) (sh:List Bool):TE:=fun _ H Q=>∀p ob,H p=none->D2 P w K (bU H p ob) sh p []->Q (.ref p) (bU H p ob)
theorem u7 {P:Program} {w:World} {H:Hp} {h:Heap} {sh:List Bool} {a:Addr} {xs:List (List It×Addr×Value)} (x:∃o es ep,h.get? a=some o/\o.ExactDict/\o.data=.dict es ep/\es.toList=xs.map (entryOfKey (kf P w sh))):ObjOk P w H h a (B9 P w sh a xs):=by
 refine ⟨x,let ⟨o,_,_,ho,_⟩:=x;⟨o,ho⟩,fun h1 h2 ⟨o,es,ep,ho,r⟩ k=>⟨o,es,ep,k o ho,r⟩⟩
section
variable {X:Cx} {o i e value:Expr} {pos pos' tpos:Pos} {td ty tv:TE}
theorem uS (sh:List Bool):PE X (.Dict [] [] pos) (tR X.prog X.w X.K sh):=fun pins s σ H Q I h=>by
 have hp:=I.hok.fresh (Nat.le_refl s.heap.objs.size)
 refine wpAny_Dict_empty ⟨.ref s.heap.objs.size,_,I.laid (a:=s.heap.objs.size) (o:=B9 X.prog X.w sh s.heap.objs.size []) (t':=s.toks) (fun _ _ q=>Heap.get?_push_of_some _ q) (Nat.le_refl _) (u7 ⟨_,#[],0,Heap.get?_push_size _ rfl,⟨rfl,rfl,rfl⟩,rfl,rfl⟩),rfl,h _ _ hp ⟨[],gf,.nil,nodup_nil,by simp,beq_eq_false_iff_ne.mpr (Ne.symm (Nat.ne_of_lt I.big))⟩⟩
end
theorem FU {A B:Bool->Hp->Prop} {H:Hp} {σ:St} (h:A true H):pb σ H fun b H=>if b=true then A b H else B b H:=by
 show (if true=true then A true H else B true H)
 rw [if_pos rfl];exact h
end T
namespace KC
open PySem PySem.Spec L2 T PySem.SeqAt
open PyProof.Rows hiding St
noncomputable def DT (w:Wd) (r:Nat):Int:=if own w 0 r then 0 else 1
section
variable {w:Wd}
theorem BR (ok:w.Ok) {Γ:Ev} {i:Nat} {fb:F1} {s:Sh} {r:Nat} (h0:Γ[i]?=some (some ⟨.leaf,w.enc⟩)) (hb:fb Γ=.ok ⟨s,rm r⟩ Γ) (hr:r<w.n):av (av (af i) (eK (.int 0))) fb Γ=.ok ⟨.leaf,.int (DT w r)⟩ Γ:=by
 obtain ⟨o,ho,e,h⟩:=ok.o_at hr;have:DT w r=o:=by
  unfold DT;rw [h 0];rcases ho with rfl | rfl<;>rfl
 rw [this,iy,iy,aD h0];simp only [Out.bind,aX,Wd.enc,eQ,mn,uy]
 rw [hb];simp only [ux]
 rw [e]
theorem Cc (ok:w.Ok) {Γ:Ev} {i:Nat} {fb:F1} {s:Sh} {r:Nat} (h0:Γ[i]?=some (some ⟨.leaf,w.enc⟩)) (hb:fb Γ=.ok ⟨s,rm r⟩ Γ) (hr:r<w.n):av (av (af i) (eK (.int 1))) fb Γ=.ok ⟨.leaf,tD (w.mks r)⟩ Γ:=by
 rw [iy,iy,aD h0];simp only [Out.bind,aX,Wd.enc,eQ,mn,EY]
 rw [hb];simp only [ux]
 rw [ok.at1 hr]
end
section
variable {w:Wd} {o:Bool} {N:List Nat} {m:Nat}
theorem xl (ok:w.Ok) {Γ:Ev} {i:Nat} {fb:F1} {s:Sh} {r:Nat} (h0:Γ[i]?=some (some ⟨.leaf,w.enc⟩)) (hb:fb Γ=.ok ⟨s,rm r⟩ Γ) (hr:r<w.n):av (av (af i) (eK (.int 2))) fb Γ=.ok ⟨.leaf,iU (w.stp r)⟩ Γ:=by
 rw [iy,iy,aD h0];simp only [Out.bind,aX,Wd.enc,eQ,mn,EX]
 rw [hb];simp only [ux]
 rw [ok.at2 hr]
end
end KC
namespace T
open PySem PySem.Spec L2
open PyProof.Rows hiding St
section
variable {K:Fg} {W:XW} {He H:Hp} {O:List Addr} {Fs:List (List Addr)} {σ:St} {Γ:Ev} {D:eu}
theorem EnvOk.nm {j:Nat} {x:Option V} (E:EnvOk K He O Fs H σ Γ) (hj:∀p,Γ[j]?≠some (some p)):EnvOk K He O Fs H (σ.set j x) Γ:=
 ⟨by rw [length_set];exact E.len1,E.len2,E.same,E.nd,E.inH,E.fresh,fun m p hm=>by
  have hne:j≠m:=fun z=>hj p (by rw [z];exact hm)
  obtain ⟨a,v,F,b,c,d⟩:=E.slot m p hm;exact ⟨a,v,F,by rw [getElem?_set_ne hne];exact b,c,d⟩⟩
end
noncomputable def GJ (L:List Nat) (σ σ':St):Prop:=∀i∈L,σ'[i]?=σ[i]?
noncomputable def nD (L:List Nat) (D:eu) (σ:St):eu:={ D with nx:=fun σ' H'=>GJ L σ σ'->D.nx σ' H' }
noncomputable def tN (L:List Nat) (K:Fg) (W:XW) (g:FS):TS:=fun D σ H=>tS K W g (nD L D σ) σ H
section
variable {K:Fg} {W:XW} {σ:St} {H:Hp} {D:eu} {fa fb fk:F1} {g g1 g2:FS} {c:FB} {L:List Nat}
theorem y7 {i:Nat} {x:Option V} (h:i∉L):GJ L σ (σ.set i x):=fun j hj=>getElem?_set_ne (fun z:i=j=>h (by rw [z];exact hj))
theorem pe {D':eu} (h:tS K W g D σ H) (h1:∀σ' H',D.nx σ' H'->D'.nx σ' H') (h2:D'.rt=D.rt) (h3:D'.bk=D.bk) (h4:D'.ct=D.ct):tS K W g D' σ H:=by
 obtain ⟨He,O,Fs,Γ,E,h⟩:=h;refine ⟨He,O,Fs,Γ,E,?_⟩
 cases e:g Γ with
 | nx Γ'=>rw [e] at h;exact fun σ' H' Fs' E'=>h1 _ _ (h σ' H' Fs' E')
 | bk Γ'=>rw [e] at h;exact fun σ' H' Fs' E'=>by rw [h3];exact h σ' H' Fs' E'
 | ct Γ'=>rw [e] at h;exact fun σ' H' Fs' E'=>by rw [h4];exact h σ' H' Fs' E'
 | rt p=>rw [e] at h;exact fun v H' G r=>by rw [h2];exact h v H' G r
 | er c Γ'=>rw [e] at h;exact h
 | no=>rw [e] at h;exact h
theorem Ca {σ1:St} (h:GJ L σ σ1):nD L D σ1=nD L D σ:=by
 unfold nD;congr 1
 funext σ' H'
 have:GJ L σ1 σ'↔GJ L σ σ':=⟨fun z i hi=>(z i hi).trans (h i hi),fun z i hi=>(z i hi).trans (h i hi).symm⟩
 rw [propext this]
theorem xv (h:tN L K W (ak g1 g2) D σ H):gS (tN L K W g1) (tN L K W g2) D σ H:=by
 have h:=um h
 refine pe (D':=nD L { D with nx:=tN L K W g2 D } σ) h (fun σ1 H1 z a=>?_) rfl rfl rfl
 show tS K W g2 (nD L D σ1) σ1 H1
 rw [Ca a];exact z
theorem xu {own:Bool} {i:Nat} (hi:i∉L) (h:tN L K W (aE own i fa) D σ H):kE (tE K W fa) (L2.gName i) D σ H:=by
 have h:tE K W fa σ H fun v H1=>(nD L D σ).nx (σ.set i (some v)) H1:=Hj h
 have e:(fun v H1=>(nD L D σ).nx (σ.set i (some v)) H1)=fun v H1=>D.nx (σ.set i (some v)) H1:=funext fun v=>funext fun H1=>propext ⟨fun z=>z (y7 hi),fun z _=>z⟩
 rw [e] at h;exact h
end
noncomputable abbrev il (x:Str) (s:Stmt) (ps:List Str) (us:List Value):Prop:=∀(kV doc pm:Value) (an:Option Addr) (cdv ct:Value),bindArgs (PySem.W.fnOf x x (fu s) (bE s) (aI s) .none kV doc pm an cdv ct) ⟨us,[]⟩=pure (ps.zip us)
noncomputable abbrev cL (x:Str) (s:Stmt) (ps:List Str):Prop:=∀us:List Value,us.length=ps.length->il x s ps us
section
variable {x:Str} {s:Stmt} {p1 p2 p3 p4 p5 p6:Str}
theorem ky (h:∀a,il x s [p1] [a]:=by exact fun _ _ _ _ _ _ _=>rfl):cL x s [p1]:=fun us hl=>match us,hl with | [_],_=>h _
theorem j3 (h:∀a b,il x s [p1,p2] [a,b]:=by exact fun _ _ _ _ _ _ _ _=>rfl):cL x s [p1,p2]:=fun us hl=>match us,hl with | [_,_],_=>h _ _
theorem C8 (h:∀a b c,il x s [p1,p2,p3] [a,b,c]:=by exact fun _ _ _ _ _ _ _ _ _=>rfl):cL x s [p1,p2,p3]:=fun us hl=>match us,hl with | [_,_,_],_=>h _ _ _
theorem LJ (h:∀a b c d,il x s [p1,p2,p3,p4] [a,b,c,d]:=by exact fun _ _ _ _ _ _ _ _ _ _=>rfl):cL x s [p1,p2,p3,p4]:=fun us hl=>match us,hl with | [_,_,_,_],_=>h _ _ _ _
theorem Mo (h:∀a b c d e,il x s [p1,p2,p3,p4,p5] [a,b,c,d,e]:=by exact fun _ _ _ _ _ _ _ _ _ _ _=>rfl):cL x s [p1,p2,p3,p4,p5]:=fun us hl=>match us,hl with | [_,_,_,_,_],_=>h _ _ _ _ _
end
noncomputable def Ft (K:Fg) (mg:Str->Option Value) (n:Str) (s:Stmt):Prop:=∃f fd,mg n=some (.ref f)/\Fun K n n s f fd
theorem ft {K:Fg} {h:Heap} {mg:Str->Option Value} {n:Str} {s:Stmt} {f:Addr} {od an:Option Addr} {sl:Array (Option Value)} {oc kV dc pm cd ct:Value} (X:K.In h) (G:h.Ns mainGlobals mg) (a:PySem.W.nsIn K mainGlobals n=some (some (.ref f))) (l:K.lookup f=some ⟨oc,od,.func (PySem.W.fnOf n n (fu s) (bE s) (aI s) .none kV dc pm an cd ct),sl⟩) (c:PySem.W.codeIn K cd n=true) (k:PySem.W.keepIn K (.ref f)=true):Ft K mg n s:=⟨f,_,PySem.W.mg_of X G a,CO (st:=s) l c k⟩
theorem wQ {K:Fg} {x:Str} {st:Stmt} {f:Addr} {fd:FuncData} {ps:List Str} (F:Fun K x x st f fd) (b:cL x st ps):Binds K fd ps []:=F.binds fun kV doc pm an cdv ct us hl=>b us hl kV doc pm an cdv ct
noncomputable def jK (vs cs:List Nat):List Nat:=vs.filter fun i=>!cs.contains i
noncomputable def fB (N gl ps:List Str) (vs cs gs:List Nat) (s:Stmt):Bool:=kr N gl vs cs vs (jK vs cs) gs (aI s)&&wK N gl&&(!(aI s).isCoroutine&&!(aI s).isGenerator&&decide (N.take ps.length=ps)&&(ps.all fun x=>eX (aI s) [.local,.cell] (some x))&&((aI s).names.all fun y=>!decide (y.2=.free)))
theorem km {N gl ps:List Str} {vs cs gs:List Nat} {s:Stmt} (h:fB N gl ps vs cs gs s=true):kr N gl vs cs vs (jK vs cs) gs (aI s)=true/\wK N gl=true/\cK N ps (aI s):=by
 unfold fB at h;simp only [Bool.and_eq_true,decide_eq_true_eq,all_eq_true,Bool.not_eq_true',decide_eq_false_iff_not] at h
 obtain ⟨⟨h1,h2⟩,⟨⟨⟨h3,h4⟩,h5⟩,h6⟩,h7⟩:=h;refine ⟨h1,h2,(Dp h1).kind,h3,h4,(D8 h2).1,h5,fun x hx=>?_,h7⟩
 obtain ⟨k,hk,q⟩:=DG (h6 x hx);simp only [mem_cons,not_mem_nil,or_false] at hk
 rcases hk with rfl | rfl
 ·exact .inl q
 ·exact .inr q
structure In (p:Fg->(Str->Option Value)->Prop) (X:Cx) (P:Program) (w:World) (K:Fg) (mg:Str->Option Value) (base:Heap) (k:Nat):Prop where
 e1:X.prog=P
 e2:X.w=w
 e3:X.K=K
 e4:X.mg=mg
 e5:X.base=base
 rm:Room k X.A
 pp:p K mg
section
variable {p:Fg->(Str->Option Value)->Prop} {X Y:Cx} {P:Program} {w:World} {K:Fg} {mg:Str->Option Value} {base:Heap} {j k n:Nat} {x:Str} {s:Stmt} {ps:List Str} {g:FS} {den:List PySem.PyData->bA} {ss:List Sh}
theorem In.r (I:In p X P w K mg base k):Rm X:=I.rm.units
theorem In.e (I:In p X P w K mg base k):p X.K X.mg:=by rw [I.e3,I.e4];exact I.pp
theorem In.c (I:In p X P w K mg base k) (h:DefOk P w K mg base j x n den) (hj:decide (j<=k)=true:=by first | exact rfl | exact decide_eq_true (by omega)):G4 X x n den:=by
 obtain ⟨rfl,rfl,rfl,rfl,rfl,r,_⟩:=I;exact h.cal r hj
theorem Fx.i (F:Fx X Y) (I:In p X P w K mg base k):In p Y P w K mg base k:=⟨F.prog.trans I.e1,F.w.trans I.e2,F.K.trans I.e3,F.mg.trans I.e4,F.base.trans I.e5,by rw [F.A];exact I.rm,I.pp⟩
noncomputable abbrev Bd (p:Fg->(Str->Option Value)->Prop) (P:Program) (w:World) (K:Fg) (mg:Str->Option Value) (base:Heap) (k:Nat) (N gl:List Str) (vs cs gs:List Nat) (s:Stmt) (g:FS):Prop:=∀X:Cx,Cp X N gl vs cs vs (jK vs cs) gs->In p X P w K mg base k->PassesOwn (model X.prog X.w) X.A X.env X.xe->TQ.Q (PSs X (bE s) (tS X.K W0 g))
theorem Lq (F:Ft K mg x s) (b:cL x s ps):DefOk P w K mg base j x ps.length (fun _=>.no):=by
 obtain ⟨f,fd,hm,F⟩:=F;exact ⟨f,fd,ps,Gc,hm,F.kp,wQ F b⟩
theorem Mc {f:Addr} {fd:FuncData} (F:Fun K x x s f fd) (e:p K mg) (N gl:List Str) (vs cs gs:List Nat) (h:fB N gl ps vs cs gs s=true) (hb:Bd p P w K mg base k N gl vs cs gs s g):dk P w K mg base iY (k+1) f fd ps (lR K ps.length (aA N.length g)):=by
 obtain ⟨h1,h2,h3⟩:=km h;exact vE F h3 fun cdv A outer s H E hr=>(hb _ (Cp.fn h1 h2) ⟨rfl,rfl,rfl,rfl,rfl,hr,e⟩ PassesOwn.never).p
theorem mk (F:Ft K mg x s) (e:p K mg) (ps:List Str) (b:cL x s ps) (rs gl:List Str) (vs cs gs:List Nat) (hb:Bd p P w K mg base k (ps++rs) gl vs cs gs s g) (h:fB (ps++rs) gl ps vs cs gs s=true:=by kernel_rfl):DefOk P w K mg base (k+1) x ps.length (aA (ps++rs).length g):=by
 obtain ⟨f,fd,hm,F⟩:=F;exact ⟨f,fd,ps,Mc F e _ gl vs cs gs h hb,hm,F.kp,wQ F b⟩
section
variable {h:Heap} {a:Addr} {dd:Option Addr} {its:Array Value} {n:Nat} {sl:Array (Option Value)} {ds:List PySem.PyData} (KX:K.In h) (G:h.Ns mainGlobals mg)
include KX G
theorem gn (z:PySem.W.nsIn K mainGlobals x=some none):mg x=none:=PySem.W.mg_none_of KX G z
theorem gi {i:Int} {t:Tok} (z:PySem.W.nsIn K mainGlobals x=some (some (.int i t))):fC K mg x (.int i):=yQ (PySem.W.mg_of KX G z)
theorem gt (z:PySem.W.nsIn K mainGlobals x=some (some (.ref a))) (l:K.lookup a=some ⟨.type "tuple",dd,.seq its n,sl⟩) (c:si its ds=true):fC K mg x (.tuple ds):=yO (PySem.W.mg_of KX G z) l c
theorem g2 {y:Str} {b:Addr} {d2:Option Addr} {i2:Array Value} {n2:Nat} {sl2:Array (Option Value)} {t:Tok} (z:PySem.W.nsIn K mainGlobals x=some (some (.ref a))) (l:K.lookup a=some ⟨.type "tuple",dd,.seq its n,sl⟩) (hi:its.toList=[.str y t,.ref b]) (l2:K.lookup b=some ⟨.type "tuple",d2,.seq i2 n2,sl2⟩) (h:si i2 ds=true):fC K mg x (.tuple [.str y,.tuple ds]):=we (PySem.W.mg_of KX G z) l hi l2 h
theorem gd {es:Array DictEntry} {ep:Nat} {tab:List (Str×Int)} (z:PySem.W.nsIn K mainGlobals x=some (some (.ref a))) (l:K.lookup a=some ⟨.type "dict",none,.dict es ep,#[]⟩) (c:tH a es tab=true):qA K mg x tab:=yP (PySem.W.mg_of KX G z) l c
end
theorem walkG {m:List PySem.PyData->bA} {l:PySem.W.OpenLaw} {q:Program} {loose:List Str} {XP:(Str->Option Value)->Heap->Prop} {YP:World->Heap->Prop} {d:DefRec} {K:Params->Fg} (lt:∀ns:List Int,ns.length<=63->m [.list (ns.map .int)]=.ok ⟨.leaf,.bool true⟩) (hr:Room j callerA) (hn:l.most=some 63) (hdf:d.params.defaults=[])
  (hY:∀(w:World) (h:Heap),YP w h->(K w.params).In h)
  (F:∀(w:World) (mg:Str->Option Value) (fa:Addr) (h:Heap),(K w.params).In h->h.Ns mainGlobals mg->mg d.name=some (.ref fa) ->
   ∃fd:FuncData,(∀(s:Shared) (u:Value),BindsTo s fd ⟨[u],[]⟩ [("script",u)])/\∀base:Heap,(K w.params).In base->base.Ns mainGlobals mg->dk l.prog w (K w.params) mg base iY j fa fd ["script"] (lR (K w.params) 1 m)) :
  PySem.W.WalkO q loose XP YP l.row.toRowW d [] (fun f vs=>PySem.call f vs):=
 L2.walk_of (n:=63) (k:=j) (x := "script") (CX:=fun _=>iY) (sp:=fun w=>lR (K w.params) 1 m) hn (by decide) hdf hr hY F (fun _ _ a ns hl _ hS=>Cf (lt ns hl) hS) fun _ _ _ _ _ z=>z
end
end T
namespace TQ
open PySem PySem.Spec L2 T
open PyProof.Rows hiding St
section
variable {X:Cx} {N gl:List Str} {vs cs ls lo gs:List Nat} {W:XW} {a b c e:Expr} {es:List Expr} {pos p:Pos} {fa fb fc:F1} {fl:FL} {ga gb:FB} {g1 g2 g:FS}
theorem ax (S:Cp X N gl vs cs ls lo gs) (i:Nat) {x:Str} (hN:N[i]?=some x:=by exact rfl) (hv:vs.contains i=true:=by exact rfl):Q (PE X (.Name x pos) (tE X.K W (af i))):=w_cv S i hN hv
theorem aU (ha:Q (PE X e (tE X.K W fa))) (hr:Q (PA X es (tA X.K W fl))) (hs:dP e=false:=by exact rfl):Q (PA X (e::es) (tA X.K W (ae fa fl))):=j6 ha hr (fv hs)
theorem aJ (ha:Q (PE X e (tE X.K W fa))) (hs:dP e=false:=by exact rfl):Q (PA X [e] (tA X.K W (ae fa ah))):=j6 ha sG (fv hs)
theorem cg (ha:Q (PE X a (tE X.K W fa))) (hb:Q (PE X b (tE X.K W fb))) (hs:iW b:=by exact fun _ _=>rfl):Q (PE X (.Subscript a b pos) (tE X.K W (av fa fb))):=w_de_idx ha hb hs
theorem cn {x:Str} {n:Nat} {den:List PySem.PyData->bA} (S:Cp X N gl vs cs ls lo gs) (j:Nat) (C:G4 X x n den) (ha:Q (PA X (e::es) (tA X.K W fl))) (hj:gl[j]?=some x:=by exact rfl) (hg:gs.contains j=true:=by exact rfl) (he:dP e=false:=by exact rfl) (hpl:(backTo pos (starEach es X.env)).any (·.1)=false:=by exact rfl):Q (PE X (.Call (.Name x p) (e::es) [] pos) (tE X.K W (aj n den fl))):=JA S j hj hg C ha (fv he) hpl
theorem eD (S:Cp X N gl vs cs ls lo gs) (own:Bool) (i:Nat) {x:Str} {pos':Pos} (ha:Q (PE X a (tE X.K W fa))) (hi:N[i]?=some x:=by exact rfl) (hl:ls.contains i=true:=by exact rfl) (hs:swapsWith a (some (.Name x pos')) pos.line X.env=pure false:=by exact rfl):Q (PS X (.Assign [.Name x pos'] a pos) (tS X.K W (aE own i fa))):=sW S own i hi hl hs ha
theorem jy (S:Cp X N gl vs cs ls lo gs) (j:Nat) (hm:X.mg "len"=none) (ha:Q (PA X (e::es) (tA X.K W fl))) (hj:gl[j]?=some ("len":Str):=by exact rfl) (hg:gs.contains j=true:=by exact rfl) (he:dP e=false:=by exact rfl) (hpl:(backTo pos (starEach es X.env)).any (·.1)=false:=by exact rfl):Q (PE X (.Call (.Name "len" p) (e::es) [] pos) (tE X.K W (bW bt fl))):=tj S j hj hg hm ha (fv he) hpl
theorem cO {op:CmpOp} {r:R2} {g:PySem.PyData->PySem.PyData->Option PySem.PyData} (k:Ck X op r g) (ha:Q (PE X a (tE X.K W fa))) (hb:Q (PE X b (tE X.K W fb))) (hm:behindInMarks op b=false:=by with_unfolding_all rfl):Q (PT X (.Compare a [op] [b] pos) (tT X.K W (aO ao (ay g fa fb)))):=Jx k ha hb hm
theorem i9 {op:CmpOp} {r:R2} {g:PySem.PyData->PySem.PyData->Option PySem.PyData} (k:Ck X op r g) (ha:Q (PE X a (tE X.K W fa))) (hb:Q (PE X b (tE X.K W fb))) (hm:behindInMarks op b=false:=by with_unfolding_all rfl):Q (PE X (.Compare a [op] [b] pos) (tE X.K W (ay g fa fb))):=Jz k ha hb hm
theorem dm (ha:Q (PE X a (tE X.K W fa))):Q (PSs X [.Return (some a) pos] (tS X.K W (aS fa))):=w_ds_one (sU ha)
theorem sI {scope:Scope} {x:Str} {px:Pos} {iter elt:Expr} {ifs:List Expr} {fi:FI} {fe:F1} {fc:FB} (vs' cs' gs':List Nat) (S:Cp X N gl vs cs ls lo gs) (i:Nat) (hi':Q (PI X (.Name x px) iter (tI X.K W fi))) (hc:wO X N gl vs' cs' [i] [] gs' fun Y=>Q (PF Y ifs (tT Y.K W0 fc))) (he:wO X N gl vs' cs' [i] [] gs' fun Y=>Q (PE Y elt (tE Y.K W0 fe))) (hx:N[i]?=some x:=by exact rfl) (h1:gO N i cs scope=true:=by kernel_rfl) (h2:kr N gl vs' cs' [i] [] gs' scope=true:=by kernel_rfl) (hs:∀x,foldedSetIterable iter X.env x=pure x:=by exact fun _=>rfl):Q (PE X (.ListComp elt [⟨.Name x px,iter,ifs,0⟩] scope pos) (tE X.K W (aN .leaf i fi fc fe))):=Jy S .leaf i hx h1 h2 hi' hc he hs
end
end TQ
namespace T
open PySem PySem.Spec L2
open PyProof.Rows hiding St
noncomputable def wX (mg:Str->Option Value) (E:XK):XW:=fun c _ H'=>∀C,mg c=some (.ref C)->E (.ref C) none H'
noncomputable def HP (K:Fg) (mg:Str->Option Value) (n:Nat) (den:List PySem.PyData->bA):Sp:=fun vs H Q E=>vs.length=n/\∃O ds,O.Nodup/\(∀a∈O,H a≠none)/\Reps K (cN H O) vs ds/\match den ds with
 | .ok p=>∀v H' G,RetOk K H O p v H' G->Q v H'
 | .er c=>∀C H',mg c=some (.ref C)->Same H H'->E (.ref C) none H'
 | .no=>False
section
variable {P:Program} {w:World} {K:Fg} {mg:Str->Option Value} {base:Heap}
theorem qh {x qual:Str} {st:Stmt} {f:Addr} {fd:FuncData} {N ps:List Str} {k:Nat} {g:FS} (F:Fun K x qual st f fd) (S:cK N ps (aI st))
  (hb:∀(cdv:Value) (A:Around) (outer:List Env) (s:Shared) (H:Hp) (E:XK),Room k (A.deeper (envOfC qual (aI st) s.heap.objs.size f cdv)) ->
   PSs (fg (oZ P w) P w K mg base N qual (aI st) f cdv A outer s H E) (bE st) (tS K (wX mg E) g)):dk P w K mg base (oZ P w) (k+1) f fd ps (HP K mg ps.length (aA N.length g)):=by
 have hpl:ps.length<=N.length:=by have:=congrArg List.length S.pre;rw [length_take] at this;omega
 obtain ⟨oc,od,kV,doc,pm,an,cdv,ct,osl,rfl,lk,hcd⟩:=F.ex;refine Ac lk hcd S (fun vs H Q E h=>h.1) fun A outer s H vs Q E hr h=>⟨_,hb cdv A outer s H E hr,?_⟩
 obtain ⟨hl,O,ds,nd,inH,rs,w⟩:=h;refine ⟨H,O,List.replicate N.length [],aq N.length ds,IT (by omega) nd inH rs,?_⟩
 unfold aA at w
 cases e:g (aq N.length ds) with
 | nx Γ'=>
  rw [e] at w;exact fun σ' H' Fs' E'=>w .non H' [] ⟨E'.same,(fun _ z=>nomatch z),(fun _ z=>nomatch z),nodup_nil,.leaf .non,rfl⟩
 | rt p=>rw [e] at w;exact w
 | bk Γ'=>rw [e] at w;exact w.elim
 | ct Γ'=>rw [e] at w;exact w.elim
 | er c Γ'=>rw [e] at w;exact fun σ' H' Fs' E' C hC=>w C H' hC E'.same
 | no=>rw [e] at w;exact w.elim
end
noncomputable def DefOkX (P:Program) (w:World) (K:Fg) (mg:Str->Option Value) (base:Heap) (j:Nat) (x:Str) (n:Nat) (den:List PySem.PyData->bA):Prop:=
 ∃(f:Addr) (fd:FuncData) (ps:List Str),dk P w K mg base (oZ P w) j f fd ps (HP K mg n den)/\mg x=some (.ref f)/\PySem.W.keepIn K (.ref f)=true/\Binds K fd ps []
noncomputable def zf (X:Cx) (x:Str) (n:Nat) (den:List PySem.PyData->bA):Prop:=∃(k:Nat) (f:Addr) (fd:FuncData) (ps:List Str),dk X.prog X.w X.K X.mg X.base (oZ X.prog X.w) k f fd ps (HP X.K X.mg n den)/\Room k X.A/\X.mg x=some (.ref f)/\PySem.W.keepIn X.K (.ref f)=true/\Binds X.K fd ps []
theorem DefOkX.cal {X:Cx} {j k n:Nat} {x:Str} {den:List PySem.PyData->bA} (h:DefOkX X.prog X.w X.K X.mg X.base j x n den) (hr:Room k X.A) (hj:decide (j<=k)=true):zf X x n den:=by
 obtain ⟨f,fd,ps,F,a,b,c⟩:=h;exact ⟨j,f,fd,ps,F,hr.mono (of_decide_eq_true hj),a,b,c⟩
noncomputable def aK (n:Nat) (den:List PySem.PyData->bA) (fl:FL):F1:=fun Γ=>(fl Γ).bind fun ps Γ'=>if ps.length=n then (match den (ps.map (·.d)) with
 | .ok p=>if ps.all (T.coer .leaf) then .ok p Γ' else if bL p.d then .ok ⟨.leaf,p.d⟩ Γ' else .ok ⟨.view,p.d⟩ Γ'
 | .er c=>.er c Γ'
 | .no=>.no) else .no
section
variable {K:Fg} {W:XW} {σ:St} {H:Hp} {Q:VK} {fl:FL}
theorem uv {mg:Str->Option Value} {n:Nat} {den:List PySem.PyData->bA} {EE:St->XK} (hW:∀c σ H' C,W c σ H'->mg c=some (.ref C)->EE σ (.ref C) none H') (h:tE K W (aK n den fl) σ H Q):tU (HP K mg n den) EE (tA K W fl) σ H Q:=by
 obtain ⟨He,O,Fs,Γ,E0,h⟩:=h;refine ⟨He,O,Fs,Γ,E0,?_⟩
 unfold aK at h
 cases e:fl Γ with
 | er c Γ'=>rw [e] at h;exact h
 | no=>rw [e] at h;exact h
 | ok ps Γ1=>
  rw [e] at h;intro vs H1 Gs Fs1 A;have h:Wants K W He O Fs H σ Q (if ps.length=n then (match den (ps.map (·.d)) with | .ok p=>if ps.all (T.coer .leaf) then .ok p Γ1 else if bL p.d then .ok ⟨.leaf,p.d⟩ Γ1 else .ok ⟨.view,p.d⟩ Γ1 | .er c=>.er c Γ1 | .no=>.no) else .no):=h
  by_cases hn:ps.length=n
  case neg=>rw [if_neg hn] at h;exact h.elim
  rw [if_pos hn] at h;have hl:vs.length=n:=by rw [A.len1];exact hn
  cases ed:den (ps.map (·.d)) with
  | er c=>
   rw [ed] at h;have h:Wants K W He O Fs H σ Q (.er c Γ1):=h
   refine ⟨hl,[],ps.map (·.d),nodup_nil,(fun _ z=>nomatch z),by rw [Hr];exact A.reps,?_⟩
   rw [ed];exact fun C H' hC sm=>hW c σ H' C (h H' Fs1 (A.same.trans sm) (A.env.dropL.grow sm)) hC
  | no=>rw [ed] at h;exact h.elim
  | ok p=>
   rw [ed] at h;have h:Wants K W He O Fs H σ Q (if ps.all (T.coer .leaf) then .ok p Γ1 else if bL p.d then .ok ⟨.leaf,p.d⟩ Γ1 else .ok ⟨.view,p.d⟩ Γ1):=h
   obtain ⟨n1,n2,n3⟩:=List.nodup_append.mp A.env.nd;obtain ⟨m1,m2,m3⟩:=List.nodup_append.mp n1;have newF:∀a∈Fs1.flatten,a∈Fs.flatten\/H a=none:=fun a ha=>A.new a (mem_append_right _ ha)
   cases hc:ps.all (T.coer .leaf) with
   | true=>
    rw [hc] at h;have h:Wants K W He O Fs H σ Q (.ok p Γ1):=h
    refine ⟨hl,O++Fs1.flatten,ps.map (·.d),A.env.dropL.nd,A.env.dropL.inH,?_,?_⟩
    ·refine ⟨A.reps.1,fun i v d h1 h2=>?_⟩
     rw [getElem?_map] at h2
     cases e2:ps[i]? with
     | none=>rw [e2] at h2;cases h2
     | some q=>
      rw [e2] at h2
      cases h2;have hi:=(List.getElem?_eq_some_iff.mp e2).1
      have e3:Gs[i]?=some (Gs[i]'(by rw [A.len2];exact hi)):=getElem?_eq_getElem _
      have o:=A.own i v q _ h1 e2 e3
      have o2:=o.coer (s:=.leaf) (O':=O++Fs1.flatten) (List.all_eq_true.mp hc q (mem_of_getElem? e2)) jb fun a ha z=>by
       exfalso
       have hG:=nH e3 ha
       rcases List.mem_append.mp z with y | y
       ·exact m3 a hG a y rfl
       ·exact n3 a (mem_append_left _ hG) a y rfl
      cases o2 with
      | leaf r=>exact r
    ·rw [ed]
     intro v H2 G r;refine h v H2 G Fs1 ⟨A.same.trans r.same,A.env.dropL.hide r.same r.nd r.fresh r.inH,fun a ha=>?_,by rw [append_assoc];exact r.own⟩
     rcases List.mem_append.mp ha with z | z
     ·exact .inr (A.same.free (r.fresh a z))
     ·exact newF a z
   | false=>
    rw [hc] at h;have h:Wants K W He O Fs H σ Q (if bL p.d then .ok ⟨.leaf,p.d⟩ Γ1 else .ok ⟨.view,p.d⟩ Γ1):=h
    refine ⟨hl,[],ps.map (·.d),nodup_nil,(fun _ z=>nomatch z),by rw [Hr];exact A.reps,?_⟩
    rw [ed];intro v H2 G r
    cases hs:bL p.d with
    | true=>
     rw [hs] at h;exact Wants.scal h (r.own.rep.sc hs) (A.same.trans r.same) (A.env.dropL.grow r.same) (fun a ha=>ha) E0.ndO newF
    | false=>
     rw [hs] at h;have h:Wants K W He O Fs H σ Q (.ok ⟨.view,p.d⟩ Γ1):=h
     exact h v H2 [] Fs1 ⟨A.same.trans r.same,by simpa using A.env.dropL.grow r.same,by simpa using newF,.view r.own.rep⟩
end
noncomputable def DV (X:Cx) (W:XW):Prop:=∃EE:St->XK,iX (oZ X.prog X.w) X EE/\∀c σ H' C,W c σ H'->X.mg c=some (.ref C)->EE σ (.ref C) none H'
noncomputable def GX (X:Cx) (W:XW):Prop:=∃E:XK,Makes X E/\∀c σ H' C,W c σ H'->X.mg c=some (.ref C)->E (.ref C) none H'
theorem EC {P:Program} {w:World} {K:Fg} {mg:Str->Option Value} {base:Heap} {N:List Str} {qual:Str} {sc:Scope} {f:Addr} {cd:Value} {A:Around} {outer:List Env} {s:Shared} {H:Hp} {E:XK} :
  DV (fg (oZ P w) P w K mg base N qual sc f cd A outer s H E) (wX mg E):=
 ⟨fun _=>E,fun pins σ H s e s' I h=>Fp (fun _ _ _ z=>z) pins σ H s e s' I h,fun c σ H' C h hC=>h C hC⟩
theorem FH {P:Program} {w:World} {K:Fg} {mg:Str->Option Value} {base:Heap} {N:List Str} {qual:Str} {sc:Scope} {f:Addr} {cd:Value} {A:Around} {outer:List Env} {s:Shared} {H:Hp} {E:XK} :
  GX (fg (oZ P w) P w K mg base N qual sc f cd A outer s H E) (wX mg E):=
 ⟨E,Cd fun _ _ _ z=>z,fun c σ H' C h hC=>h C hC⟩
section
variable {X:Cx} {N gl:List Str} {vs cs ls lo gs:List Nat} {W:XW} {a b c e:Expr} {es:List Expr} {pos p:Pos} {fa fb fc:F1} {fl:FL}
theorem Kx {x:Str} {n:Nat} {den:List PySem.PyData->bA} (S:Cp X N gl vs cs ls lo gs) (j:Nat) (hj:gl[j]?=some x) (hg:gs.contains j=true) (C:zf X x n den) (th:DV X W) (ha:PA X (e::es) (tA X.K W fl)) (he:starEach (e::es) X.env=(false,eval e X.env)::starEach es X.env) (hpl:(backTo pos (starEach es X.env)).any (·.1)=false) :
  PE X (.Call (.Name x p) (e::es) [] pos) (tE X.K W (aK n den fl)):=by
 obtain ⟨k,f,fd,ps,F,hr,hm,hk,hb⟩:=C;obtain ⟨EE,hx,hW⟩:=th;exact bc (uV F hr (S.g hj hg).1 hm hk hb hx ha (S.g hj hg).2.1 he hpl) fun _ _ _=>uv hW
noncomputable def sx (mg:Str->Option Value) (base:Heap) (x:Str):Prop:=∃C,OwnCls x C [.type "ValueError",.type "Exception",.type "BaseException",.type "object"] "ValueError.__new__" mg base
noncomputable def dN (c:Str):FS:=fun Γ=>.er c Γ
theorem wc {x m:Str} {np cpos mp:Pos} {mk:Nat} (S:Cp X N gl vs cs ls lo gs) (j:Nat) (hj:gl[j]?=some x) (hg:gs.contains j=true) (R:sx X.mg X.base x) (mk':GX X W) :
  PS X (.Raise (some (.Call (.Name x np) [.Constant (.str m) mk mp] [] cpos)) none pos) (tS X.K W (dN x)):=by
 obtain ⟨C,O⟩:=R;obtain ⟨E,hM,hW⟩:=mk'
 have ha:PA X [.Constant (.str m) mk mp] (tA X.K W (ae (eK (.str m)) ah)):=da_cons de_str da_nil rfl
 refine dq (uI S.calm O F.excBase_ValueError (by decide) F.excBase_ValueError (S.g hj hg).1 hM ha rfl rfl (S.g hj hg).2.1) fun D σ H h=>?_
 obtain ⟨He,O',Fs,Γ,E0,h⟩:=h;refine ⟨He,O',Fs,Γ,E0,?_⟩
 show ∀vs H1 Gs Fs1,_->_
 intro vs H1 Gs Fs1 A;refine ⟨?_,hW x σ H1 C (h σ H1 Fs1 A.env.dropL) O.bound⟩
 rw [A.len1];exact (by decide:1<=sizeLine)
end
theorem Cp.fnX {P:Program} {w:World} {K:Fg} {mg:Str->Option Value} {base:Heap} {N gl:List Str} {vs cs ls lo gs:List Nat} {qual:Str} {sc:Scope} {f:Addr} {cd:Value} {A:Around} {outer:List Env} {s:Shared} {H:Hp} {E:XK}
  (h:kr N gl vs cs ls lo gs sc=true) (h':wK N gl=true):Cp (fg (oZ P w) P w K mg base N qual sc f cd A outer s H E) N gl vs cs ls lo gs:=by
 obtain ⟨a,b,c⟩:=D8 h'
 have q:=Dp h
 exact ⟨rfl,a,b,c,q.vis,q.cel,fun i x e hi=>⟨q.loc i x e hi,.inl rfl⟩,q.loo,q.glb,rfl,q.kind⟩
section
variable {p:Fg->(Str->Option Value)->Prop} {X Y:Cx} {P:Program} {w:World} {K:Fg} {mg:Str->Option Value} {base:Heap} {j k n:Nat} {y:Str} {s:Stmt} {ps:List Str} {g:FS} {den:List PySem.PyData->bA}
theorem In.x (I:In p X P w K mg base k) (h:DefOkX P w K mg base j y n den) (hj:decide (j<=k)=true:=by first | exact rfl | exact decide_eq_true (by omega)):zf X y n den:=by
 obtain ⟨rfl,rfl,rfl,rfl,rfl,r,_⟩:=I;exact h.cal r hj
theorem In.ra (I:In p X P w K mg base k) (h:sx mg base y):sx X.mg X.base y:=by rw [I.e4,I.e5];exact h
noncomputable abbrev Ms (p:Fg->(Str->Option Value)->Prop) (P:Program) (w:World) (K:Fg) (mg:Str->Option Value) (base:Heap) (k:Nat) (N gl:List Str) (vs cs gs:List Nat) (s:Stmt) (g:FS):Prop:=∀(X:Cx) (W:XW),Cp X N gl vs cs vs (jK vs cs) gs->In p X P w K mg base k->DV X W->GX X W->TQ.Q (PSs X (bE s) (tS X.K W g))
theorem mG (F:Ft K mg y s) (e:p K mg) (ps:List Str) (b:cL y s ps) (rs gl:List Str) (vs cs gs:List Nat) (hb:Ms p P w K mg base k (ps++rs) gl vs cs gs s g) (h:fB (ps++rs) gl ps vs cs gs s=true:=by kernel_rfl):DefOkX P w K mg base (k+1) y ps.length (aA (ps++rs).length g):=by
 obtain ⟨f,fd,hm,F⟩:=F;obtain ⟨h1,h2,h3⟩:=km h;exact ⟨f,fd,ps,qh F h3 fun cdv A outer s H E hr=>(hb _ _ (Cp.fnX h1 h2) ⟨rfl,rfl,rfl,rfl,rfl,hr,e⟩ EC FH).p,hm,F.kp,wQ F b⟩
theorem xF {h:Heap} {C:Addr} (KX:K.In base) (G:base.Ns mainGlobals mg) (e:PySem.W.nsIn K mainGlobals y=some (some (.ref C))) (q:PySem.W.excIn K C [.type "ValueError",.type "Exception",.type "BaseException",.type "object"] "ValueError.__new__"=true):sx mg base y:=by
 refine ⟨C,PySem.W.mg_of KX G e,?_⟩
 unfold PySem.W.excIn at q;split at q
 ·rename_i dd cd sl ho
  split at q
  ·rename_i C' bm k0 k1 k2 k3 n k5 hm hs
   simp only [Bool.and_eq_true,beq_iff_eq,Bool.not_eq_true'] at q
   obtain ⟨⟨⟨⟨⟨rfl,rfl⟩,hdel⟩,ht⟩,hok⟩,hni⟩:=q;obtain ⟨nm,bs,mro,ns,qn,hd,sn,sub,ab,col,del⟩:=cd;dsimp only at hm hdel hok hni
   subst hm hdel;have hsl:sl=#[k0,k1,k2,k3,some (.builtin "ValueError.__new__"),k5]:=by
    obtain ⟨l⟩:=sl;simp only at hs
    rw [hs]
   subst hsl;exact ⟨bm,ns,nm,qn,bs,hd,sn,sub,ab,col,dd,k0,k1,k2,k3,k5,_,KX _ _ ho,.of_isNs (PySem.W.isNs_of_in KX hok),PySem.W.nsMap_none_of_in KX hok hni,PySem.W.tail_of_in KX ht⟩
  ·cases q
 ·cases q
end
end T
namespace TQ
open PySem PySem.Spec L2 T
open PyProof.Rows hiding St
section
variable {X:Cx} {N gl:List Str} {vs cs ls lo gs:List Nat} {W:XW} {a b c e:Expr} {es:List Expr} {pos p:Pos} {fl:FL} {g:FS}
theorem fD {x:Str} {n:Nat} {den:List PySem.PyData->bA} (S:Cp X N gl vs cs ls lo gs) (th:DV X W) (j:Nat) (C:zf X x n den) (ha:Q (PA X (e::es) (tA X.K W fl))) (hj:gl[j]?=some x:=by exact rfl) (hg:gs.contains j=true:=by exact rfl) (he:dP e=false:=by exact rfl) (hpl:(backTo pos (starEach es X.env)).any (·.1)=false:=by exact rfl):Q (PE X (.Call (.Name x p) (e::es) [] pos) (tE X.K W (aK n den fl))):=⟨Kx S j hj hg C th ha.p (fv he) hpl⟩
theorem zl {x m:Str} {np cpos mp:Pos} {mk:Nat} (S:Cp X N gl vs cs ls lo gs) (mk':GX X W) (j:Nat) (R:sx X.mg X.base x) (hj:gl[j]?=some x:=by exact rfl) (hg:gs.contains j=true:=by exact rfl):Q (PS X (.Raise (some (.Call (.Name x np) [.Constant (.str m) mk mp] [] cpos)) none pos) (tS X.K W (dN x))):=⟨wc S j hj hg R mk'⟩
end
end TQ
namespace T
open PySem PySem.Spec L2 PySem.W
open PyProof.Rows hiding St
structure fZ (K:Fg) (C:Addr):Prop where
 cl:(PySem.W.clsIn K C).isSome=true
 ga:PySem.W.findIn K (.ref C) "__getattribute__"=some (some (.builtin "BaseException.__getattribute__"))
 gn:PySem.W.findIn K (.ref C) "__getattr__"=some none
 gc:PySem.W.findIn K (.ref C) "__class__"=some (some (.builtin "object.__class__"))
 ob:PySem.W.mroIn K C (.type "object")=some true
 be:PySem.W.mroIn K C (.type "BaseException")=some true
noncomputable def yA (K:Fg) (C:Addr):Bool:=(PySem.W.clsIn K C).isSome&&PySem.W.findIn K (.ref C) "__getattribute__"==some (some (.builtin "BaseException.__getattribute__"))&&PySem.W.findIn K (.ref C) "__getattr__"==some none &&
 PySem.W.findIn K (.ref C) "__class__"==some (some (.builtin "object.__class__"))&&PySem.W.mroIn K C (.type "object")==some true&&PySem.W.mroIn K C (.type "BaseException")==some true
theorem qj {K:Fg} {C:Addr} (h:yA K C=true):fZ K C:=by
 unfold yA at h;simp only [Bool.and_eq_true,beq_iff_eq] at h
 obtain ⟨⟨⟨⟨⟨a,b⟩,c⟩,d⟩,e⟩,f⟩:=h;exact ⟨a,b,c,d,e,f⟩
noncomputable def qz (x C:Addr) (h:Heap):Prop:=∃oe vs,h.get? x=some oe/\oe.cls=.ref C/\oe.data=.fields vs/\vs[2]?=some .none
section
variable {prog:Program} {w:World} {A:Around} {E:Value->Shared->Prop} {h:Heap} {g:Array GenState} {d:Drawn} {t:Nat} {os:OsState} {K:Fg} {x C:Addr} {o:Obj}
theorem vi {Q:Bool->Shared->Prop} (X:K.In h) (Z:fZ K C) (hx:h.get? x=some o) (hc:o.cls=.ref C) {T:Value} {b:Bool} (hm:PySem.W.mroIn K C T=some b) (hq:Q b ⟨h,g,d,t,os⟩):wpAny (model prog w) A (isInstance (.ref x) T) Q E ⟨h,g,d,t,os⟩:=by
 have LT:Looks (model prog w) h (typeOf (.ref x)) (.ref C):=hc▸(Looks.ld hx).andThen .now
 exact (show Looks (model prog w) h (isInstance (.ref x) T) b from LT.andThen (looks_mroIn X hm)).at hq
theorem oP {R:Result->Shared->Prop} (X:K.In h) (Z:fZ K C) (hx:h.get? x=some o) (hc:o.cls=.ref C) (hq:R (.ok (.ret (.ref C))) ⟨h,g,d,t,os⟩) :
  codeAny (model prog w) A (.call (.builtin "getset_descriptor.__get__") ⟨[.builtin "object.__class__",.ref x,.ref C],[]⟩) R ⟨h,g,d,t,os⟩:=by
 have hT5:(⟨h,g,d,t,os⟩:Shared).TypeIs (.builtin "object.__class__") "getset_descriptor":=F.typeOf_object_class
 have LS:Looks (model prog w) h (isSubtype (.ref C) (.type (".".intercalate ("object.__class__".cutAt '.').dropLast))) true:=by rw [F.owner_object_class];exact looks_mroIn X Z.ob
 refine codeAny_call_builtin F.slot_gs_get.plain F.entry_gs_get (F.slot_gs_get.check _ _ _ _ _ _ _ _ hT5 (F.args_gs_get _ _ _) ?_)
 repeat (any_goals (first | assumption | (with_reducible refine wpAny_loadPart_at hx ?_;rw [hc]) | with_reducible refine LS.at ?_ | wp_step))
 refine ⟨Code.quiet_builtin _ (by decide +kernel),codeAny_builtin F.entry_object_class ?_⟩
 repeat (any_goals (first | assumption | (with_reducible refine wpAny_loadPart_at hx ?_;rw [hc]) | wp_step))
theorem oQ {tk:Tok} {Q:Fin->Shared->Prop} (X:K.In h) (Z:fZ K C) (hx:h.get? x=some o) (hc:o.cls=.ref C) (hq:Q (.done (.ret (.ref C))) ⟨h,g,d,t,os⟩) :
  wpAny (model prog w) A (Builtin.«object.__getattribute__» ⟨[.ref x,.str "__class__" tk],[]⟩) Q E ⟨h,g,d,t,os⟩:=by
 have hT5:(⟨h,g,d,t,os⟩:Shared).TypeIs (.builtin "object.__class__") "getset_descriptor":=F.typeOf_object_class
 have L4:Looks (model prog w) h (typeLookup (.ref C) "__class__") (some (.builtin "object.__class__")):=looks_findIn X Z.gc
 have f5:=F.typeOf_object_class
 have f6:=F.slot_gs_get.lookup
 have f7:=F.slot_gs_set.lookup
 repeat (any_goals (first | assumption | (with_reducible refine wpAny_loadPart_at hx ?_;rw [hc]) | with_reducible refine L4.at ?_ | wp_step))
 refine oP X Z hx hc ?_
 repeat (any_goals (first | assumption | wp_step))
theorem oR {nameV:Value} {Q:Unit->Shared->Prop} (X:K.In h) (Z:fZ K C) (hx:h.get? x=some o) (hc:o.cls=.ref C) (hq:Q () ⟨h,g,d,t,os⟩):wpAny (model prog w) A (checkBuiltinCall "BaseException.__getattribute__" ⟨[.ref x,nameV],[]⟩) Q E ⟨h,g,d,t,os⟩:=by
 have hk:builtinKind "BaseException.__getattribute__"=some .slot:=by decide +kernel
 have hsplit:splitId "BaseException.__getattribute__"=some ("BaseException", "__getattribute__"):=by decide +kernel
 have ha:=F.args_bexc_ga (.ref x) nameV
 simp only [checkBuiltinCall,hk,hsplit]
 refine wpAny_bind (vi X Z hx hc Z.be ?_)
 repeat (any_goals (first | assumption | wp_step))
theorem nu {tk:Tok} {R:Result->Shared->Prop} (X:K.In h) (Z:fZ K C) (hx:h.get? x=some o) (hc:o.cls=.ref C) (hq:R (.ok (.ret (.ref C))) ⟨h,g,d,t,os⟩) :
  codeAny (model prog w) A (.call (.builtin "BaseException.__getattribute__") ⟨[.ref x,.str "__class__" tk],[]⟩) R ⟨h,g,d,t,os⟩:=
 codeAny_call_builtin F.excAttr_ValueError.ga.plain F.entry_bexc_ga (oR X Z hx hc (oQ X Z hx hc hq))
theorem sf {tk:Tok} {Q:Value->Shared->Prop} (X:K.In h) (Z:fZ K C) (hx:h.get? x=some o) (hc:o.cls=.ref C) (hq:Q (.ref C) ⟨h,g,d,t,os⟩):wpAny (model prog w) A (getAttrBy (.ref x) (.str "__class__" tk) false) Q E ⟨h,g,d,t,os⟩:=by
 have L2:Looks (model prog w) h (typeLookup (.ref C) "__getattribute__") (some (.builtin "BaseException.__getattribute__")):=looks_findIn X Z.ga
 have L3:Looks (model prog w) h (typeLookup (.ref C) "__getattr__") none:=looks_findIn X Z.gn
 have f3:=F.excAttr_ValueError.ga.bind (.ref x)
 have hx2:(Value.builtin "BaseException.__getattribute__"==Value.builtin "object.__getattribute__")=false:=by decide +kernel
 have hx1:(onTheHeap (Value.ref C)&&Value.builtin "BaseException.__getattribute__"==Value.builtin "object.__getattribute__")=false:=by rw [hx2];rfl
 repeat (any_goals (first | assumption | (with_reducible refine wpAny_loadPart_at hx ?_;rw [hc]) | with_reducible refine L2.at ?_ | with_reducible refine L3.at ?_ | wp_step))
 refine nu X Z hx hc ?_
 repeat (any_goals (first | assumption | wp_step))
theorem ny {Q:Option Value->Shared->Prop} (X:K.In h) (Z:fZ K C) (hx:h.get? x=some o) (hc:o.cls=.ref C) (hq:Q (some (.ref C)) ⟨h,g,d,t+1,os⟩):wpAny (model prog w) A (getAttr? (.ref x) "__class__") Q E ⟨h,g,d,t,os⟩:=by
 unfold getAttr? getAttrBy?
 repeat (any_goals (first | assumption | with_reducible apply sf X Z hx hc | wp_step))
theorem vd (Z:fZ K C):KitX K (.ref x) (.ref C) (qz x C) where
 ty:=fun M h _ p=>by obtain ⟨o,_,hx,hc,_⟩:=p;exact hc▸(Looks.ld hx).andThen .now
 it:=fun _ _ X _=>by
  have z0:=Z.cl
  unfold clsIn at z0;split at z0
  ·rename_i c' d' cd' sl' ho
   intro A' Q' E' s' k q
   unfold isType loadHead;exact wpAny_bind (wpAny_loadPart (k _ _ (X _ _ ho)) (wpAny_pure q))
  ·cases z0
 ne:=fun h tp dd its n sl X htp=>by
  have z0:=Z.cl
  refine Bool.eq_false_iff.mpr fun q=>?_
  have e:C=tp:=Value.ref.inj (beq_iff_eq.mp q)
  subst e;unfold clsIn at z0;split at z0
  ·rename_i c' d' cd' sl' ho
   have z:=(X _ _ ho).symm.trans htp
   cases z
  ·cases z0
 ca:=fun {_ _ _ _ _ s} X p k=>by
  obtain ⟨h,g,d,t,os⟩:=s;obtain ⟨o,_,hx,hc,_⟩:=p;exact ny X Z hx hc k
end
theorem rL {prog:Program} {w:World} {A:Around} {E:Value->Shared->Prop} {K:Fg} {x C D:Addr} {s:Shared} {o:Obj} {Q:Bool->Shared->Prop} {b:Bool} (X:K.In s.heap) (hx:s.heap.get? x=some o) (hc:o.cls=.ref C) (e1:PySem.W.typeIn K (.ref D)=some (.type "type")) (Z:fZ K D) (e3:PySem.W.subIn K (.ref C) (.ref D)=some b) (hq:Q b s) :
  wpAny (model prog w) A (excMatches (.ref x) (.ref D)) Q E s:=by
 obtain ⟨h,g,d,t,os⟩:=s;have LT:Looks (model prog w) h (typeOf (.ref x)) (.ref C):=hc▸(Looks.ld hx).andThen .now
 have LD:Looks (model prog w) h (typeOf (.ref D)) (.type "type"):=looks_typeIn X e1
 have LB:Looks (model prog w) h (isSubtype (.ref D) (.type "BaseException")) true:=looks_mroIn X Z.be
 have LS:Looks (model prog w) h (isSubtype (.ref C) (.ref D)) b:=looks_subIn X e3
 have LY:Looks (model prog w) h (isType (.ref D)) true:=by
  have z0:=Z.cl
  unfold clsIn at z0;split at z0
  ·rename_i c' d' cd' sl' ho
   intro A' Q' E' s' k q
   unfold isType loadHead;exact wpAny_bind (wpAny_loadPart (k _ _ (X _ _ ho)) (wpAny_pure q))
  ·cases z0
 have f:=tc_notTuple
 unfold excMatches;refine wpAny_bind (wpAny_bind (LD.at ?_))
 repeat (any_goals (first | with_reducible refine LY.at ?_ | with_reducible refine LB.at ?_ | with_reducible refine LT.at ?_ | with_reducible refine LS.at ?_ | wp_step))
 first
  | exact hq
  | (cases b<;>(wp_walk;exact hq))
end T
namespace T
open PySem PySem.Spec L2
open PyProof.Rows hiding St
section
variable {X:Cx} {pins:List (Addr×Obj)} {σ:St} {H H':Hp} {s s':Shared} {C a:Addr} {M:Model} {A:Around} {E:Value->Shared->Prop}
theorem yv {i:Nat} {x:Str} {pos:Pos} {Q:Unit->Shared->Prop} (I:Inv X pins σ H s) (hN:X.N.Nodup) (hi:X.N[i]?=some x) (hk:X.env.scope.names.lookup x=some .local)
  (h:∀s',Inv X pins (σ.set i none) H s'->Q () s'):wpAny M A (do bindName X.env x .none;unbindBehindTheSuite X.env x pos) Q E s:=by
 obtain ⟨m,hn,hl⟩:=id I.loc;have hcls:(X.env.scope.kind==.class||(X.env.scope.kind==.module&&X.env.locals != X.env.globals))=false:=by rw [I.ok.kind];rfl
 have hiσ:i<σ.length:=by rw [I.len];exact (List.getElem?_eq_some_iff.mp hi).1
 have cne:=I.cne
 refine wpAny_nameGoes_keeps hk hn hcls fun h' v hn' hs=>?_
 obtain ⟨oL,_,_,hoL,_⟩:=id hn;refine h _ ⟨I.ok,I.os,I.bare,⟨fun b o e n hb hx=>?_,fun b o e n hb hx=>?_,I.base.free,fun b o e hx=>?_,I.base.tups,I.base.frzs,I.base.tbls⟩,⟨_,hn',fun j y v' e1 e2 e3=>?_⟩,fun y c e=>?_,I.free,I.freeC,fun p hp=>?_,fun b ob e=>?_,by simpa using I.len⟩
 ·exact (hs.2 b (Nat.ne_of_lt (Nat.lt_of_lt_of_le (Heap.lt_size e) I.ok.above))).trans (I.base.keep b o e n hb hx)
 ·obtain ⟨sl,e1⟩:=I.base.slot b o e n hb hx
  exact ⟨sl,(hs.2 b (Nat.ne_of_lt (Nat.lt_of_lt_of_le (Heap.lt_size e) I.ok.above))).trans e1⟩
 ·obtain ⟨o',e1⟩:=I.base.there b o e hx
  exact ⟨o',(hs.2 b (Nat.ne_of_lt (Nat.lt_of_lt_of_le (Heap.lt_size e) I.ok.above))).trans e1⟩
 ·by_cases hj:j=i
  ·subst hj
   rw [getElem?_set_self hiσ] at e2
   cases e2
  ·rw [getElem?_set_ne (Ne.symm hj)] at e2
   obtain ⟨u',r',q⟩:=hl j y v' e1 e2 e3
   refine ⟨u',r',?_⟩
   rcases q with ⟨k,e⟩ | ⟨k,c,e,z⟩
   ·refine .inl ⟨k,?_⟩
    have:y≠x:=fun e=>hj (ID hN e1 (e▸hi))
    simp [this,e]
   ·exact .inr ⟨k,c,e,z.sameBut hs (cne y c e)⟩
 ·obtain ⟨w',z⟩:=I.cell y c e
  exact ⟨w',z.sameBut hs (cne y c e)⟩
 ·obtain ⟨e,n,ne,nf,d⟩:=I.pin p hp
  exact ⟨(hs.2 p.1 ne).trans e,n,ne,nf,d⟩
 ·refine (I.hok b ob e).stay (fun c w' hc q=>(hs.2 c ?_).trans q) (fun _ q=>q) fun _ _ q=>q
  rintro rfl
  rcases hc with rfl | hc
  ·rw [I.free] at e;cases e
  ·rw [I.free] at hc;cases hc
theorem rK {Q:Unit->Shared->Prop} (I:Inv X pins σ H s) (hst:X.stack=X.env::X.outer) (hf:X.env.frame=some X.env.locals) (hA:A.frames=some X.stack) (f:Dl X.prog X.w X.stack H s H' C a s')
  (hQ:∀h2 B a0,Heap.FlyingW B X.stack a (.ref C) a0 h2->C2 a h2->H' a=none->a∉fN X.stack->(∀h3,Heap.FlyingW B X.stack a (.ref C) a0 h3->h2.UpToSlots h3->Inv X pins σ H' { s' with heap:=h3 })->Q () { s' with heap:=h2 }) :
  wpAny M A (noteFrame (.ref a) X.env) (fun _ s2=>wpAny M A (setFlight (.ref a) none) Q E s2) E s':=by
 have os:=f.os
 have bare:=f.bare
 obtain ⟨os',bare',un,hok,cx0,B,a0,fl,c1,c2⟩:=id f;have hn:∀b:Addr,b∉([]:List Addr):=fun b z=>nomatch z
 have keepB:∀h3,B.StaysIn h3->∀b o u,B.get? b=some u->s'.heap.get? b=some o->h3.get? b=some o:=fun h3 st b o u e1 e2=>by
  have e3:=fl.1 b u e1
  rw [e2] at e3
  cases e3;exact st b o e1
 have go:∀h3,B.StaysIn h3->h3.FunFrames B X.stack->s'.heap.UpToSlots h3->Un (fN X.stack) [] H H' s.heap h3/\HOk X.prog X.w H' h3:=fun h3 st ff up=>by
  refine ⟨⟨fun b o q n hb _=>?_,fun b o q n hb _=>?_,un.free,fun b o q _=>?_,un.tups,un.frzs,un.tbls⟩,fun b o e=>?_⟩
  ·obtain ⟨u,e⟩:=c2 b o q hb
   exact keepB h3 st b o u e (un.keep b o q n hb (hn b))
  ·obtain ⟨sl2,q2⟩:=un.slot b o q n hb (hn b)
   obtain ⟨_,o',e,d⟩:=fl.2.2.1.mem hb;rw [q2] at e
   cases e;obtain ⟨sl3,q3⟩:=up b _ q2 d;exact ⟨sl3,q3⟩
  ·by_cases hb:b∈fN X.stack
   ·obtain ⟨_,o',e,_⟩:=ff.mem hb
    exact ⟨o',e⟩
   ·obtain ⟨u,e⟩:=c2 b o q hb
    exact ⟨u,st b u e⟩
  ·refine (hok b o e).stay (fun c u hc q=>?_) (fun _ q=>q) fun _ _ q=>q
   have hc':∃o',H' c=some o':=by
    rcases hc with z | z
    ·exact ⟨o,by rw [z];exact e⟩
    ·exact ⟨_,z⟩
   obtain ⟨o',z⟩:=hc'
   obtain ⟨v,e1⟩:=c1 c o' z
   exact keepB h3 st c u v e1 q
 have hHa:H' a=none:=by
  cases e:H' a with
  | none=>rfl
  | some o=>
   obtain ⟨u,e1⟩:=c1 a o e;rw [fl.2.1] at e1
   cases e1
 have haf:a∉fN X.stack:=fun z=>by
  obtain ⟨_,o',e,d⟩:=fl.2.2.1.mem z;obtain ⟨oe,vs,_,_,_,he,_,hd,_⟩:=fl.2.2.2;rw [he] at e
  cases e;exact d vs hd
 refine zq (by rw [hA,hst]) hf (by rw [<-hst];exact fl) cx0 fun h2 fl2 up2 cx2=>hQ h2 B a0 (by rw [hst];exact fl2) cx2 hHa haf fun h3 fl3 up3=>?_
 obtain ⟨un3,hok3⟩:=go h3 fl3.1 fl3.2.2.1 (up2.trans up3);exact I.call' (s':={ s' with heap:=h3 }) (ch:=[]) os un3 hok3 bare (fun b z=>absurd z (by simp))
end
noncomputable def cS (X:Cx) (pins:List (Addr×Obj)) (a:Addr) (oe:Obj):Cx:={ X with A:=X.A.mark (some (.ref a)),calm:=false,pn:=(X.pn++pins)++[(a,oe)],xe:=fun _ _=>False }
section
variable {X:Cx} {pins:List (Addr×Obj)} {σ:St} {H:Hp} {s:Shared} {a:Addr} {oe:Obj}
theorem yo (I:Inv X pins σ H s) (hx:s.heap.get? a=some oe) (hH:H a=none) (hl:a≠X.env.locals) (hf:a∉X.fs) (hd:∀v,oe.data≠.cell v):Inv (cS X pins a oe) [] σ H s:=
 ⟨⟨I.ok.mod,I.ok.kind,I.ok.glob,I.ok.blt,I.ok.above,I.ok.inj,I.ok.has,I.ok.cab,fun z=>(nomatch z),I.ok.frames,I.ok.stk,I.ok.exf,I.ok.bs,I.ok.bsz,I.ok.noex,I.ok.exfs,I.ok.funs,I.ok.frf⟩,I.os,I.bare,I.base,I.loc,I.cell,I.free,I.freeC,fun p hp=>by
  have hp:p∈((X.pn++pins)++[(a,oe)])++[]:=hp
  rw [append_nil] at hp;rcases List.mem_append.mp hp with z | z
  ·exact I.pin p z
  ·cases List.mem_singleton.mp z
   exact ⟨hx,hH,hl,hf,hd⟩,I.hok,I.len⟩
theorem yp (ok:X.Ok) (I:Inv (cS X pins a oe) [] σ H s):Inv X pins σ H s:=
 ⟨ok,I.os,I.bare,I.base,I.loc,I.cell,I.free,I.freeC,fun p hp=>I.pin p (mem_append_left _ (mem_append_left _ hp)),I.hok,I.len⟩
end
noncomputable def zT:Option (Option PV)->Bool
 | some none=>true
 | _=>false
theorem vk {Γ:Ev} {j:Nat} (h:zT Γ[j]?=true):∀p,Γ[j]?≠some (some p):=fun p z=>by rw [z] at h;cases h
noncomputable def xb (cl:List Str) (ie:Nat) (k:Str->FS) (c:Str):FS:=fun Γ=>if cl.contains c&&zT Γ[ie]? then (match k c Γ with
 | .nx Γ'=>if zT Γ'[ie]? then .nx Γ' else .no
 | _=>.no) else .no
noncomputable def jg (cl:List Str) (ie:Nat) (g:FS) (k:Str->FS):FS:=fun Γ=>match g Γ with
 | .er c Γ'=>xb cl ie k c Γ'
 | o=>o
noncomputable def wT (mg:Str->Option Value) (W:Addr->St->Hp->Prop):XW:=fun c σ H'=>∀C,mg c=some (.ref C)->W C σ H'
noncomputable def nK (i:Nat) (a:Addr) (σ:St):Prop:=σ[i]?=some (some (.ref a))
noncomputable def JF (φ:St->Prop) (t:TS):TS:=fun D σ H=>φ σ/\t D σ H
noncomputable def tG (φ:St->Prop) (t:TE):TE:=fun σ H Q=>φ σ/\t σ H Q
theorem EB {X:Cx} {pins:List (Addr×Obj)} {W:Addr->St->Hp->Prop}:DV (eY X pins W) (wT X.mg W):=
 ⟨fun σ=>fun u _ H'=>∃C,u=.ref C/\W C σ H',kU,fun c σ H' C h hC=>⟨C,rfl,h C hC⟩⟩
structure Ap (K:Fg) (D:Addr):Prop where
 ty:PySem.W.typeIn K (.ref D)=some (.type "type")
 ex:fZ K D
theorem BD {X:Cx} {N gl:List Str} {vs cs ls lo gs:List Nat} (S:Cp X N gl vs cs ls lo gs) {body:List Stmt} {g:FS} {k:Str->FS} {cl:List Str} {en hn:Str} {ie j:Nat} {np hpos pos:Pos} {suite:Stmt} {D:Addr}
  (hst:X.stack=X.env::X.outer) (hf:X.env.frame=some X.env.locals) (hie:N[ie]?=some en) (hel:lo.contains ie=true) (hj:gl[j]?=some hn) (hg:gs.contains j=true) (hD:X.mg hn=some (.ref D)) (hDc:Ap X.K D)
  (hc:∀c∈cl,∀C,X.mg c=some (.ref C)->PySem.W.subIn X.K (.ref C) (.ref D)=some true)
  (hb:∀(pins:List (Addr×Obj)) (W:Addr->St->Hp->Prop),PSs (eY X pins W) body (tS X.K (wT X.mg W) g))
  (hh:∀(pins:List (Addr×Obj)) (a C:Addr) (oe:Obj) (c:Str),c∈cl->X.mg c=some (.ref C)->oe.cls=.ref C->(∃vs,oe.data=.fields vs/\vs[2]?=some .none)->PSs (cS X pins a oe) [suite] (JF (nK ie a) (tS X.K W0 (k c)))) :
  PS X (.Try body [.ExceptHandler (some (.Name hn np)) (some en) [suite] hpos] [] [] pos) (tS X.K W0 (jg cl ie g k)):=by
 intro pins s σ H D0 I h;obtain ⟨He,O,Fs,Γ,E,h⟩:=h;refine wpAny_Try_except ?_
 let W:Addr->St->Hp->Prop:=fun C σ' H'=>∃c Γ' Fs',X.mg c=some (.ref C)/\EnvOk X.K He O Fs' H' σ' Γ'/\bZ X.K W0 He O D0 (xb cl ie k c Γ')
 have I':Inv X (pins++[]) σ H s:=by rw [append_nil];exact I
 have hw:bZ X.K (wT X.mg W) He O D0 (g Γ):=by
  unfold jg at h
  cases e:g Γ with
  | nx Γ'=>rw [e] at h;exact h
  | bk Γ'=>rw [e] at h;exact h
  | ct Γ'=>rw [e] at h;exact h
  | rt p=>rw [e] at h;exact h
  | no=>rw [e] at h;exact h
  | er c Γ'=>rw [e] at h;exact fun σ' H' Fs' E' C hC=>⟨c,Γ',Fs',hC,E',h⟩
 refine wpAny_mono (hb pins W [] s σ H D0 (vo I') ⟨He,O,Fs,Γ,E,hw⟩) (fun f s1 h1=>?_) fun e s1 h1=>?_
 ·have back:∀{σ' H'},Inv (eY X pins W) [] σ' H' s1->Inv X pins σ' H' s1:=fun {σ' H'} J=>by have:=mR J;rwa [append_nil] at this
  cases f with
  | next=>
   obtain ⟨σ',H',J,q⟩:=h1;exact bF (pJ pins s1 σ' H' D0 (back J) q) fun _ _ z=>z
  | brk=>obtain ⟨σ',H',J,q⟩:=h1;exact ⟨σ',H',back J,q⟩
  | cont=>obtain ⟨σ',H',J,q⟩:=h1;exact ⟨σ',H',back J,q⟩
  | ret u=>obtain ⟨v,σ',H',J,r,q⟩:=h1;exact ⟨v,σ',H',back J,r,q⟩
 ·obtain ⟨ps,σ1,H1,H',s0,a,C,rfl,J,fl,c,Γ',Fs',hC,E',hW⟩:=h1
  refine rK (T.Inv.less J) hst hf I.ok.frames fl fun h2 B a0 fl2 cx2 hHa haf go=>?_
  have I2:=go h2 fl2 (Heap.UpToSlots.refl h2)
  unfold xb at hW
  cases hcl:(cl.contains c&&zT Γ'[ie]?) with
  | false=>rw [hcl] at hW;exact hW.elim
  | true=>
   rw [hcl] at hW;simp only [Bool.and_eq_true] at hcl
   have hcm:c∈cl:=by simpa using hcl.1
   have hnm:=S.g hj hg
   obtain ⟨oe2,he2,hc2⟩:=fl2.there;refine wpAny_handleBy_cons (codeAny_handlers_test (Calls.Name_function_global I2.ok.kind hnm.1 (Calls.loadGlobal_global (by rw [I2.ok.glob];exact I2.mod.glob.keeps I2.bk) hD ?_) hnm.2.1)) (by intro q;cases q)
   refine rL I2.kIn he2 hc2 hDc.ty hDc.ex (hc c hcm C hC) ?_
   refine codeAny_handlers_suite_as ?_
   refine Cg fl2.1 fl2.2.1 fl2.2.2.1 fl2.2.2.2 cx2 fun h3 fl3 up3 cx3=>?_
   have I3:=go h3 fl3 up3
   obtain ⟨oe,vs,_,_,_,he,⟨hcls,_⟩,hd,_⟩:=fl3.2.2.2;have v2:vs[2]?=some .none:=by
    obtain ⟨o9,v9,q1,q2,q3⟩:=cx3;rw [he] at q1
    cases q1;rw [hd] at q2
    cases q2;exact q3
   have hal:a≠X.env.locals:=fun z=>haf (by rw [hst];exact List.mem_filterMap.mpr ⟨X.env,mem_cons_self,by rw [z];exact hf⟩)
   have hafs:a∉X.fs:=fun z=>haf (by rw [hst];obtain ⟨en,h1,h2⟩:=List.mem_filterMap.mp z;exact List.mem_filterMap.mpr ⟨en,mem_cons_of_mem _ h1,h2⟩)
   have I4:Inv (cS X pins a oe) [] σ1 H' { s1 with heap:=h3 }:=yo I3 he hHa hal hafs fun v z=>by rw [hd] at z;cases z
   have hlo:=S.loo ie en hie hel
   have hN:X.N.Nodup:=by rw [S.hN];exact S.nd
   have hiN:X.N[ie]?=some en:=by rw [S.hN];exact hie
   refine HC (X:=cS X pins a oe) (v:=.ref a) I4 hN hiN (.inl hlo) rfl (fun s5 I5=>?_) (.inr hlo)
   have hiσ:ie<σ1.length:=by rw [I3.len];exact (List.getElem?_eq_some_iff.mp hiN).1
   refine wpAny_mono (hh pins a C oe c hcm hC hcls ⟨vs,hd,v2⟩ [] s5 _ H' { nx:=fun σ' H'=>D0.nx (σ'.set ie none) H',rt:=fun _ _=>False } I5 ⟨by unfold nK;exact getElem?_set_self hiσ,He,O,Fs',Γ',E'.nm (vk hcl.2),?_⟩) (fun f s6 h6=>?_) fun _ _ z=>z.elim
   ·cases ek:k c Γ' with
    | nx Γ2=>
     rw [ek] at hW;intro σ2 H2 Fs2 E2;have hW:bZ X.K W0 He O D0 (if zT Γ2[ie]? then .nx Γ2 else .no):=hW
     cases hn2:zT Γ2[ie]? with
     | false=>rw [hn2] at hW;exact hW.elim
     | true=>rw [hn2] at hW;exact hW _ H2 Fs2 (E2.nm (vk hn2))
    | bk Γ2=>rw [ek] at hW;exact hW.elim
    | ct Γ2=>rw [ek] at hW;exact hW.elim
    | rt p=>rw [ek] at hW;exact hW.elim
    | er c2 Γ2=>rw [ek] at hW;exact hW.elim
    | no=>rw [ek] at hW;exact hW.elim
   ·cases f with
    | next=>
     obtain ⟨σ2,H2,J2,q⟩:=h6;exact yv (yp I2.ok J2) hN hiN hlo fun s7 I7=>⟨_,H2,I7,q⟩
    | brk=>obtain ⟨_,_,_,q⟩:=h6;exact q.elim
    | cont=>obtain ⟨_,_,_,q⟩:=h6;exact q.elim
    | ret u=>obtain ⟨_,_,_,_,_,q⟩:=h6;exact q.elim
section
variable {K:Fg} {W:XW} {σ:St} {H:Hp} {fa fb:F1} {c:FB}
theorem tM {Q:VK} {v:V} {d:PySem.PyData} (s:Sc v d) (h:tE K W (eK d) σ H Q):Q v H:=by
 obtain ⟨He,O,Fs,Γ,E,h⟩:=h;exact Wants.scal (W:=W) h s (Same.refl _) E (fun a ha=>ha) E.ndO fun a ha=>.inl ha
end
noncomputable def xh (φ:St->Prop) (t:TA):TA:=fun σ H Q=>φ σ/\t σ H Q
noncomputable def j4 (X:Cx) (a C:Addr):Prop:=∀pins σ H s,Inv X pins σ H s->qz a C s.heap
noncomputable def Ka (K:Fg) (a C:Addr) (cv:V) (cu:Value):List V->Hp->VK->Prop:=fun xs H Q=>∃b,xs=[.ref a,cv]/\PySem.W.kitOne K (.ref C) cu=some b/\Q (.bl b) H
section
variable {X:Cx} {N gl:List Str} {vs cs ls lo gs:List Nat} {W:XW} {φ:St->Prop} {a b c e:Expr} {es:List Expr} {pos p:Pos} {fa fb fc:F1} {fl:FL} {ga gb:FB} {g1 g2:FS}
theorem nA {x C:Addr} {cv:V} {cu:Value} (hx:j4 X x C) (Z:fZ X.K C) (hr:∀u,RelV cv u->u=cu):CallR X (.builtin "isinstance") (Ka X.K x C cv cu):=by
 intro pins s σ H xs us Q I rv h;obtain ⟨b,rfl,hk,q⟩:=h;match us,rv with
 | [u,t],.cons r1 (.cons r2 .nil)=>
  cases (show u=Value.ref x from r1)
  cases hr t r2
  exact PySem.W.kia_one (vd Z) I.kIn (hx _ _ _ _ I) hk nofun fun tk=>⟨.bl b,H,I.tok tk,rfl,q⟩
theorem gu (h:PE X a (tE X.K W fa)):PE X a (tG φ (tE X.K W fa)):=bc h fun _ _ _ h=>h.2
theorem F8 {i:Nat} {x C D:Addr} {ex d:Str} {p1 p2:Pos} {bb:Bool} (S:Cp { X with calm:=true } N gl vs cs ls lo gs) (hx:j4 X x C) (Z:fZ X.K C) (hk:PySem.W.kitOne X.K (.ref C) (.ref D)=some bb) (hD:X.mg d=some (.ref D)) (hmi:X.mg "isinstance"=none)
  (hN:N[i]?=some ex) (hv:vs.contains i=true) (j k:Nat) (hj:gl[j]?=some ("isinstance":Str)) (hg:gs.contains j=true) (hk2:gl[k]?=some d) (hg2:gs.contains k=true) :
  PE X (.Call (.Name "isinstance" p) [.Name ex p1,.Name d p2] [] pos) (tG (nK i x) (tE X.K W (eK (.bool bb)))):=by
 have m:=S.nm ex (mem_of_getElem? hN)
 have hvar:PE X (.Name ex p1) (b6 i):=wB (by show X.N[i]?=_;rw [show X.N=N from S.hN];exact hN) (S.vis i ex hN hv) m.1 m.2
 refine bc (Dx (nA (cv:=.ref D) (cu:=.ref D) hx Z fun u hu=>hu) (S.g hj hg).1 hmi Jo (nF hvar (nF (pM (v:=.ref D) (S.g hk2 hg2).1 hD rfl (S.g hk2 hg2).2.1) wU rfl) rfl) (S.g hj hg).2.2 (S.g hj hg).2.1 rfl rfl) fun σ H Q h=>?_
 exact ⟨.ref x,h.1,bb,rfl,hk,tM (.bl bb) h.2⟩
theorem CK {i:Nat} {x C:Addr} {ex d:Str} {T:String} {p1 p2:Pos} {bb:Bool} (S:Cp { X with calm:=true } N gl vs cs ls lo gs) (hx:j4 X x C) (Z:fZ X.K C) (hk:PySem.W.kitOne X.K (.ref C) (.type T)=some bb) (hD:X.mg d=none) (hb:bootBuiltins d=some (.type T)) (hmi:X.mg "isinstance"=none)
  (hN:N[i]?=some ex) (hv:vs.contains i=true) (j k:Nat) (hj:gl[j]?=some ("isinstance":Str)) (hg:gs.contains j=true) (hk2:gl[k]?=some d) (hg2:gs.contains k=true) :
  PE X (.Call (.Name "isinstance" p) [.Name ex p1,.Name d p2] [] pos) (tG (nK i x) (tE X.K W (eK (.bool bb)))):=by
 have m:=S.nm ex (mem_of_getElem? hN)
 have hvar:PE X (.Name ex p1) (b6 i):=wB (by show X.N[i]?=_;rw [show X.N=N from S.hN];exact hN) (S.vis i ex hN hv) m.1 m.2
 refine bc (Dx (nA (cv:=.ty T) (cu:=.type T) hx Z fun u hu=>hu) (S.g hj hg).1 hmi Jo (nF hvar (nF (pP (v:=.ty T) (S.g hk2 hg2).1 hD hb rfl (S.g hk2 hg2).2.2 (S.g hk2 hg2).2.1) wU rfl) rfl) (S.g hj hg).2.2 (S.g hj hg).2.1 rfl rfl) fun σ H Q h=>?_
 exact ⟨.ref x,h.1,bb,rfl,hk,tM (.bl bb) h.2⟩
theorem zY:PA X [] (xh φ (tA X.K W ah)):=qy da_nil fun _ _ _ h=>h.2
theorem Ip (ha:PE X e (tG φ (tE X.K W fa))) (hr:PA X es (xh φ (tA X.K W fl))) (hs:starEach (e::es) X.env=(false,eval e X.env)::starEach es X.env:=by exact fv rfl):PA X (e::es) (xh φ (tA X.K W (ae fa fl))):=
 qy (nF ha hr hs) fun σ H Q h=>⟨h.1,pj (pE h.2) fun v H1 q=>⟨h.1,q⟩⟩
theorem CJ (s:Sh) (h:PA X es (xh φ (tA X.K W fl))):PE X (.List es pos) (tG φ (tE X.K W (aG s fl))):=bc (uP h) fun σ H Q h=>⟨h.1,pD h.2⟩
theorem F9 (ha:PE X a (tG φ (tE X.K W fa))) (hb:PE X b (tG φ (tE X.K W fb))):PE X (.BinOp a .Add b pos) (tG φ (tE X.K W (gL fa fb))):=
 bc (fH pR ha hb) fun σ H Q h=>⟨h.1,pj (uu h.2) fun v H1 q=>⟨h.1,q⟩⟩
theorem F7 (S:Cp { X with calm:=true } N gl vs cs ls lo gs) (i:Nat) {x:Str} (hN:N[i]?=some x) (hv:vs.contains i=true):PE X (.Name x pos) (tE X.K W (af i)):=by
 have m:=S.nm x (mem_of_getElem? hN)
 exact vZ (wB (by show X.N[i]?=_;rw [show X.N=N from S.hN];exact hN) (S.vis i x hN hv) m.1 m.2)
noncomputable def tZ (i:Nat) (x:Addr) (K:Fg) (W:XW) (g:FS):TS:=fun D σ H=>nK i x σ/\tN [i] K W g D σ H
theorem DZ {i:Nat} {x:Addr} {st:Stmt} {g:FS} (h:PS X st (tZ i x X.K W g)):PSs X [st] (tZ i x X.K W g):=Aw h
theorem Aq {i:Nat} {x:Addr} {st:Stmt} {bf:List Stmt} (h1:PS X st (tZ i x X.K W g1)) (h2:PSs X bf (tZ i x X.K W g2)):PSs X (st::bf) (tZ i x X.K W (ak g1 g2)):=
 G5 (sM h1 h2) fun D σ H h=>by
  refine ⟨h.1,?_⟩
  have q:=xv h.2
  refine pe (D':=nD [i] { D with nx:=tZ i x X.K W g2 D } σ) q (fun σ1 H1 z a=>⟨?_,z a⟩) rfl rfl rfl
  unfold nK;rw [a i (List.mem_singleton.mpr rfl)];exact h.1
theorem DX {i k:Nat} {x:Addr} {y:Str} {pos':Pos} (S:Cp { X with calm:=true } N gl vs cs ls lo gs) (hki:(k==i)=false) (hk:N[k]?=some y) (hl:ls.contains k=true) (ha:PE X a (tG (nK i x) (tE X.K W fa))) (hs:swapsWith a (some (.Name y pos')) pos.line X.env=pure false:=by rfl):PS X (.Assign [.Name y pos'] a pos) (tZ i x X.K W (aE false k fa)):=
 dq (D1 (by show X.N.Nodup;rw [show X.N=N from S.hN];exact S.nd) (by show X.N[k]?=_;rw [show X.N=N from S.hN];exact hk) (S.loc k y hk hl).1 ha hs (S.loc k y hk hl).2) fun D σ H h=>⟨h.1,xu (by simpa using hki) h.2⟩
theorem DY {i:Nat} {x:Addr} (ha:PE X a (tG (nK i x) (tE X.K W fa))):PS X (.Return (some a) pos) (tZ i x X.K W (aS fa)):=dq (Hi ha) fun D σ H h=>⟨h.1,uo (D:=nD [i] D σ) h.2⟩
end
noncomputable def Lr:List Bool->Option Nat
 | []=>none
 | n::r=>if n then some 0 else (Lr r).map (·+1)
noncomputable def Kt (i:Nat):F1:=fun Γ=>match Γ[i]? with
 | some (some ⟨.leaf,.list ds⟩)=>(match cJ ds with
  | some ns=>.ok ⟨.leaf,.int (ns.count true:Nat)⟩ Γ
  | none=>.no)
 | _=>.no
noncomputable def Ks (i:Nat):F1:=fun Γ=>match Γ[i]? with
 | some (some ⟨.leaf,.list ds⟩)=>(match cJ ds with
  | some ns=>(match Lr ns with
   | some j=>.ok ⟨.leaf,.int (j:Nat)⟩ Γ
   | none=>.no)
  | none=>.no)
 | _=>.no
structure RoomH (k:Nat) (A:Around):Prop where
 dp:A.depth+3*k+5<recursionLimit
 un:A.units+16*k+200<cLine
 gd:A.guards=some []
theorem Room.mark {k:Nat} {A:Around} (r:Room k A) (v:Option Value):RoomH k (A.mark v):=⟨r.dp,r.un,r.gd⟩
theorem RoomH.mono {j k:Nat} {A:Around} (r:RoomH k A) (h:j<=k):RoomH j A:=⟨by have:=r.dp;omega,by have:=r.un;omega,r.gd⟩
theorem RoomH.deeper {k:Nat} {A:Around} (r:RoomH (k+1) A) (env:Env):RoomH k (A.deeper env):=
 ⟨by have:=r.dp;show A.depth+1+3*k+5<_;omega,by have:=r.un;show A.units+3+16*k+200<_;omega,r.gd⟩
noncomputable def C7 (P:Program) (w:World) (K:Fg) (mg:Str->Option Value) (base:Heap) (N:List Str) (qual:Str) (scope:Scope) (f:Addr) (cd:Value) (A:Around) (outer:List Env) (s:Shared) (H:Hp):Cx:=
 { fg iY P w K mg base N qual scope f cd A outer s H E0 with calm:=false,xe:=fun _ _=>False }
theorem vD {P:Program} {w:World} {K:Fg} {mg:Str->Option Value} {base:Heap} {k:Nat} {f:Addr} {name qual:Str} {params:Arguments} {body:List Stmt} {scope:Scope} {dV kV doc pm cdv ct oc:Value} {an od:Option Addr}
  {osl:Array (Option Value)} {N ps:List Str} (lk:K.lookup f=some ⟨oc,od,.func (PySem.W.fnOf name qual params body scope dV kV doc pm an cdv ct),osl⟩) (hcd:PySem.W.codeIn K cdv qual=true) (S:cK N ps scope)
  {A:Around} {outer:List Env} {s:Shared} {H:Hp} {args:Args} {us:List Value} {vs:List V} {Q:VK} {t:TS} (hr:RoomH (k+1) A) (e0:oY P w K mg base A outer s H) (hb:BindsTo s (PySem.W.fnOf name qual params body scope dV kV doc pm an cdv ct) args (ps.zip us)) (r:Vals vs us) (hl:vs.length=ps.length)
  (ht:PSs (C7 P w K mg base N qual scope f cdv A outer s H) body t) (hq:t { nx:=fun _ H'=>Q .non H',rt:=Q } (start N vs) H):codeAny (model P w) A (.call (.ref f) args) (CR iY outer P w H s Q E0) s:=by
 have KX:K.In s.heap:=e0.mod.kin.keeps fun b o e=>(e0.bs b o e).1
 have lim:s.heap.NoLimit:=e0.mod.nolimit.keeps fun b o e=>(e0.bs b o e).1
 have hkind:∀y∈ps.zip us,scope.names.lookup y.1=some .local\/(scope.names.lookup y.1=some .cell/\((cellsFrom (s.heap.objs.size+1) scope.names []).lookup y.1).isSome=true):=fun ⟨n,v⟩ hy=>by
  rcases S.par n (of_mem_zip hy).1 with q | q
  ·exact .inl q
  ·exact .inr ⟨q,PySem.W.cellsFrom_some _ _ _ (.inl q)⟩
 refine codeAny_call_function (by have:=hr.dp;omega) (KX _ _ lk) rfl S.co S.gen rfl (PySem.W.codeRec_of KX hcd) (hb _ _ _ _ ?_)
 refine wpAny_newFunctionEnv_cells S.kind hkind fun env he s1 x=>?_
 subst he;refine ⟨lim.keeps x.toInCall.keep,codeAny_func ?_⟩
 have J:Inv (fg iY P w K mg base N qual scope f cdv { A with handled:=none } outer s H E0) [] (start N vs) H s1:=kj S rfl ⟨e0.frames,e0.mod,e0.bs,e0.bsz,e0.funs,e0.frf,e0.hok,e0.bare⟩ hl r x
 have I:Inv (C7 P w K mg base N qual scope f cdv A outer s H) [] (start N vs) H s1:=
  ⟨⟨J.ok.mod,J.ok.kind,J.ok.glob,J.ok.blt,J.ok.above,J.ok.inj,J.ok.has,J.ok.cab,fun z=>(nomatch z),Around.frames_deeper e0.frames,J.ok.stk,J.ok.exf,J.ok.bs,J.ok.bsz,J.ok.noex,J.ok.exfs,J.ok.funs,J.ok.frf⟩,J.os,J.bare,J.base,J.loc,J.cell,J.free,J.freeC,J.pin,J.hok,J.len⟩
 refine wpAny_mono (ht [] s1 (start N vs) H _ I hq) (fun fl s' hs=>?_) fun e s' hs=>hs.elim
 have fin:∀{σ':St} {H':Hp} {v:V} {u:Value},Inv (C7 P w K mg base N qual scope f cdv A outer s H) [] σ' H' s'->RelV v u->Q v H'->CE outer P w H s Q u s':=
  fun {σ' H' v u} J rv q=>⟨v,H',J.os,J.bare,J.base,J.hok,rv,q⟩
 cases fl with
 | ret u=>
  obtain ⟨v,σ',H',J,rv,q⟩:=hs;exact fin J rv q
 | next=>
  obtain ⟨σ',H',J,q⟩:=hs;exact fin (v:=V.non) (u:=Value.none) J rfl q
 | brk=>
  obtain ⟨_,_,_,q⟩:=hs;exact False.elim q
 | cont=>
  obtain ⟨_,_,_,q⟩:=hs;exact False.elim q
noncomputable def yJ (n:Nat) (g:FS):bA:=match g (List.replicate n none) with
 | .nx _=>.ok ⟨.leaf,.none⟩
 | .rt p=>.ok p
 | _=>.no
noncomputable def KE (P:Program) (w:World) (K:Fg) (mg:Str->Option Value) (base:Heap) (k:Nat) (f:Addr) (fd:FuncData) (q:Str) (cl:List Str) (m:Str->bA):Prop:=
 ∀(A:Around) (outer:List Env) (s:Shared) (H:Hp) (a C:Addr) (c:Str) (O:List Addr) (Q:VK) (args:Args),RoomH k A->oY P w K mg base A outer s H->qz a C s.heap->H a=none->a∉fN outer->c∈cl->mg c=some (.ref C)->O.Nodup->(∀b∈O,H b≠none) ->
  (match m c with | .ok p=>∀v H' G,RetOk K H O p v H' G->Q v H' | _=>False)->BindsTo s fd args ([q].zip [.ref a])->codeAny (model P w) A (.call (.ref f) args) (CR iY outer P w H s Q E0) s
noncomputable def jx (P:Program) (w:World) (K:Fg) (mg:Str->Option Value) (base:Heap) (k:Nat) (x:Str) (cl:List Str) (m:Str->bA):Prop:=
 ∃(f:Addr) (fd:FuncData) (q:Str),mg x=some (.ref f)/\PySem.W.keepIn K (.ref f)=true/\Binds K fd [q] []/\KE P w K mg base k f fd q cl m
structure InH (p:Fg->(Str->Option Value)->Prop) (X:Cx) (P:Program) (w:World) (K:Fg) (mg:Str->Option Value) (base:Heap) (k:Nat):Prop where
 e1:X.prog=P
 e2:X.w=w
 e3:X.K=K
 e4:X.mg=mg
 e5:X.base=base
 rm:RoomH k X.A
 pp:p K mg
theorem InH.r {p:Fg->(Str->Option Value)->Prop} {X:Cx} {P:Program} {w:World} {K:Fg} {mg:Str->Option Value} {base:Heap} {k:Nat} (I:InH p X P w K mg base k):Rm X:=by
 have:=I.rm.un
 unfold Rm;omega
section
variable {p:Fg->(Str->Option Value)->Prop} {P:Program} {w:World} {K:Fg} {mg:Str->Option Value} {base:Heap} {k:Nat} {x q:Str} {st:Stmt} {cl:List Str} {d:Str->FS}
theorem Mb (F:Ft K mg x st) (e:p K mg) (q:Str) (b:cL x st [q]) (rs gl:List Str) (vs cs gs:List Nat)
  (hb:∀(X:Cx) (a C:Addr) (c:Str),c∈cl->mg c=some (.ref C)->Cp { X with calm:=true } ([q]++rs) gl vs cs vs (jK vs cs) gs->InH p X P w K mg base k->j4 X a C->PSs X (bE st) (tZ 0 a X.K W0 (d c)))
  (h:fB ([q]++rs) gl [q] vs cs gs st=true:=by kernel_rfl):jx P w K mg base (k+1) x cl (fun c=>yJ ([q]++rs).length (d c)):=by
 obtain ⟨f,fd,hm,F⟩:=F;obtain ⟨h1,h2,h3⟩:=km h;refine ⟨f,fd,q,hm,F.kp,wQ F b,fun A outer s H a C c O Q args hr e0 hx hH haf hc hC nd inH hw hbn=>?_⟩
 obtain ⟨oc,od,kV,doc,pm,an,cdv,ct,osl,rfl,lk,hcd⟩:=F.ex;have hex:j4 (C7 P w K mg base ([q]++rs) x (aI st) f cdv A outer s H) a C:=fun pins σ H' s' I=>by
  obtain ⟨oe,vs,g,hc1,hd⟩:=hx;exact ⟨oe,vs,I.base.keep a oe g hH haf nofun,hc1,hd⟩
 have S:Cp { C7 P w K mg base ([q]++rs) x (aI st) f cdv A outer s H with calm:=true } ([q]++rs) gl vs cs vs (jK vs cs) gs:=by
  obtain ⟨a1,b1,c1⟩:=D8 h2;have q1:=Dp h1
  exact ⟨rfl,a1,b1,c1,q1.vis,q1.cel,fun i x e hi=>⟨q1.loc i x e hi,.inl rfl⟩,q1.loo,q1.glb,rfl,q1.kind⟩
 refine vD (k:=k) lk hcd h3 (vs:=[.ref a]) hr e0 hbn (.cons rfl .nil) rfl (hb _ a C c hc hC S ⟨rfl,rfl,rfl,rfl,rfl,hr.deeper _,e⟩ hex) ?_
 refine ⟨rfl,H,O,List.replicate ([q]++rs).length [],List.replicate ([q]++rs).length none,?_,?_⟩
 ·have fl:(List.replicate ([q]++rs).length ([]:List Addr)).flatten=[]:=by simp
  refine ⟨by simp [L2.start],by simp,Same.refl _,by rw [fl];simpa using nd,by rw [fl];simpa using inH,fun a ha=>by rw [fl] at ha;simp at ha,fun i p hp=>?_⟩
  rw [getElem?_replicate] at hp;split at hp<;>cases hp
 ·unfold yJ at hw
  dsimp only at hw
  cases e:d c (List.replicate ([q]++rs).length none) with
  | nx Γ'=>
   rw [e] at hw;exact fun σ' H' Fs' E' _=>hw .non H' [] ⟨E'.same,(fun _ z=>nomatch z),(fun _ z=>nomatch z),nodup_nil,.leaf .non,rfl⟩
  | rt p=>rw [e] at hw;exact hw
  | bk Γ'=>rw [e] at hw;exact hw.elim
  | ct Γ'=>rw [e] at hw;exact hw.elim
  | er c Γ'=>rw [e] at hw;exact hw.elim
  | no=>rw [e] at hw;exact hw.elim
end
noncomputable def kY (r:bA):F1:=fun Γ=>match r with
 | .ok p=>.ok p Γ
 | _=>.no
theorem vy {X:Cx} {pins:List (Addr×Obj)} {a C:Addr} {oe:Obj} {c:Str} {N gl:List Str} {vs cs ls lo gs:List Nat} {W:XW} {ie k kk:Nat} {x en:Str} {cl:List Str} {m:Str->bA} {pos p p1:Pos} (S:Cp X N gl vs cs ls lo gs) (hst:X.stack=X.env::X.outer) (hf:X.env.frame=some X.env.locals)
  (F:jx X.prog X.w X.K X.mg X.base k x cl m) (hr:Room kk X.A) (hk:decide (k<=kk)=true) (hc:c∈cl) (hC:X.mg c=some (.ref C)) (hcl:oe.cls=.ref C) (hd:∃vs,oe.data=.fields vs/\vs[2]?=some .none) (hN:N[ie]?=some en) (hv:vs.contains ie=true) (j:Nat) (hj:gl[j]?=some x) (hg:gs.contains j=true) :
  PE (cS X pins a oe) (.Call (.Name x p) [.Name en p1] [] pos) (tG (nK ie a) (tE X.K W (kY (m c)))):=by
 obtain ⟨f,fd,q,hm,hkp,hb,run⟩:=F;have mm:=S.nm en (mem_of_getElem? hN)
 have hvar:PE (cS X pins a oe) (.Name en p1) (b6 ie):=wB (by show X.N[ie]?=_;rw [S.hN];exact hN) (S.vis ie en hN hv) mm.1 mm.2
 intro pins' s σ H Q I h
 obtain ⟨h1,He,O,Fs,Γ,E,h2⟩:=h;refine wpAny_Call_Name_kw (zh I (S.g hj hg).1 hm ?_ (S.g hj hg).2.1)
 refine PySem.W.callWith_K (h₀:=X.base) I.ok.mod.kin hkp (bF (nF hvar wU rfl pos pins' s σ H (fun vs H1=>vs=[.ref a]/\H1=H) I ⟨.ref a,h1,rfl,rfl⟩) fun us s1 ⟨vs,H1,I1,r,q1,q2⟩=>⟨I1.kIn,?_⟩) (fv rfl) rfl
 subst q1 q2;obtain ⟨u,rfl,ru⟩:=r.one
 cases (show u=Value.ref a from ru)
 obtain ⟨e,n,ne,nf,dd⟩:=I1.pin (a,oe) (mem_append_left _ (mem_append_right _ (List.mem_singleton.mpr rfl)))
 have haf:a∉fN X.stack:=fun z=>by
  rw [hst] at z;obtain ⟨en',m1,m2⟩:=List.mem_filterMap.mp z;rcases List.mem_cons.mp m1 with y | y
  ·rw [y,hf] at m2
   exact ne (Option.some.inj m2).symm
  ·exact nf (List.mem_filterMap.mpr ⟨en',y,m2⟩)
 have hb2:=hb s1 [.ref a] I1.kIn rfl
 rw [append_nil] at hb2;obtain ⟨vsd,hdd,hd2⟩:=hd;refine wpAny_call (codeAny_mono (run (X.A.mark (some (.ref a))) X.stack s1 _ a C c (O++Fs.flatten) Q ⟨[.ref a],[]⟩ ((Room.mark hr _).mono (of_decide_eq_true hk)) I1.env0 ⟨oe,vsd,e,hcl,hdd,hd2⟩ n haf hc hC E.nd E.inH ?_ hb2) fun r s' hq=>?_)
 ·cases em:m c with
  | er c'=>unfold kY at h2;rw [em] at h2;exact h2.elim
  | no=>unfold kY at h2;rw [em] at h2;exact h2.elim
  | ok p=>
   unfold kY at h2;rw [em] at h2;intro v H2 G r;refine h2 v H2 G Fs ⟨r.same,E.hide r.same r.nd r.fresh r.inH,fun b hb=>?_,by rw [append_assoc];exact r.own⟩
   rcases List.mem_append.mp hb with z | z
   ·exact .inr (r.fresh b z)
   ·exact .inl z
 ·cases r with
  | error e=>exact hq.elim
  | ok fl=>
   cases fl with
   | ret u=>exact I1.after hq
   | next=>exact False.elim hq
   | brk=>exact False.elim hq
   | cont=>exact False.elim hq
theorem Cp.hand {X:Cx} {pins:List (Addr×Obj)} {a:Addr} {oe:Obj} {N gl:List Str} {vs cs ls lo gs:List Nat} (S:Cp X N gl vs cs ls lo gs):Cp { cS X pins a oe with calm:=true } N gl vs cs ls lo gs:=⟨S.hN,S.nd,S.nm,S.ng,S.vis,S.cel,S.loc,S.loo,S.glb,rfl,S.kind⟩
theorem Cp.try {X:Cx} {pins:List (Addr×Obj)} {W:Addr->St->Hp->Prop} {N gl:List Str} {vs cs ls lo gs:List Nat} (S:Cp X N gl vs cs ls lo gs):Cp (eY X pins W) N gl vs cs ls lo gs:=⟨S.hN,S.nd,S.nm,S.ng,S.vis,S.cel,S.loc,S.loo,S.glb,S.calm,S.kind⟩
theorem In.try {p:Fg->(Str->Option Value)->Prop} {X:Cx} {P:Program} {w:World} {K:Fg} {mg:Str->Option Value} {base:Heap} {k:Nat} {pins:List (Addr×Obj)} {W:Addr->St->Hp->Prop} (I:In p X P w K mg base k):In p (eY X pins W) P w K mg base k:=⟨I.e1,I.e2,I.e3,I.e4,I.e5,I.rm,I.pp⟩
theorem vv {X:Cx} {N gl:List Str} {vs cs ls lo gs:List Nat} {W:XW} {a:Expr} {pos pos':Pos} {fa:F1} {k:Nat} {φ:St->Prop} {y:Str} (S:Cp { X with calm:=true } N gl vs cs ls lo gs) (hk:N[k]?=some y) (hl:ls.contains k=true) (ha:PE X a (tG φ (tE X.K W fa))) (hs:swapsWith a (some (.Name y pos')) pos.line X.env=pure false:=by rfl) :
  PSs X [.Assign [.Name y pos'] a pos] (JF φ (tS X.K W (aE false k fa))):=
 Aw (dq (D1 (by show X.N.Nodup;rw [show X.N=N from S.hN];exact S.nd) (by show X.N[k]?=_;rw [show X.N=N from S.hN];exact hk) (S.loc k y hk hl).1 ha hs (S.loc k y hk hl).2) fun D σ H h=>⟨h.1,Hj h.2⟩)
noncomputable abbrev LK:List Value:=[.type "ValueError",.type "Exception",.type "BaseException",.type "object"]
noncomputable def Gy (K:Fg) (D C:Addr) (c:Str) (ds:List Str):Bool:=PySem.W.excIn K C LK "ValueError.__new__"&&yA K C&&PySem.W.subIn K (.ref C) (.ref D)==some true&&PySem.W.kitOne K (.ref C) (.type "ValueError")==some true&&ds.all fun d=>match PySem.W.nsIn K mainGlobals d with
 | some (some (.ref E))=>PySem.W.kitOne K (.ref C) (.ref E)==some (d==c)
 | _=>false
noncomputable def Ge (K:Fg) (cl ds:List Str):Bool:=match PySem.W.nsIn K mainGlobals "HallError" with
 | some (some (.ref D))=>PySem.W.typeIn K (.ref D)==some (.type "type")&&yA K D&&cl.all fun c=>match PySem.W.nsIn K mainGlobals c with
  | some (some (.ref C))=>Gy K D C c ds
  | _=>false
 | _=>false
structure G0 (K:Fg) (mg:Str->Option Value) (D C:Addr) (c:Str) (ds:List Str):Prop where
 ns:PySem.W.nsIn K mainGlobals c=some (some (.ref C))
 gm:mg c=some (.ref C)
 ei:PySem.W.excIn K C LK "ValueError.__new__"=true
 ex:fZ K C
 sub:PySem.W.subIn K (.ref C) (.ref D)=some true
 ve:PySem.W.kitOne K (.ref C) (.type "ValueError")=some true
 is:∀d,ds.contains d=true->∃E,mg d=some (.ref E)/\PySem.W.kitOne K (.ref C) (.ref E)=some (d==c)
structure ExT (K:Fg) (mg:Str->Option Value) (cl ds:List Str):Prop where
 h:∃D,mg "HallError"=some (.ref D)/\Ap K D/\∀c∈cl,∃C,G0 K mg D C c ds
theorem gx {K:Fg} {h:Heap} {mg:Str->Option Value} {cl ds:List Str} (KX:K.In h) (G:h.Ns mainGlobals mg) (z:Ge K cl ds=true):ExT K mg cl ds:=by
 unfold Ge at z;split at z
 ·rename_i D e0
  simp only [Bool.and_eq_true,beq_iff_eq,all_eq_true] at z
  obtain ⟨⟨z1,z2⟩,z3⟩:=z;refine ⟨D,PySem.W.mg_of KX G e0,⟨z1,qj z2⟩,fun c hc=>?_⟩
  have z4:=z3 c hc
  split at z4
  ·rename_i C e1
   unfold Gy at z4;simp only [Bool.and_eq_true,beq_iff_eq,all_eq_true] at z4
   obtain ⟨⟨⟨⟨y1,y2⟩,y3⟩,y4⟩,y5⟩:=z4;refine ⟨C,e1,PySem.W.mg_of KX G e1,y1,qj y2,y3,y4,fun d hd=>?_⟩
   have y6:=y5 d (by simpa using hd)
   split at y6
   ·rename_i E e2
    exact ⟨E,PySem.W.mg_of KX G e2,beq_iff_eq.mp y6⟩
   ·cases y6
  ·cases z4
 ·cases z
theorem ExT.cls {K:Fg} {mg:Str->Option Value} {cl ds:List Str} (E:ExT K mg cl ds) {c:Str} {C:Addr} (hc:c∈cl) (hC:mg c=some (.ref C)):∃D,G0 K mg D C c ds:=by
 obtain ⟨D,_,_,h⟩:=E.h;obtain ⟨C',k⟩:=h c hc;have:=k.gm
 rw [hC] at this
 cases this;exact ⟨D,k⟩
theorem ExT.rais {K:Fg} {mg:Str->Option Value} {base:Heap} {cl ds:List Str} (E:ExT K mg cl ds) (KX:K.In base) (G:base.Ns mainGlobals mg) {c:Str} (hc:cl.contains c=true:=by kernel_rfl):sx mg base c:=by
 obtain ⟨D,_,_,h⟩:=E.h;obtain ⟨C,k⟩:=h c (by simpa using hc)
 exact xF (h:=base) KX G k.ns k.ei
section
variable {X:Cx} {N gl:List Str} {vs cs ls lo gs:List Nat} {W:XW} {cl ds:List Str} {i:Nat} {x C:Addr} {c ex d:Str} {p p1 p2 pos:Pos}
theorem FX (S:Cp { X with calm:=true } N gl vs cs ls lo gs) (E:ExT X.K X.mg cl ds) (hx:j4 X x C) (hc:c∈cl) (hC:X.mg c=some (.ref C)) (hmi:X.mg "isinstance"=none) (j k:Nat) (hN:N[i]?=some ex:=by exact rfl) (hv:vs.contains i=true:=by exact rfl) (hj:gl[j]?=some ("isinstance":Str):=by exact rfl) (hg:gs.contains j=true:=by exact rfl) (hk2:gl[k]?=some d:=by exact rfl) (hg2:gs.contains k=true:=by exact rfl) (hd:ds.contains d=true:=by kernel_rfl) :
  PE X (.Call (.Name "isinstance" p) [.Name ex p1,.Name d p2] [] pos) (tG (nK i x) (tE X.K W (eK (.bool (d==c))))):=by
 obtain ⟨D,k'⟩:=E.cls hc hC;obtain ⟨E',h1,h2⟩:=k'.is d hd
 exact F8 S hx k'.ex h2 h1 hmi hN hv j k hj hg hk2 hg2
theorem lu:bootBuiltins "ValueError"=some (.type "ValueError"):=by decide +kernel
theorem Kj (S:Cp { X with calm:=true } N gl vs cs ls lo gs) (E:ExT X.K X.mg cl ds) (hx:j4 X x C) (hc:c∈cl) (hC:X.mg c=some (.ref C)) (hmi:X.mg "isinstance"=none) (hve:X.mg "ValueError"=none) (j k:Nat) (hN:N[i]?=some ex:=by exact rfl) (hv:vs.contains i=true:=by exact rfl) (hj:gl[j]?=some ("isinstance":Str):=by exact rfl) (hg:gs.contains j=true:=by exact rfl) (hk2:gl[k]?=some ("ValueError":Str):=by exact rfl) (hg2:gs.contains k=true:=by exact rfl) :
  PE X (.Call (.Name "isinstance" p) [.Name ex p1,.Name "ValueError" p2] [] pos) (tG (nK i x) (tE X.K W (eK (.bool true)))):=by
 obtain ⟨D,k'⟩:=E.cls hc hC;exact CK S hx k'.ex k'.ve hve lu hmi hN hv j k hj hg hk2 hg2
end
noncomputable abbrev bk (d c:Str):F1:=eK (.bool (d==c))
noncomputable def Kw (c:Str):FS:=ak (aE false 1 (aG .leaf (ae (bk "NoWorld" c) (ae (bk "NoPlayer" c) (ae (bk "NoMark" c) (ae (bk "NoSentence" c) ah))))))
 (ak (aE false 1 (gL (af 1) (aG .leaf (ae (bk "NoRoom" c) (ae (bk "NoWay" c) (ae (bk "NoPlan" c) (ae (bk "NoPaper" c) ah)))))))
 (ak (aE false 1 (gL (af 1) (aG .leaf (ae (bk "TooGreat" c) (ae (bk "NoNote" c) ah)))))
 (ak (bO (eN (aO ao (ay qf (Kt 1) (eK (.int 1)))) (cU (aO bY (eK (.bool true))))) (aS (eK (.str "other"))) aP)
 (aS (av (aG .leaf (ae (eK (.str "world")) (ae (eK (.str "player")) (ae (eK (.str "mark")) (ae (eK (.str "sentence")) (ae (eK (.str "room")) (ae (eK (.str "way")) (ae (eK (.str "plan")) (ae (eK (.str "paper")) (ae (eK (.str "great")) (ae (eK (.str "note")) ah))))))))))) (Ks 1))))))
end T
namespace TQ
open PySem PySem.Spec L2 T
open PyProof.Rows hiding St
section
variable {X:Cx} {N gl:List Str} {vs cs ls lo gs:List Nat} {W:XW} {φ:St->Prop} {a b c e:Expr} {es:List Expr} {pos p p1 p2:Pos} {fa fb fc:F1} {fl:FL} {ga gb:FB} {g1 g2:FS} {i k:Nat} {x C:Addr} {cl ds:List Str} {ex d y cc:Str}
theorem j5 (S:Cp { X with calm:=true } N gl vs cs ls lo gs) (E:ExT X.K X.mg cl ds) (hx:j4 X x C) (hc:cc∈cl) (hC:X.mg cc=some (.ref C)) (hmi:X.mg "isinstance"=none) (j k:Nat) (hN:N[i]?=some ex:=by exact rfl) (hv:vs.contains i=true:=by exact rfl) (hj:gl[j]?=some ("isinstance":Str):=by exact rfl) (hg:gs.contains j=true:=by exact rfl) (hk2:gl[k]?=some d:=by exact rfl) (hg2:gs.contains k=true:=by exact rfl) (hd:ds.contains d=true:=by kernel_rfl) :
  Q (PE X (.Call (.Name "isinstance" p) [.Name ex p1,.Name d p2] [] pos) (tG (nK i x) (tE X.K W (eK (.bool (d==cc)))))):=⟨FX S E hx hc hC hmi j k hN hv hj hg hk2 hg2 hd⟩
theorem Js (S:Cp { X with calm:=true } N gl vs cs ls lo gs) (E:ExT X.K X.mg cl ds) (hx:j4 X x C) (hc:cc∈cl) (hC:X.mg cc=some (.ref C)) (hmi:X.mg "isinstance"=none) (hve:X.mg "ValueError"=none) (j k:Nat) (hN:N[i]?=some ex:=by exact rfl) (hv:vs.contains i=true:=by exact rfl) (hj:gl[j]?=some ("isinstance":Str):=by exact rfl) (hg:gs.contains j=true:=by exact rfl) (hk2:gl[k]?=some ("ValueError":Str):=by exact rfl) (hg2:gs.contains k=true:=by exact rfl) :
  Q (PE X (.Call (.Name "isinstance" p) [.Name ex p1,.Name "ValueError" p2] [] pos) (tG (nK i x) (tE X.K W (eK (.bool true))))):=⟨Kj S E hx hc hC hmi hve j k hN hv hj hg hk2 hg2⟩
theorem LZ (h:Q (PE X a (tE X.K W fa))):Q (PE X a (tG φ (tE X.K W fa))):=⟨gu h.p⟩
theorem zo:Q (PA X [] (xh φ (tA X.K W ah))):=⟨zY⟩
theorem Av (ha:Q (PE X e (tG φ (tE X.K W fa)))) (hr:Q (PA X es (xh φ (tA X.K W fl)))) (hs:dP e=false:=by exact rfl):Q (PA X (e::es) (xh φ (tA X.K W (ae fa fl)))):=⟨Ip ha.p hr.p (fv hs)⟩
theorem sP (s:Sh) (h:Q (PA X es (xh φ (tA X.K W fl)))):Q (PE X (.List es pos) (tG φ (tE X.K W (aG s fl)))):=⟨CJ s h.p⟩
theorem Eo (ha:Q (PE X a (tG φ (tE X.K W fa)))) (hb:Q (PE X b (tG φ (tE X.K W fb)))):Q (PE X (.BinOp a .Add b pos) (tG φ (tE X.K W (gL fa fb)))):=⟨F9 ha.p hb.p⟩
theorem lE (S:Cp { X with calm:=true } N gl vs cs ls lo gs) (i:Nat) {x:Str} (hN:N[i]?=some x:=by exact rfl) (hv:vs.contains i=true:=by exact rfl):Q (PE X (.Name x pos) (tE X.K W (af i))):=⟨F7 S i hN hv⟩
theorem En {st:Stmt} {g:FS} (h:Q (PS X st (tZ i x X.K W g))):Q (PSs X [st] (tZ i x X.K W g)):=⟨DZ h.p⟩
theorem w5 {st:Stmt} {bf:List Stmt} (h1:Q (PS X st (tZ i x X.K W g1))) (h2:Q (PSs X bf (tZ i x X.K W g2))):Q (PSs X (st::bf) (tZ i x X.K W (ak g1 g2))):=⟨Aq h1.p h2.p⟩
theorem El {pos':Pos} (S:Cp { X with calm:=true } N gl vs cs ls lo gs) (ha:Q (PE X a (tG (nK i x) (tE X.K W fa)))) (hki:(k==i)=false:=by exact rfl) (hk:N[k]?=some y:=by exact rfl) (hl:ls.contains k=true:=by exact rfl) (hs:swapsWith a (some (.Name y pos')) pos.line X.env=pure false:=by exact rfl):Q (PS X (.Assign [.Name y pos'] a pos) (tZ i x X.K W (aE false k fa))):=⟨DX S hki hk hl ha.p hs⟩
theorem Em (ha:Q (PE X a (tG (nK i x) (tE X.K W fa)))):Q (PS X (.Return (some a) pos) (tZ i x X.K W (aS fa))):=⟨DY ha.p⟩
end
end TQ
namespace T
open PySem PySem.Spec L2
open PyProof.Rows hiding St
noncomputable def LM (X:Cx):Prop:=X.stack=X.env::X.outer/\X.env.frame=some X.env.locals
section
variable {p:Fg->(Str->Option Value)->Prop} {X Y:Cx} {P:Program} {w:World} {K:Fg} {mg:Str->Option Value} {base:Heap} {j k n:Nat} {y:Str} {s:Stmt} {ps:List Str} {g:FS} {den:List PySem.PyData->bA} {cl ds:List Str} {m:Str->bA}
noncomputable abbrev KL (p:Fg->(Str->Option Value)->Prop) (P:Program) (w:World) (K:Fg) (mg:Str->Option Value) (base:Heap) (k:Nat) (N gl:List Str) (vs cs gs:List Nat) (s:Stmt) (g:FS):Prop:=∀X:Cx,Cp X N gl vs cs vs (jK vs cs) gs->In p X P w K mg base k->LM X->PassesOwn (model X.prog X.w) X.A X.env X.xe->TQ.Q (PSs X (bE s) (tS X.K W0 g))
theorem FK {f:Addr} {fd:FuncData} (F:Fun K y y s f fd) (e:p K mg) (N gl:List Str) (vs cs gs:List Nat) (h:fB N gl ps vs cs gs s=true) (hb:KL p P w K mg base k N gl vs cs gs s g):dk P w K mg base iY (k+1) f fd ps (lR K ps.length (aA N.length g)):=by
 obtain ⟨h1,h2,h3⟩:=km h;exact vE F h3 fun cdv A outer s H E hr=>(hb _ (Cp.fn h1 h2) ⟨rfl,rfl,rfl,rfl,rfl,hr,e⟩ ⟨rfl,rfl⟩ PassesOwn.never).p
theorem L9 (F:Ft K mg y s) (e:p K mg) (ps:List Str) (b:cL y s ps) (rs gl:List Str) (vs cs gs:List Nat) (hb:KL p P w K mg base k (ps++rs) gl vs cs gs s g) (h:fB (ps++rs) gl ps vs cs gs s=true:=by kernel_rfl):DefOk P w K mg base (k+1) y ps.length (aA (ps++rs).length g):=by
 obtain ⟨f,fd,hm,F⟩:=F;exact ⟨f,fd,ps,FK F e _ gl vs cs gs h hb,hm,F.kp,wQ F b⟩
theorem Kf {fa:Addr} (F:Ft K mg y s) (e:p K mg) (q:Str) (b:cL y s [q]) (hfa:mg y=some (.ref fa)) (rs gl:List Str) (vs cs gs:List Nat) (hb:∀base:Heap,(K.In base/\base.Ns mainGlobals mg)->KL p P w K mg base k ([q]++rs) gl vs cs gs s g) (h:fB ([q]++rs) gl [q] vs cs gs s=true:=by kernel_rfl) :
  ∃fd:FuncData,(∀(s:Shared) (v:Value),BindsTo s fd ⟨[v],[]⟩ [(q,v)])/\∀base:Heap,K.In base->base.Ns mainGlobals mg->dk P w K mg base iY (k+1) fa fd [q] (lR K 1 (aA ([q]++rs).length g)):=by
 obtain ⟨f,fd,hm,F⟩:=F;have e':=hfa.symm.trans hm
 cases e'
 refine ⟨fd,fun s v=>?_,fun base kb nb=>FK F e _ gl vs cs gs h (hb base ⟨kb,nb⟩)⟩
 obtain ⟨oc,od,kV,doc,pm,an,cdv,ct,osl,rfl,lk,hcd⟩:=F.ex;exact .of_eq (b [v] rfl kV doc pm an cdv ct)
theorem In.eE (I:In p X P w K mg base k) (h:jx P w K mg base j y cl m):jx X.prog X.w X.K X.mg X.base j y cl m:=by
 obtain ⟨rfl,rfl,rfl,rfl,rfl,r,_⟩:=I;exact h
theorem In.xt (I:In p X P w K mg base k) (h:ExT K mg cl ds):ExT X.K X.mg cl ds:=by rw [I.e3,I.e4];exact h
theorem InH.xt (I:InH p X P w K mg base k) (h:ExT K mg cl ds):ExT X.K X.mg cl ds:=by rw [I.e3,I.e4];exact h
theorem InH.gm {o:Option Value} (I:InH p X P w K mg base k) (h:mg y=o):X.mg y=o:=by rw [I.e4];exact h
end
end T
namespace TQ
open PySem PySem.Spec L2 T
open PyProof.Rows hiding St
theorem zr {X:Cx} {N gl:List Str} {vs cs ls lo gs:List Nat} (S:Cp X N gl vs cs ls lo gs) (st:LM X) {body:List Stmt} {g:FS} {k:Str->FS} {cl ds:List Str} {en:Str} (ie j:Nat) {np hpos pos:Pos} {suite:Stmt} (E:ExT X.K X.mg cl ds)
  (hb:∀(pins:List (Addr×Obj)) (W:Addr->L2.St->Hp->Prop),Q (PSs (eY X pins W) body (tS X.K (wT X.mg W) g)))
  (hh:∀(pins:List (Addr×Obj)) (a C:Addr) (oe:Obj) (c:Str),c∈cl->X.mg c=some (.ref C)->oe.cls=.ref C->(∃vs,oe.data=.fields vs/\vs[2]?=some .none)->PSs (cS X pins a oe) [suite] (JF (nK ie a) (tS X.K W0 (k c))))
  (hie:N[ie]?=some en:=by exact rfl) (hel:lo.contains ie=true:=by exact rfl) (hj:gl[j]?=some ("HallError":Str):=by exact rfl) (hg:gs.contains j=true:=by exact rfl) :
  Q (PS X (.Try body [.ExceptHandler (some (.Name "HallError" np)) (some en) [suite] hpos] [] [] pos) (tS X.K W0 (jg cl ie g k))):=by
 obtain ⟨D,h1,h2,h3⟩:=E.h;refine ⟨BD S st.1 st.2 hie hel hj hg h1 h2 (fun c hc C hC=>?_) (fun pins W=>(hb pins W).p) hh⟩
 obtain ⟨C',k'⟩:=h3 c hc;have:=k'.gm
 rw [hC] at this
 cases this;exact k'.sub
end TQ
namespace KQ.M
open PySem PySem.Spec L2 T
open PyProof.Rows hiding St
open KC
noncomputable def me__law_which:Str->bA:=fun c=>yJ 2 (Kw c)
section
open PySem.SeqAt
theorem sQ {cl:List Str} {ie:Nat} {g:FS} {k:Str->FS} {Γ Γ':Ev} (h:g Γ=.nx Γ'):jg cl ie g k Γ=.nx Γ':=by unfold jg;rw [h]
theorem Iw {cl:List Str} {ie:Nat} {g:FS} {k:Str->FS} {Γ Γ1 Γ':Ev} {c:Str} (h:g Γ=.er c Γ1) (hc:cl.contains c=true) (h1:zT Γ1[ie]?=true) (hk:k c Γ1=.nx Γ') (h2:zT Γ'[ie]?=true):jg cl ie g k Γ=.nx Γ':=by
 unfold jg;rw [h];unfold xb;simp only [hc,h1,Bool.and_self,if_true,hk,h2]
theorem v_res {r:bA} {p:PV} {Γ:Ev} (h:r=.ok p):kY r Γ=.ok p Γ:=by rw [h];rfl
theorem sL {Γ Γ1:Ev} {fl:FL} {ps:List PV} {n:Nat} {p:PV} {den:List D->bA} (hl:fl Γ=.ok ps Γ1) (hd:den (ps.map (·.d))=.ok p) (hn:ps.length=n) (hc:ps.all (T.coer .leaf)=true):aK n den fl Γ=.ok p Γ1:=by
 unfold aK;rw [hl];simp only [Out.bind,hn,hd,hc,if_true]
theorem dR {Γ Γ1:Ev} {fl:FL} {ps:List PV} {n:Nat} {c:Str} {den:List D->bA} (hl:fl Γ=.ok ps Γ1) (hd:den (ps.map (·.d))=.er c) (hn:ps.length=n):aK n den fl Γ=.er c Γ1:=by
 unfold aK;rw [hl];simp only [Out.bind,hn,hd,if_true]
theorem sR {own:Bool} {i:Nat} {fa:F1} {Γ Γ':Ev} {c:Str} (h:fa Γ=.er c Γ'):aE own i fa Γ=.er c Γ':=by unfold aE kc;rw [h]
theorem d5 {fa:F1} {Γ Γ':Ev} {c:Str} (h:fa Γ=.er c Γ'):aR fa Γ=.er c Γ':=by unfold aR kc;rw [h]
theorem lC {g1 g2:FS} {Γ Γ':Ev} {c:Str} (h:g1 Γ=.er c Γ'):ak g1 g2 Γ=.er c Γ':=by unfold ak;rw [h]
theorem bV {n:Nat} {g:FS} {ds:List D} {c:Str} {Γ':Ev} (h:g (aq n ds)=.er c Γ'):aA n g ds=.er c:=by unfold aA;rw [h]
end
end KQ.M
namespace T
open PySem PySem.Spec L2
open PyProof.Rows hiding St
noncomputable abbrev KY:List Str:=["NoWorld", "NoMark", "NoSentence", "NoRoom", "TooGreat", "NoNote"]
noncomputable abbrev F6:List Str:=["isinstance", "NoWorld", "NoMark", "NoSentence", "NoRoom", "TooGreat", "NoNote", "ValueError"]
noncomputable def LG (c:Str):FS:=ak (aE false 1 (aG .leaf (ae (bk "NoWorld" c) (ae (bk "NoMark" c) (ae (bk "NoSentence" c) (ae (bk "NoRoom" c) ah))))))
 (aS (gL (af 1) (aG .leaf (ae (bk "TooGreat" c) (ae (bk "NoNote" c) (ae (eK (.bool true)) ah))))))
end T
namespace TQ
open PySem PySem.Spec L2 T
open PyProof.Rows hiding St
theorem AF {X:Cx} {cl:List Str} {a C:Addr} {c:Str} (S:Cp { X with calm:=true } ["e", "told"] F6 [0,1] [] [0,1] [0,1] [0,1,2,3,4,5,6,7]) (E:ExT X.K X.mg cl KY) (hx:j4 X a C) (hc:c∈cl) (hC:X.mg c=some (.ref C)) (hmi:X.mg "isinstance"=none) (hve:X.mg "ValueError"=none)
  {q1 q2 q3 q4 q5 q6 q7 q8 q9 q10 q11 q12 q13 q14 q15 q16 q17 q18 q19 q20 q21 q22 q23 q24 q25 q26 q27 q28 q29 q30 q31 q32 q33 q34 q35:Pos} :
  Q (PSs X [.Assign [.Name "told" q1] (.List [.Call (.Name "isinstance" q2) [.Name "e" q3,.Name "NoWorld" q4] [] q5,.Call (.Name "isinstance" q6) [.Name "e" q7,.Name "NoMark" q8] [] q9,.Call (.Name "isinstance" q10) [.Name "e" q11,.Name "NoSentence" q12] [] q13,.Call (.Name "isinstance" q14) [.Name "e" q15,.Name "NoRoom" q16] [] q17] q18) q19,
   .Return (some (.BinOp (.Name "told" q20) .Add (.List [.Call (.Name "isinstance" q21) [.Name "e" q22,.Name "TooGreat" q23] [] q24,.Call (.Name "isinstance" q25) [.Name "e" q26,.Name "NoNote" q27] [] q28,.Call (.Name "isinstance" q29) [.Name "e" q30,.Name "ValueError" q31] [] q32] q33) q34)) q35] (tZ 0 a X.K W0 (LG c))):=by
 refine w5 (El S (sP .leaf (Av (j5 S E hx hc hC hmi 0 1) (Av (j5 S E hx hc hC hmi 0 2) (Av (j5 S E hx hc hC hmi 0 3) (Av (j5 S E hx hc hC hmi 0 4) zo)))))) ?_
 exact En (Em (Eo (LZ (lE S 1)) (sP .leaf (Av (j5 S E hx hc hC hmi 0 5) (Av (j5 S E hx hc hC hmi 0 6) (Av (Js S E hx hc hC hmi hve 0 7) zo))))))
end TQ
namespace T
open PySem PySem.Spec L2
open PyProof.Rows hiding St
noncomputable abbrev Ii (X:Cx) (a:Addr):Prop:=∀pins σ H s,Inv X pins σ H s->C2 a s.heap
noncomputable def ik (P:Program) (w:World) (K:Fg) (mg:Str->Option Value) (base:Heap) (k:Nat) (x:Str) (n:Nat) (den:List PySem.PyData->bA):Prop:=
 ∃(f:Addr) (fd:FuncData) (ps:List Str),ps.length=n/\mg x=some (.ref f)/\PySem.W.keepIn K (.ref f)=true/\Binds K fd ps [] /\
  ∀(A:Around) (outer:List Env) (s:Shared) (H:Hp) (a C:Addr) (us:List Value) (vs:List V) (Q:VK) (args:Args),RoomH k A->A.handled=some (.ref a)->oY P w K mg base A outer s H->qz a C s.heap->H a=none->a∉fN outer->Vals vs us->lR K n den vs H Q E0->BindsTo s fd args (ps.zip us)->codeAny (model P w) A (.call (.ref f) args) (CR iY outer P w H s Q E0) s
section
variable {p:Fg->(Str->Option Value)->Prop} {P:Program} {w:World} {K:Fg} {mg:Str->Option Value} {base:Heap} {k:Nat} {x:Str} {st:Stmt} {g:FS}
theorem Ma (F:Ft K mg x st) (e:p K mg) (ps:List Str) (b:cL x st ps) (rs gl:List Str) (vs cs gs:List Nat)
  (hb:∀(X:Cx) (a:Addr),Cp { X with calm:=true } (ps++rs) gl vs cs vs (jK vs cs) gs->InH p X P w K mg base k->X.A.handled=some (.ref a)->Ii X a->TQ.Q (PSs X (bE st) (tS X.K W0 g)))
  (h:fB (ps++rs) gl ps vs cs gs st=true:=by kernel_rfl):ik P w K mg base (k+1) x ps.length (aA (ps++rs).length g):=by
 obtain ⟨f,fd,hm,F⟩:=F;obtain ⟨h1,h2,h3⟩:=km h;refine ⟨f,fd,ps,rfl,hm,F.kp,wQ F b,fun A outer s H a C us vs' Q args hr hh e0 hx hH haf r hsp hbn=>?_⟩
 obtain ⟨oc,od,kV,doc,pm,an,cdv,ct,osl,rfl,lk,hcd⟩:=F.ex;have hot:Ii (C7 P w K mg base (ps++rs) x (aI st) f cdv A outer s H) a:=fun pins σ H' s' I=>by
  obtain ⟨oe,vs,g,hc1,hd⟩:=hx;exact ⟨oe,vs,I.base.keep a oe g hH haf nofun,hd⟩
 have S:Cp { C7 P w K mg base (ps++rs) x (aI st) f cdv A outer s H with calm:=true } (ps++rs) gl vs cs vs (jK vs cs) gs:=by
  obtain ⟨a1,b1,c1⟩:=D8 h2;have q1:=Dp h1
  exact ⟨rfl,a1,b1,c1,q1.vis,q1.cel,fun i x e hi=>⟨q1.loc i x e hi,.inl rfl⟩,q1.loo,q1.glb,rfl,q1.kind⟩
 obtain ⟨hl,O,ds,nd,inH,rs',w'⟩:=hsp;have hpl:ps.length<=(ps++rs).length:=by simp
 refine vD (k:=k) lk hcd h3 hr e0 hbn r hl (hb _ a S ⟨rfl,rfl,rfl,rfl,rfl,hr.deeper _,e⟩ hh hot).p ?_
 refine ⟨H,O,List.replicate (ps++rs).length [],aq (ps++rs).length ds,IT (by omega) nd inH rs',?_⟩
 unfold aA at w'
 cases e:g (aq (ps++rs).length ds) with
 | nx Γ'=>
  rw [e] at w';exact fun σ' H' Fs' E'=>w' .non H' [] ⟨E'.same,(fun _ z=>nomatch z),(fun _ z=>nomatch z),nodup_nil,.leaf .non,rfl⟩
 | rt p=>rw [e] at w';exact w'
 | bk Γ'=>rw [e] at w';exact w'.elim
 | ct Γ'=>rw [e] at w';exact w'.elim
 | er c Γ'=>rw [e] at w';exact w'.elim
 | no=>rw [e] at w';exact w'.elim
end
theorem uW {X:Cx} {pins:List (Addr×Obj)} {a C:Addr} {oe:Obj} {N gl:List Str} {vs cs ls lo gs:List Nat} {n k kk:Nat} {x:Str} {den:List PySem.PyData->bA} {pos p:Pos} {e:Expr} {es:List Expr} {t:TA} (S:Cp X N gl vs cs ls lo gs) (hst:X.stack=X.env::X.outer) (hf:X.env.frame=some X.env.locals)
  (F:ik X.prog X.w X.K X.mg X.base k x n den) (hr:Room kk X.A) (hk:decide (k<=kk)=true) (hcl:oe.cls=.ref C) (hd:∃vs,oe.data=.fields vs/\vs[2]?=some .none) (ha:PA (cS X pins a oe) (e::es) t) (j:Nat) (hj:gl[j]?=some x) (hg:gs.contains j=true)
  (he:starEach (e::es) X.env=(false,eval e X.env)::starEach es X.env) (hpl:(backTo pos (starEach es X.env)).any (·.1)=false) :
  PE (cS X pins a oe) (.Call (.Name x p) (e::es) [] pos) (lP (lR X.K n den) [] E0 t):=by
 obtain ⟨f,fd,ps,hn,hm,hkp,hb,run⟩:=F;intro pins' s σ H Q I h
 refine wpAny_Call_Name_kw (zh I (S.g hj hg).1 hm ?_ (S.g hj hg).2.1)
 refine PySem.W.callWith_K (h₀:=X.base) I.ok.mod.kin hkp (bF (ha pos pins' s σ H _ I h) fun us s1 ⟨vs,H1,I1,r,q⟩=>⟨I1.kIn,?_⟩) he hpl
 have q:lR X.K n den vs H1 Q E0:=by
  have q':lR X.K n den (vs++[]) H1 Q E0:=q
  rwa [append_nil] at q'
 obtain ⟨e',n',ne,nf,dd⟩:=I1.pin (a,oe) (mem_append_left _ (mem_append_right _ (List.mem_singleton.mpr rfl)))
 have haf:a∉fN X.stack:=fun z=>by
  rw [hst] at z;obtain ⟨en',m1,m2⟩:=List.mem_filterMap.mp z;rcases List.mem_cons.mp m1 with y | y
  ·rw [y,hf] at m2
   exact ne (Option.some.inj m2).symm
  ·exact nf (List.mem_filterMap.mpr ⟨en',y,m2⟩)
 have hb2:=hb s1 us I1.kIn (by rw [append_nil,hn,<-q.1];exact r.length.symm)
 rw [append_nil] at hb2;obtain ⟨vsd,hdd,hd2⟩:=hd;refine wpAny_call (codeAny_mono (run (X.A.mark (some (.ref a))) X.stack s1 H1 a C us vs Q ⟨us,[]⟩ ((Room.mark hr _).mono (of_decide_eq_true hk)) rfl I1.env0 ⟨oe,vsd,e',hcl,hdd,hd2⟩ n' haf r q hb2) fun r s' hq=>?_)
 cases r with
 | error e=>exact hq.elim
 | ok fl=>
  cases fl with
  | ret u=>exact I1.after hq
  | next=>exact False.elim hq
  | brk=>exact False.elim hq
  | cont=>exact False.elim hq
theorem yx {X:Cx} {pins:List (Addr×Obj)} {a C:Addr} {oe:Obj} {N gl:List Str} {vs cs ls lo gs:List Nat} {n k kk:Nat} {x:Str} {den:List PySem.PyData->bA} {pos p:Pos} {e:Expr} {es:List Expr} {fl:FL} {W:XW} {φ:St->Prop} (S:Cp X N gl vs cs ls lo gs) (hst:X.stack=X.env::X.outer) (hf:X.env.frame=some X.env.locals)
  (F:ik X.prog X.w X.K X.mg X.base k x n den) (hr:Room kk X.A) (hk:decide (k<=kk)=true) (hcl:oe.cls=.ref C) (hd:∃vs,oe.data=.fields vs/\vs[2]?=some .none) (ha:PA (cS X pins a oe) (e::es) (xh φ (tA X.K W fl))) (j:Nat) (hj:gl[j]?=some x) (hg:gs.contains j=true)
  (he:starEach (e::es) X.env=(false,eval e X.env)::starEach es X.env) (hpl:(backTo pos (starEach es X.env)).any (·.1)=false) :
  PE (cS X pins a oe) (.Call (.Name x p) (e::es) [] pos) (tG φ (tE X.K W (aj n den fl))):=
 bc (uW S hst hf F hr hk hcl hd ha j hj hg he hpl) fun σ H Q h=>⟨h.1,pF h.2⟩
section
variable {X Y:Cx} {p:Fg->(Str->Option Value)->Prop} {P:Program} {w:World} {K:Fg} {mg:Str->Option Value} {base:Heap} {j k n:Nat} {y:Str} {den:List PySem.PyData->bA}
theorem In.eH (I:In p X P w K mg base k) (h:ik P w K mg base j y n den):ik X.prog X.w X.K X.mg X.base j y n den:=by
 obtain ⟨rfl,rfl,rfl,rfl,rfl,r,_⟩:=I;exact h
theorem Fx.ih (F:Fx X Y) (I:InH p X P w K mg base k):InH p Y P w K mg base k:=⟨F.prog.trans I.e1,F.w.trans I.e2,F.K.trans I.e3,F.mg.trans I.e4,F.base.trans I.e5,by rw [F.A];exact I.rm,I.pp⟩
end
section
variable {X:Cx} {N gl:List Str} {vs cs ls lo gs:List Nat} {W:XW} {a:Expr} {fl:FL} {pos p:Pos} {a9:Addr}
theorem Mk {tg:Expr} (S:Cp { X with calm:=true } N gl vs cs ls lo gs) (j:Nat) (hj:gl[j]?=some ("range":Str)) (hg:gs.contains j=true) (hm:X.mg "range"=none) (ha:PA X [a] (tA X.K W fl)) (hs:starEach [a] X.env=[(false,eval a X.env)]) :
  Di a9 X tg (.Call (.Name "range" p) [a] [] pos) (tI X.K W (hU fl)):=by
 have G:Gl X "range":=(S.g hj hg).1
 exact fun pins s σ H R I h=>nX G hm ha hs pins s σ H R I (ur h)
theorem Ml {scope:Scope} {x:Str} {px:Pos} {iter elt:Expr} {ifs:List Expr} {fi:FI} {fe:F1} {fc:FB} {vs' cs' lo' gs':List Nat} (S:Cp { X with calm:=true } N gl vs cs ls lo gs) (hh:X.A.handled=some (.ref a9)) (hot:Ii X a9) (s:Sh) (i:Nat) (hx:N[i]?=some x) (h1:gO N i cs scope=true) (h2:kr N gl vs' cs' [i] lo' gs' scope=true)
  (hi':Di a9 X (.Name x px) iter (tI X.K W fi)) (hc:∀Y:Cx,Cp { Y with calm:=true } N gl vs' cs' [i] lo' gs'->Fx X Y->PF Y ifs (tT Y.K W0 fc)) (he:∀Y:Cx,Cp { Y with calm:=true } N gl vs' cs' [i] lo' gs'->Fx X Y->PE Y elt (tE Y.K W0 fe)) (hs:∀x,foldedSetIterable iter X.env x=pure x) :
  PE X (.ListComp elt [⟨.Name x px,iter,ifs,0⟩] scope pos) (tE X.K W (aN s i fi fc fe)):=by
 have B:∀cells C s₀ H₀ ex,Cp { blk X scope cells C s₀ H₀ ex with calm:=true } N gl vs' cs' [i] lo' gs':=fun cells C s₀ H₀ ex=>S.blk h2 cells C s₀ H₀ ex
 have L:=fun cells C s₀ H₀ ex=>(B cells C s₀ H₀ ex).loc i x hx (by simp)
 have CS:cW X.N [i] X.env.scope scope:=Hz (X:={ X with calm:=true }) S h1
 exact bc (uT (e9:=a9) CS hh hot hi' (fun cells C s₀ H₀ ex=>wG (X:=blk X scope cells C s₀ H₀ ex) (i:=i) (by show X.N.Nodup;rw [show X.N=N from S.hN];exact S.nd) (by show X.N[i]?=_;rw [show X.N=N from S.hN];exact hx) (L cells C s₀ H₀ ex).1 (L cells C s₀ H₀ ex).2)
  (fun cells C s₀ H₀ ex=>hc _ (B cells C s₀ H₀ ex) ⟨rfl,rfl,rfl,rfl,rfl,rfl⟩) (fun cells C s₀ H₀ ex=>he _ (B cells C s₀ H₀ ex) ⟨rfl,rfl,rfl,rfl,rfl,rfl⟩) hs) fun _ _ _=>Hv
end
theorem hno {X:Cx} {W:XW} {s:Stmt}:∃u,PSs X [s] u:=⟨_,(TQ.w_ds_one (TQ.w_ds_no (W:=W))).p⟩
end T
namespace TQ
open PySem PySem.Spec L2 T
open PyProof.Rows hiding St
section
variable {X:Cx} {N gl:List Str} {vs cs ls lo gs:List Nat} {W:XW} {a:Expr} {fl:FL} {pos p:Pos} {a9:Addr}
theorem Jt {tg:Expr} (S:Cp { X with calm:=true } N gl vs cs ls lo gs) (j:Nat) (hm:X.mg "range"=none) (ha:Q (PA X [a] (tA X.K W fl))) (hs:starEach [a] X.env=[(false,eval a X.env)]) (hj:gl[j]?=some ("range":Str):=by exact rfl) (hg:gs.contains j=true:=by exact rfl) :
  Q (Di a9 X tg (.Call (.Name "range" p) [a] [] pos) (tI X.K W (hU fl))):=⟨Mk S j hj hg hm ha.p hs⟩
theorem Ju {scope:Scope} {x:Str} {px:Pos} {iter elt:Expr} {ifs:List Expr} {fi:FI} {fe:F1} {fc:FB} (vs' cs' gs':List Nat) (S:Cp { X with calm:=true } N gl vs cs ls lo gs) (hh:X.A.handled=some (.ref a9)) (hot:Ii X a9) (i:Nat)
  (hi':Q (Di a9 X (.Name x px) iter (tI X.K W fi))) (hc:∀Y:Cx,Cp { Y with calm:=true } N gl vs' cs' [i] [] gs'->Fx X Y->Q (PF Y ifs (tT Y.K W0 fc))) (he:∀Y:Cx,Cp { Y with calm:=true } N gl vs' cs' [i] [] gs'->Fx X Y->Q (PE Y elt (tE Y.K W0 fe))) (hx:N[i]?=some x:=by exact rfl) (h1:gO N i cs scope=true:=by kernel_rfl) (h2:kr N gl vs' cs' [i] [] gs' scope=true:=by kernel_rfl) (hs:∀x,foldedSetIterable iter X.env x=pure x:=by exact fun _=>rfl) :
  Q (PE X (.ListComp elt [⟨.Name x px,iter,ifs,0⟩] scope pos) (tE X.K W (aN .leaf i fi fc fe))):=⟨Ml S hh hot .leaf i hx h1 h2 hi'.p (fun Y S F=>(hc Y S F).p) (fun Y S F=>(he Y S F).p) hs⟩
end
end TQ
namespace T
open PySem PySem.Spec L2
open PyProof.Rows hiding St
structure Lv (X:Cx) (E:XK):Prop where
 ex:X.ex=[]
 st:X.stack=X.env::X.outer
 fr:X.env.frame=some X.env.locals
 xe:∀e s',wpAny (model X.prog X.w) X.A (leaving X.env e) (fun _ s4=>oZ X.prog X.w X.outer X.H₀ X.s₀ E e s4) (fun e s4=>oZ X.prog X.w X.outer X.H₀ X.s₀ E e s4) s'->X.xe e s'
section
variable {K:Fg} {H:Hp} {O:List Addr} {σ:St} {Γ Γ1:Ev} {W:XW} {f:F1} {fb:FB} {Q:VK} {QB:Bool->Hp->Prop}
theorem Iz:∀n:Nat,(List.replicate n ([]:List Addr)).flatten=[]
 | 0=>rfl
 | n+1=>by rw [replicate_succ,flatten_cons,Iz n];rfl
theorem Kr (nd:O.Nodup) (inH:∀a∈O,H a≠none) (hl:σ.length=Γ.length) (hs:∀(i:Nat) p,Γ[i]?=some (some p)->p.s=.leaf/\∃v,σ[i]?=some (some v)/\Rep K (cN H O) v p.d):EnvOk K H O (List.replicate Γ.length []) H σ Γ:=by
 have e:=Iz Γ.length
 refine ⟨hl,length_replicate,Same.refl H,by rw [e,append_nil];exact nd,by rw [e,append_nil];exact inH,by rw [e];exact fun _ z=>(nomatch z),fun i p h=>?_⟩
 obtain ⟨h1,v,h2,h3⟩:=hs i p h;have hi:i<Γ.length:=(List.getElem?_eq_some_iff.mp h).1
 refine ⟨by rw [h1];rfl,v,[],h2,by rw [getElem?_replicate,if_pos hi],?_⟩
 rw [h1,e,append_nil];exact .leaf h3
theorem lK {K:Fg} {H:Hp} {vs:List V} {xs:List Int} (hl:vs.length=(xs.map PySem.PyData.int).length) (hr:∀(i:Nat) v d,vs[i]?=some v->(xs.map PySem.PyData.int)[i]?=some d->Rep K H v d):vs=xs.map V.int:=by
 rw [length_map] at hl;apply ext_getElem?
 intro i;by_cases hi:i<vs.length
 ·have hi2:i<xs.length:=by omega
  have q:=hr i vs[i] (.int xs[i]) (getElem?_eq_getElem hi) (by rw [getElem?_map,getElem?_eq_getElem hi2];rfl)
  rw [getElem?_eq_getElem hi,getElem?_map,getElem?_eq_getElem hi2];generalize vs[i]=u at q
  cases q;rfl
 ·rw [getElem?_eq_none (by omega),getElem?_eq_none (by rw [length_map];omega)]
theorem Mj {xs:List Int} (E:EnvOk K H O (List.replicate Γ.length []) H σ Γ) (hf:f Γ=.ok ⟨.leaf,.list (xs.map .int)⟩ Γ1) (q:∀p H',Same H H'->SqL K H' p (xs.map V.int)->Q (.ref p) H'):tE K W f σ H Q:=by
 refine ⟨_,_,_,_,E,?_⟩
 rw [hf];intro v H' G Fs' A
 cases A.own with
 | leaf r=>
  cases r with
  | @lst p vs _ hq hl hr=>
   rw [lK hl hr] at hq;exact q p H' A.same (hid_le.seq hq)
end
theorem yn {H:Hp} {O O':List Addr} (s:∀a∈O,a∈O'):Same (cN H O') (cN H O):=fun b o hb=>by
 unfold cN at hb ⊢
 split at hb
 ·cases hb
 ·rename_i nb
  rw [if_neg fun z=>nb (s b z)]
  exact hb
theorem xU {K:Fg} {O O':List Addr} {H:Hp} {s:Sh} {F:List Addr} {v:V} {d:D} (o:Own K O' H s F v d):s.isView=false->(∀a∈F,a∉O)->(∀a∈O,a∈O')->Rep K (cN H O) v d:=by
 induction o with
 | view _=>intro h;cases h
 | leaf r=>intro _ _ h;exact r.mono (yn h)
 | @lst s p vs ds Fs hv hp hl _ _ hi ih=>
  intro _ hf hO;refine .lst (.inl (.inl (wF hp (hf p mem_cons_self)))) hl fun i v d h1 h2=>?_
  have hF:i<Fs.length:=by have:=(List.getElem?_eq_some_iff.mp h2).1;omega
  exact ih i v d Fs[i] h1 h2 (getElem?_eq_getElem hF) hv (fun a ha=>hf a (mem_cons_of_mem _ (List.mem_flatten.mpr ⟨_,getElem_mem hF,ha⟩))) hO
 | @tup ss p vs ds Fs hv hp np hl hl2 hl3 _ hi ih=>
  intro _ hf hO;refine .tup (.inl (.inl (wF hp fun z=>np (hO p z)))) hl fun i v d h1 h2=>?_
  have hd:=(List.getElem?_eq_some_iff.mp h2).1
  have hF:i<Fs.length:=by omega
  have hS:i<ss.length:=by omega
  exact ih i v d Fs[i] ss[i] h1 h2 (getElem?_eq_getElem hF) (getElem?_eq_getElem hS) (hv _ (getElem_mem hS)) (fun a ha=>hf a (List.mem_flatten.mpr ⟨_,getElem_mem hF,ha⟩)) hO
theorem Lz {K:Fg} {H:Hp} {O:List Addr} {σ:St} {Γ Γ1:Ev} {W:XW} {f:F1} {Q:VK} {p:PV} (inH:∀a∈O,H a≠none) (E:EnvOk K H O (List.replicate Γ.length []) H σ Γ) (hf:f Γ=.ok p Γ1) (hv:p.s.isView=false) (q:∀v H',Same H H'->Rep K (cN H' O) v p.d->Q v H'):tE K W f σ H Q:=by
 refine ⟨_,_,_,_,E,?_⟩
 rw [hf];intro v H' G Fs' A
 refine q v H' A.same (xU A.own hv (fun a ha z=>?_) fun a ha=>mem_append_left _ (mem_append_right _ ha))
 rcases A.new a (mem_append_left _ ha) with y | y
 ·rw [Iz] at y;cases y
 ·exact inH a z y
noncomputable abbrev ic:List Str:=["rooms", "places", "room"]
noncomputable abbrev nE:List Str:=["sorted"]
noncomputable def qI (K:Fg):Sp:=fun vs H Q _=>∃(p d:Addr) (xs:List Int) (kvs:List (cV×V)) (h:Int->Option Int),vs=[.ref p,.ref d]/\SqL K H p (xs.map V.int)/\H d=some (.dK kvs)/\(∀k:Int,eI kvs (.inl k)=(h k).map V.int)/\xs.length<64 /\
 ∀l H',Same H H'->H l=none->H' l=some (.lst ((PySem.W.sortI (xs.filterMap h)).map V.int))->Q (.ref l) H'
noncomputable def JD (K:Fg):TS:=xf (zz (nU K) (dW (fG [2] (jm K (b6 0)) (gName 2) (tB (AR (b6 2) (b6 1))) (tQ (b6 1) (b6 2))) lO))
theorem yz {h:Int->Option Int} {xs:List Int} {i:Nat} (hi:i<xs.length):(xs.take (i+1)).filterMap h=(xs.take i).filterMap h++(h xs[i]).toList:=by
 rw [List.take_succ,getElem?_eq_getElem hi,List.filterMap_append]
 cases e:h xs[i]<;>simp [e]
theorem ES {K:Fg} {vs:List V} {H:Hp} {Q:VK} {E:XK} {Qn:St->Hp->Prop} (h:qI K vs H Q E):JD K { nx:=Qn,rt:=Q } (L2.start ic vs) H:=by
 obtain ⟨p,d,xs,kvs,f,rfl,hq,hd,hf,h64,q⟩:=h;refine ⟨.ref p,rfl,p,rfl,⟨_,hq⟩,fun L hL=>?_⟩
 have hbl:bC [2] (L2.start ic [V.ref p,.ref d])=[some (.ref p),some (.ref d),none]:=by
  show bC [2] [some (V.ref p),some (.ref d),none]=_
  simp [bC]
 refine ⟨fun i m ys H2=>m=xs.length-i/\i<=xs.length/\ys=((xs.take i).filterMap f).map V.int/\H2 L=some (.lst ys)/\Same H H2,⟨xs.length,by simp,Nat.zero_le _,by simp,gf,ip hL⟩,?_⟩
 rintro i m ys H2 ⟨rfl,hi,rfl,hLs,sH⟩
 refine ⟨hLs,?_⟩
 have hq2:SqL K H2 p (xs.map V.int):=sH.seq hq
 by_cases hlt:i<xs.length
 case neg=>
  left
  have hie:i=xs.length:=by omega
  subst hie;refine ⟨⟨_,hq2,by rw [length_map];exact Nat.le_refl _⟩,?_⟩
  rw [List.take_of_length_le (Nat.le_refl _)] at hLs;refine ⟨L,xs.filterMap f,rfl,.inl (.inl hLs),Nat.lt_of_le_of_lt (List.length_filterMap_le f xs) h64,fun l hl=>q l _ (sH.trans (ip hl)) (sH.free hl) gf⟩
 case pos=>
  right
  have e1:(xs.map V.int)[i]?=some (.int xs[i]):=by rw [getElem?_map,getElem?_eq_getElem hlt];rfl
  have hb:(1000:Nat)<=sizeLine:=by decide
  refine ⟨⟨_,_,hq2,e1⟩,by rw [length_map];have:=List.length_filterMap_le f (xs.take i);rw [length_take] at this;omega,?_⟩
  rintro v H3 ⟨rfl,hv⟩
  have ev:v=.int xs[i]:=Option.some.inj ((hv _ hq2).symm.trans e1)
  subst ev;rw [hbl];show Ig [some (.ref p),some (.ref d),none] [some (.ref p),some (.ref d),some (.int xs[i])]/\_
  refine ⟨⟨rfl,fun j u h=>?_⟩,?_⟩
  ·match j,h with
   | 0,h=>exact h
   | 1,h=>exact h
   | 2,h=>cases h
   | j+3,h=>cases h
  have g:=DGet.k (k:=Sum.inl xs[i]) (sH _ _ hd)
  rw [hf] at g;refine ⟨.int xs[i],rfl,.ref d,rfl,d,_,rfl,g,_,rfl,?_⟩
  have ft:=yz (h:=f) hlt
  cases e:f xs[i] with
  | none=>
   rw [e] at ft;refine mQ ⟨xs.length-(i+1),by omega,rfl,hlt,by rw [ft];simp,hLs,sH⟩
  | some z=>
   rw [e] at ft g
   refine mP ⟨.ref d,rfl,.int xs[i],rfl,d,.int z,rfl,g,hLs,xs.length-(i+1),by omega,rfl,hlt,by rw [ft];simp,gf,fun c o hc=>?_⟩
   rw [d0 (fun w=>by subst w;rw [hL] at hc;cases hc)]
   exact sH c o hc
end T
namespace KC
open PySem PySem.Spec L2 T PySem.SeqAt
open PyProof.Rows hiding St
noncomputable def lA (i:Nat):List Nat->List (cV×V)
 | []=>[]
 | r::R=>(.inl (r:Int),.int (i:Int))::lA (i+1) R
noncomputable def Cu (R:List Nat) (x:Int):Option Int:=(R.findIdx? fun r:Nat=>decide ((r:Int)=x)).map fun k:Nat=>(k:Int)
theorem IQ {x:Int}:∀(R:List Nat) (i:Nat),eI (lA i R) (.inl x)=(R.findIdx? fun r:Nat=>decide ((r:Int)=x)).map fun k=>V.int ((k+i:Nat):Int)
 | [],i=>rfl
 | r::R,i=>by
  rw [List.findIdx?_cons];by_cases e:(r:Int)=x
  ·rw [decide_eq_true e]
   unfold lA;rw [Ec (by rw [e])]
   simp
  ·rw [decide_eq_false e]
   unfold lA;rw [Eh (fun z=>e (Sum.inl.inj z)),IQ R (i+1)]
   simp only [Bool.false_eq_true,if_false,Option.map_map]
   congr 1
   funext k
   simp
   omega
theorem Cj {R:List Nat} (x:Int):eI (lA 0 R) (.inl x)=(Cu R x).map V.int:=by
 rw [IQ,Cu,Option.map_map];rfl
theorem mK:∀(l:List Nat) (i a:Nat),lA i (l++[a])=lA i l++[(.inl (a:Int),.int ((i+l.length:Nat):Int))]
 | [],i,a=>rfl
 | b::l,i,a=>by
  show (Sum.inl (b:Int),V.int (i:Int))::lA (i+1) (l++[a])=_
  rw [mK l (i+1) a];show _=(Sum.inl (b:Int),V.int (i:Int))::(lA (i+1) l++_)
  rw [length_cons,show i+1+l.length=i+(l.length+1) by omega]
theorem pV:∀(l:List Nat) (i:Nat),(lA i l).length=l.length
 | [],_=>rfl
 | a::l,i=>by show (lA (i+1) l).length+1=_;rw [pV l (i+1)];rfl
noncomputable def DS (R ts:List Nat):List Nat:=(List.range R.length).filter fun k=>ts.contains (R.getD k 0)
noncomputable def DR (w:Wd) (R:List Nat):Wd:=⟨R.length,R.map fun r=>.int (DT w r),R.map w.mks,R.map fun r=>DS R (w.stp r)⟩
theorem HB {R:List Nat} (nd:R.Nodup) {t:Nat} {k:Int}:Cu R (t:Int)=some k↔∃j:Nat,k=(j:Int)/\R[j]?=some t:=by
 unfold Cu;constructor
 ·intro h
  obtain ⟨j,h1,rfl⟩:=Option.map_eq_some_iff.mp h;obtain ⟨hj,h2,_⟩:=List.findIdx?_eq_some_iff_getElem.mp h1
  refine ⟨j,rfl,?_⟩
  rw [getElem?_eq_getElem hj];have:((R[j]:Nat):Int)=(t:Int):=by simpa using h2
  rw [Int.ofNat_inj.mp this]
 ·rintro ⟨j,rfl,h⟩
  obtain ⟨hj,e⟩:=List.getElem?_eq_some_iff.mp h
  refine Option.map_eq_some_iff.mpr ⟨j,List.findIdx?_eq_some_iff_getElem.mpr ⟨hj,by rw [e];simp,fun i hi=>?_⟩,rfl⟩
  have:=(List.nodup_iff_pairwise_ne.mp nd)
  have hne:=List.pairwise_iff_getElem.mp this i j (by omega) hj hi
  rw [e] at hne;simp
  intro z;exact hne (Int.ofNat_inj.mp z)
theorem uJ {R ts:List Nat} (nd:R.Nodup) (rs:ts.Nodup):PySem.W.sortI ((ts.map fun t:Nat=>(t:Int)).filterMap (Cu R))=(DS R ts).map fun k:Nat=>(k:Int):=by
 symm
 refine PySem.W.eq_sortI ?_ ?_
 ·have n1:((DS R ts).map fun k:Nat=>(k:Int)).Nodup:=by
   refine List.pairwise_map.mpr (List.Pairwise.imp (R:=fun a b:Nat=>a≠b) (fun h z=>h (Int.ofNat_inj.mp z)) ?_)
   exact (List.nodup_range).sublist List.filter_sublist
  have n2:((ts.map fun t:Nat=>(t:Int)).filterMap (Cu R)).Nodup:=by
   rw [List.filterMap_map];refine List.Pairwise.filterMap _ (fun a b hab x hx y hy=>?_) rs
   intro z;subst z;obtain ⟨j,e1,e2⟩:=(HB nd).mp hx;obtain ⟨j',e3,e4⟩:=(HB nd).mp hy;rw [e1] at e3;rw [<-Int.ofNat_inj.mp e3,e2] at e4;exact hab (Option.some.inj e4)
  refine (List.perm_ext_iff_of_nodup n1 n2).mpr fun x=>?_
  rw [List.filterMap_map,List.mem_filterMap,List.mem_map];constructor
  ·rintro ⟨k,hk,rfl⟩
   obtain ⟨h1,h2⟩:=List.mem_filter.mp hk;have h1:=List.mem_range.mp h1
   have e:R.getD k 0=R[k]:=by rw [getD_eq_getElem?_getD,getElem?_eq_getElem h1];rfl
   rw [e] at h2;exact ⟨R[k],List.contains_iff_mem.mp h2,(HB nd).mpr ⟨k,rfl,getElem?_eq_getElem h1⟩⟩
  ·rintro ⟨t,ht,h⟩
   obtain ⟨j,rfl,h2⟩:=(HB nd).mp h;obtain ⟨hj,e⟩:=List.getElem?_eq_some_iff.mp h2
   refine ⟨j,List.mem_filter.mpr ⟨List.mem_range.mpr hj,List.contains_iff_mem.mpr ?_⟩,rfl⟩
   rw [getD_eq_getElem?_getD,h2];exact ht
 ·rw [List.pairwise_map]
  exact ((List.pairwise_lt_range).sublist List.filter_sublist).imp fun h=>by omega
theorem Lp:∀{l m:List Nat},l.Nodup->(∀x∈l,x∈m)->l.length<=m.length
 | [],_,_,_=>Nat.zero_le _
 | a::l,m,h,hm=>by
  have ha:=hm a mem_cons_self
  obtain ⟨h1,h2⟩:=List.nodup_cons.mp h;have:=Lp (m:=m.erase a) h2 fun x hx=>(List.mem_erase_of_ne (fun z:x=a=>h1 (z▸hx))).mpr (hm x (mem_cons_of_mem _ hx))
  rw [List.length_erase_of_mem ha] at this;have:=List.length_pos_of_mem ha
  rw [length_cons];omega
theorem L8 {l:List Nat} {n:Nat} (h:l.Nodup) (hx:∀x∈l,x<n):l.length<=n:=by
 have:=Lp (m:=List.range n) h fun x hx'=>List.mem_range.mpr (hx x hx')
 rwa [List.length_range] at this
noncomputable abbrev ig:List Str:=["world", "rooms", "places", "place", "room", "owners", "marks", "steps"]
noncomputable abbrev oX:List Str:=["enumerate", "list", "places_of"]
noncomputable abbrev zO:F1:=aN .leaf 4 (b9 (af 1)) bD (av (av (af 0) (eK (.int 0))) (af 4))
noncomputable abbrev zP:F1:=aN .leaf 4 (b9 (af 1)) bD (et (av (av (af 0) (eK (.int 1))) (af 4)))
noncomputable abbrev uX:F1:=av (av (af 0) (eK (.int 2))) (af 4)
noncomputable def JE (K:Fg):L2.TS:=
 gS (kE tP (gName 2)) (gS (xi (zW K (dW (b6 1) lO)) (Ga K 2 (vA (gName 3) (vA (gName 4) Gb))) (zD (b6 2) (b6 4) (b6 3)))
 (gS (kE (tE K W0 zO) (gName 5)) (gS (kE (tE K W0 zP) (gName 6))
 (gS (fun D σ H=>fG [4] (jm K (b6 1)) (gName 4) pb (lP (qI K) [] L2.E0 (dW (tE K W0 uX) (dW (b6 2) lO))) σ H fun v H'=>D.nx (σ.set 7 (some v)) H')
 (xf (AO (dW (b6 5) (dW (b6 6) (dW (b6 7) lO)))))))))
structure sy (w:Wd) (R:List Nat):Prop where
 ok:w.Ok
 nd:R.Nodup
 lt:∀r∈R,r<w.n
 len:R.length<=60
 rs:∀r,r<w.n->(w.stp r).Nodup
noncomputable abbrev GP (w:Wd) (R:List Nat) (x4:Option PV):Ev:=[some ⟨.leaf,w.enc⟩,some ⟨.leaf,iU R⟩,none,none,x4,none,none,none]
theorem CT {w:Wd} {R:List Nat} (h:sy w R):zO (GP w R none)=.ok ⟨.lst .leaf,.list (R.map fun r=>.int (DT w r))⟩ (GP w R none):=
 DM rm R (fun r=>⟨.leaf,.int (DT w r)⟩) (st:=true) (eB (s:=.leaf) (aD rfl) rfl) (by simp) rfl (by have:=h.len;omega) fun r hr=>⟨BR h.ok rfl (aD rfl) (h.lt r hr),rfl⟩
theorem CU {w:Wd} {R:List Nat} (h:sy w R):zP (GP w R none)=.ok ⟨.lst .leaf,.list ((R.map w.mks).map tD)⟩ (GP w R none):=by
 have e:=DM (Γ:=GP w R none) (s:=.leaf) (i:=4) (fi:=b9 (af 1)) (fe:=et (av (av (af 0) (eK (.int 1))) (af 4))) rm R (fun r=>⟨.lst .leaf,tD (w.mks r)⟩) (st:=true) (eB (s:=.leaf) (aD rfl) rfl) (by simp) rfl (by have:=h.len;omega) fun r hr=>⟨tw (Cc h.ok rfl (aD rfl) (h.lt r hr)) rfl,rfl⟩
 rw [map_map];exact e
theorem qQ {K:Fg} {H:Hp} {O:List Addr} {vs:List V} {w:Wd} {R:List Nat} {Q:VK} {Qn:St->Hp->Prop} (h:sy w R) (nd:O.Nodup) (inH:∀a∈O,H a≠none) (rs:Reps K (cN H O) vs [w.enc,iU R])
  (q:∀v H' G,RetOk K H O ⟨.leaf,(DR w R).enc⟩ v H' G->Q v H'):JE K { nx:=Qn,rt:=Q } (L2.start ig vs) H:=by
 have hvl:vs.length=2:=rs.1
 match vs,hvl,rs with
 | [v0,v1],_,rs=>
 have r0:=rs.2 0 v0 _ rfl rfl
 have r1:=rs.2 1 v1 _ rfl rfl
 have inS:∀{H'},Same H H'->∀a∈O,H' a≠none:=fun {H'} s a ha=>by
  cases e:H a with
  | none=>exact absurd e (inH a ha)
  | some o=>rw [s a o e];exact Option.some_ne_none _
 have mono:∀{H'},Same H H'->Same (cN H O) (cN H' O):=fun s=>sF s fun a ha=>.inl ha
 have EE:∀(H':Hp) (σ:St),Same H H'->σ.length=8->σ[0]?=some (some v0)->σ[1]?=some (some v1)->∀x4:Option Nat,(∀r,x4=some r->σ[4]?=some (some (.int (r:Int))))->EnvOk K H' O (List.replicate (GP w R (x4.map fun r=>(⟨.leaf,rm r⟩:PV))).length []) H' σ (GP w R (x4.map fun r=>(⟨.leaf,rm r⟩:PV))):=fun H' σ s l s0 s1 x4 s4=>by
  refine Kr nd (inS s) l fun i x hx=>?_
  match i,hx with
  | 0,hx=>cases hx;exact ⟨rfl,_,s0,r0.mono (mono s)⟩
  | 1,hx=>cases hx;exact ⟨rfl,_,s1,r1.mono (mono s)⟩
  | 4,hx=>
   cases x4 with
   | none=>cases hx
   | some r=>cases hx;exact ⟨rfl,_,s4 r rfl,.int r⟩
  | 2,hx=>cases hx
  | 3,hx=>cases hx
  | 5,hx=>cases hx
  | 6,hx=>cases hx
  | 7,hx=>cases hx
  | i+8,hx=>cases hx
 cases r1 with
 | @lst pr ws _ hqr hl hr=>
 have ews:ws=R.map fun r:Nat=>V.int (r:Int):=by
  have:=lK (xs:=R.map fun r:Nat=>(r:Int)) (by rw [map_map];exact hl) (by rw [map_map];exact hr)
  rw [this,map_map];rfl
 subst ews;have sqR:∀{H'},Same H H'->SqL K H' pr (R.map fun r:Nat=>V.int (r:Int)):=fun s=>s.seq (hid_le.seq hqr)
 have hlen:=h.len
 have hbz:(1000:Nat)<=sizeLine:=by decide
 intro d hd;have sd:Same H (bU H d (.dK [])):=ip hd
 refine ⟨_,rfl,pr,rfl,⟨_,sqR sd⟩,fun k m σ' H'=>m=R.length-k/\k<=R.length/\(∃x3 x4,σ'=[some v0,some (.ref pr),some (.ref d),x3,x4,none,none,none])/\H' d=some (.dK (lA 0 (R.take k)))/\Same H H',⟨R.length,by simp,Nat.zero_le _,⟨none,none,rfl⟩,gf,sd⟩,?_⟩
 rintro k m σ' H' ⟨rfl,hk,⟨x3,x4,rfl⟩,hD,sH⟩
 by_cases hlt:k<R.length
 case pos=>
  right
  have e1:(R.map fun r:Nat=>V.int (r:Int))[k]?=some (.int (R[k]:Int)):=by rw [getElem?_map,getElem?_eq_getElem hlt];rfl
  refine ⟨⟨_,_,sqR sH,e1⟩,fun σ2 H2=>(∃x3 x4,σ2=[some v0,some (.ref pr),some (.ref d),x3,x4,none,none,none])/\H2 d=some (.dK (lA 0 (R.take (k+1))))/\Same H H2,fun σ2 H2 q2=>⟨R.length-(k+1),by omega,rfl,hlt,q2⟩,?_⟩
  rintro x H2 ⟨T,v,rfl,hT,rfl,hv⟩
  have ev:v=.int (R[k]:Int):=Option.some.inj ((hv _ (sqR sH)).symm.trans e1)
  subst ev;have hdT:d≠T:=fun z=>by rw [<-z,hD] at hT;cases hT
  have sT:Same H (bU H' T (.tup [.int (k:Int),.int (R[k]:Int)])):=sH.trans (ip hT)
  refine ⟨T,_,rfl,.inl (.inl gf),rfl,_,_,rfl,_,_,rfl,rfl,?_⟩
  have hD2:bU H' T (.tup [.int (k:Int),.int (R[k]:Int)]) d=some (.dK (lA 0 (R.take k))):=by rw [d0 hdT];exact hD
  have hnone:eI (lA 0 (R.take k)) (.inl (R[k]:Int))=none:=by
   rw [IQ,Option.map_eq_none_iff,List.findIdx?_eq_none_iff];intro x hx;have hx':x≠R[k]:=fun z=>by
    obtain ⟨i,hi,e⟩:=List.getElem_of_mem hx;rw [length_take] at hi;rw [List.getElem_take] at e;have:=List.pairwise_iff_getElem.mp (List.nodup_iff_pairwise_ne.mp h.nd) i k (by omega) hlt (by omega)
    exact this (e.trans z)
   simp
   omega
  refine ⟨_,rfl,_,rfl,_,rfl,d,_,rfl,DPut.k (k:=Sum.inl (R[k]:Int)) hD2 (by rw [pV,length_take];omega),⟨_,_,rfl⟩,?_,fun c o hc=>?_⟩
  ·rw [gf,uE _ hnone,List.take_succ,getElem?_eq_getElem hlt]
   show _=some (HO.dK (lA 0 (R.take k++[R[k]])))
   rw [mK,length_take,Nat.min_eq_left (by omega),Nat.zero_add]
  ·rw [d0 (fun z=>by subst z;rw [hd] at hc;cases hc)]
   exact sT c o hc
 case neg=>
  left
  refine ⟨⟨_,sqR sH,by rw [length_map];omega⟩,?_⟩
  rw [List.take_of_length_le (by omega)] at hD
  clear hk hlt;refine Lz (inS sH) (EE H' _ sH rfl rfl rfl none (fun _ z=>nomatch z)) (CT h) rfl fun v5 H5 s5 p5=>?_
  refine Lz (inS (sH.trans s5)) (EE H5 _ (sH.trans s5) rfl rfl rfl none (fun _ z=>nomatch z)) (CU h) rfl fun v6 H6 s6 p6=>?_
  have s06:Same H H6:=(sH.trans s5).trans s6
  have hD6:H6 d=some (.dK (lA 0 R)):=s6 _ _ (s5 _ _ hD)
  refine ⟨_,rfl,pr,rfl,⟨_,sqR s06⟩,fun L hL=>?_⟩
  have hbl:bC [4] [some v0,some (V.ref pr),some (.ref d),x3,x4,some v5,some v6,none]=[some v0,some (.ref pr),some (.ref d),x3,none,some v5,some v6,none]:=by simp [bC]
  refine ⟨fun i m ys H2=>m=R.length-i/\i<=R.length/\(∃ls:List Addr,ys=ls.map V.ref/\ls.length=i/\∀(j:Nat) l,ls[j]?=some l->l≠L/\H6 l=none/\H2 l=some (.lst ((DS R (w.stp (R.getD j 0))).map fun k:Nat=>V.int (k:Int))))/\H2 L=some (.lst ys)/\Same H6 H2,⟨R.length,by simp,Nat.zero_le _,⟨[],rfl,rfl,fun j l z=>by simp at z⟩,gf,ip hL⟩,?_⟩
  rintro i m ys H2 ⟨rfl,hi,⟨ls,rfl,hll,hls⟩,hLs,s2⟩
  refine ⟨hLs,?_⟩
  have s02:Same H H2:=s06.trans s2
  by_cases hlt2:i<R.length
  case pos=>
   right
   have e1:(R.map fun r:Nat=>V.int (r:Int))[i]?=some (.int (R[i]:Int)):=by rw [getElem?_map,getElem?_eq_getElem hlt2];rfl
   refine ⟨⟨_,_,sqR s02,e1⟩,by rw [length_map];omega,?_⟩
   rintro v H3 ⟨rfl,hv⟩
   have ev:v=.int (R[i]:Int):=Option.some.inj ((hv _ (sqR s02)).symm.trans e1)
   subst ev;rw [show ([some v0,some (V.ref pr),some (V.ref d),x3,x4,none,none,none].set 5 (some v5)).set 6 (some v6)=[some v0,some (V.ref pr),some (.ref d),x3,x4,some v5,some v6,none] from rfl,hbl]
   show Ig [some v0,some (.ref pr),some (.ref d),x3,none,some v5,some v6,none] [some v0,some (.ref pr),some (.ref d),x3,some (.int (R[i]:Int)),some v5,some v6,none]/\_
   refine ⟨⟨rfl,fun j u hu=>?_⟩,?_⟩
   ·match j,hu with
    | 0,hu=>exact hu
    | 1,hu=>exact hu
    | 2,hu=>exact hu
    | 3,hu=>exact hu
    | 4,hu=>cases hu
    | 5,hu=>exact hu
    | 6,hu=>exact hu
    | 7,hu=>exact hu
    | j+8,hu=>cases hu
   refine FU ?_
   have hRi:R[i]<w.n:=h.lt _ (getElem_mem hlt2)
   have est:uX (GP w R (some ⟨.leaf,rm R[i]⟩))=.ok ⟨.leaf,.list ((((w.stp R[i]).map fun t:Nat=>(t:Int))).map .int)⟩ (GP w R (some ⟨.leaf,rm R[i]⟩)):=by
    rw [map_map];exact xl h.ok rfl (aD rfl) hRi
   refine Mj (EE _ _ s02 rfl rfl rfl (some R[i]) (fun r hr=>by cases hr;rfl)) est fun p3 H3 s3 q3=>?_
   have lst:(w.stp R[i]).length<64:=by
    have:=h.rs _ hRi
    have l1:(w.stp R[i]).length<=w.n:=by
     exact L8 (h.rs _ hRi) fun x hx=>h.ok.stp_lt hx
    have:=h.ok.h24
    omega
   refine ⟨_,rfl,p3,d,(w.stp R[i]).map fun t:Nat=>(t:Int),lA 0 R,Cu R,rfl,q3,s3 _ _ (s2 _ _ hD6),Cj,by rw [length_map];exact lst,fun l H4 s4 hl4 hl=>?_⟩
   rw [uJ h.nd (h.rs _ hRi),map_map] at hl;have hL3:H3 L=some (.lst (ls.map V.ref)):=s3 _ _ hLs
   have hL4:H4 L=some (.lst (ls.map V.ref)):=s4 _ _ hL3
   have hlL:l≠L:=fun z=>by rw [z,hL3] at hl4;cases hl4
   have hl6:H6 l=none:=(s2.trans s3).free hl4
   refine ⟨hL4,R.length-(i+1),by omega,rfl,hlt2,⟨ls++[l],by simp,by rw [length_append,hll];rfl,fun j l' hj=>?_⟩,gf,fun c o hc=>?_⟩
   ·by_cases hj2:j<ls.length
    ·rw [getElem?_append_left hj2] at hj
     obtain ⟨a1,a2,a3⟩:=hls j l' hj
     refine ⟨a1,a2,?_⟩
     rw [d0 a1];exact s4 _ _ (s3 _ _ a3)
    ·have hje:j=ls.length:=by
      have:=(List.getElem?_eq_some_iff.mp hj).1
      rw [length_append,length_singleton] at this;omega
     subst hje;rw [getElem?_append_right (Nat.le_refl _),Nat.sub_self] at hj
     cases hj;refine ⟨hlL,hl6,?_⟩
     rw [d0 hlL,hll,getD_eq_getElem?_getD,getElem?_eq_getElem hlt2];exact hl
   ·rw [d0 (fun z=>by subst z;rw [hL] at hc;cases hc)]
    exact s4 _ _ (s3 _ _ (s2 _ _ hc))
  case neg=>
   left
   have hie:i=R.length:=by omega
   subst hie;refine ⟨⟨_,sqR s02,by rw [length_map];omega⟩,?_⟩
   refine ⟨_,rfl,_,rfl,_,rfl,by show 3<=sizeLine;decide,fun t ht=>?_⟩
   have sT:Same H2 (bU H2 t (.tup [v5,v6,.ref L])):=ip ht
   have nO:∀{a},H6 a=none->a∉O:=fun {a} ha z=>inS s06 a z ha
   have tO:t∉O:=fun z=>inS s02 t z ht
   refine q _ _ [] ⟨s02.trans sT,(fun _ z=>nomatch z),(fun _ z=>nomatch z),nodup_nil,.leaf (.tup (vs:=[v5,v6,.ref L]) (.inl (.inl (wF gf tO))) rfl fun j v dd e1 e2=>?_),rfl⟩
   have m5:Same (cN H5 O) (cN (bU H2 t (.tup [v5,v6,.ref L])) O):=sF ((s6.trans s2).trans sT) fun a ha=>.inl ha
   have m6:Same (cN H6 O) (cN (bU H2 t (.tup [v5,v6,.ref L])) O):=sF (s2.trans sT) fun a ha=>.inl ha
   match j,e1,e2 with
   | 0,e1,e2=>cases e1;cases e2;exact p5.mono m5
   | 1,e1,e2=>cases e1;cases e2;exact p6.mono m6
   | 2,e1,e2=>
    cases e1
    cases e2;refine .lst (.inl (.inl (wF (sT _ _ hLs) (nO hL)))) ?_ ?_
    ·simp [DR,hll]
    ·intro i' v' d' f1 f2
     have hi':i'<ls.length:=by
      have:=(List.getElem?_eq_some_iff.mp f1).1
      rwa [length_map] at this
     rw [getElem?_map,getElem?_eq_getElem hi'] at f1
     cases f1;obtain ⟨a1,a2,a3⟩:=hls i' _ (getElem?_eq_getElem hi')
     have hR:i'<R.length:=by omega
     have ed:d'=iU (DS R (w.stp (R.getD i' 0))):=by
      simp only [DR,map_map] at f2
      rw [getElem?_map,getElem?_eq_getElem hR] at f2
      cases f2;rw [getD_eq_getElem?_getD,getElem?_eq_getElem hR];rfl
     rw [ed];refine .lst (.inl (.inl (wF (sT _ _ a3) (nO a2)))) (by simp) fun i3 v3 d3 g1 g2=>?_
     rw [getElem?_map] at g1 g2
     cases e:(DS R (w.stp (R.getD i' 0)))[i3]? with
     | none=>rw [e] at g1;cases g1
     | some z=>rw [e] at g1 g2;cases g1;cases g2;exact .int _
   | j+3,e1,e2=>cases e1
theorem pB {R S:List Nat} (h:iU R=iU S):R=S:=(map_inj_right (f:=rm) fun a b e=>Int.ofNat_inj.mp (PyData.int.inj e)).mp (PyData.list.inj h)
theorem xa {R S:List Str} (h:tD R=tD S):R=S:=(map_inj_right (f:=PyData.str) fun a b e=>PyData.str.inj e).mp (PyData.list.inj h)
theorem yC {w v:Wd} (ok:w.Ok) (ov:v.Ok) (h:w.enc=v.enc):w=v:=by
 have h:=PyData.tuple.inj h
 injection h with h1 h
 injection h with h2 h
 injection h with h3 _
 have h1:=PyData.list.inj h1
 have h2:=(map_inj_right (f:=tD) fun a b e=>xa e).mp (PyData.list.inj h2)
 have h3:=(map_inj_right (f:=iU) fun a b e=>pB e).mp (PyData.list.inj h3)
 have hn:w.n=v.n:=by rw [<-ok.ls,<-ov.ls,h3]
 cases w
 cases v
 cases hn
 cases h1
 cases h2
 cases h3;rfl
noncomputable def LP (ds:List PySem.PyData):Prop:=∃x:Wd×List Nat,ds=[x.1.enc,iU x.2]/\sy x.1 x.2
open Classical in
noncomputable def cw (ds:List PySem.PyData):bA:=if h:LP ds then .ok ⟨.leaf,(DR h.choose.1 h.choose.2).enc⟩ else .no
theorem oE {w:Wd} {R:List Nat} (h:sy w R):cw [w.enc,iU R]=.ok ⟨.leaf,(DR w R).enc⟩:=by
 have H:LP [w.enc,iU R]:=⟨(w,R),rfl,h⟩
 unfold cw;rw [dif_pos H];obtain ⟨e,o⟩:=H.choose_spec;injection e with e1 e
 injection e with e2 _
 rw [<-yC h.ok o.ok e1,<-pB e2]
theorem mJ {ds:List PySem.PyData} {p:PV} (h:cw ds=.ok p):∃w R,ds=[w.enc,iU R]/\sy w R/\p=⟨.leaf,(DR w R).enc⟩:=by
 unfold cw at h;split at h
 ·rename_i H
  cases h;obtain ⟨e,o⟩:=H.choose_spec;exact ⟨_,_,e,o,rfl⟩
 ·cases h
noncomputable def wz (P:Program) (w:World) (K:Fg) (mg:Str->Option Value) (base:Heap) (j:Nat):Prop:=
 ∃(f:Addr) (fd:FuncData) (ps:List Str),dk P w K mg base iY j f fd ps (qI K)/\mg "places_of"=some (.ref f)/\PySem.W.keepIn K (.ref f)=true/\Binds K fd ps []
theorem Fz {P:Program} {w:World} {K:Fg} {mg:Str->Option Value} {base:Heap} {f:Addr} {fd:FuncData} {st:Stmt} {k:Nat} (F:Fun K "places_of" "places_of" st f fd) (hm:mg "places_of"=some (.ref f)) (b:Binds K fd ["rooms", "places"] [])
  (sc:cK ic ["rooms", "places"] (aI st)) {vs cs ls lo gs:List Nat} (cp:kr ic nE vs cs ls lo gs (aI st)=true) (nm:wK ic nE=true) (n_sorted:mg "sorted"=none)
  (bd:∀X:Cx,Cp X ic nE vs cs ls lo gs->Rm X->X.mg "sorted"=none->PSs X (bE st) (JD X.K)):wz P w K mg base (k+1):=by
 refine ⟨f,fd,["rooms", "places"],F.ok sc (fun vs H Q E h=>?_) (fun cdv A outer s H vs Q E hr h=>?_),hm,F.kp,b⟩
 ·obtain ⟨p,d,xs,kvs,g,rfl,_⟩:=h
  rfl
 ·exact ⟨_,bd _ (Cp.fn cp nm) hr.units n_sorted,ES h⟩
theorem FA {P:Program} {w:World} {K:Fg} {mg:Str->Option Value} {base:Heap} {f:Addr} {fd:FuncData} {st:Stmt} {j k:Nat} (F:Fun K "placed" "placed" st f fd) (hm:mg "placed"=some (.ref f)) (b:Binds K fd ["world", "rooms"] [])
  {vs cs ls lo gs:List Nat} (sc:cK ig ["world", "rooms"] (aI st)) (cp:kr ig oX vs cs ls lo gs (aI st)=true) (nm:wK ig oX=true) (n_enum:mg "enumerate"=none) (n_list:mg "list"=none)
  (c:wz P w K mg base j) (hj:decide (j<=k)=true)
  (bd:∀X:Cx,Cp X ig oX vs cs ls lo gs->Rm X->PassesOwn (model X.prog X.w) X.A X.env X.xe->X.mg "enumerate"=none->X.mg "list"=none->(∃(k:Nat) (f:Addr) (fd:FuncData) (ps:List Str),dk X.prog X.w X.K X.mg X.base iY k f fd ps (qI X.K)/\Room k X.A/\X.mg "places_of"=some (.ref f)/\PySem.W.keepIn X.K (.ref f)=true/\Binds X.K fd ps [])->PSs X (bE st) (JE X.K)):DefOk P w K mg base (k+1) "placed" 2 cw:=by
 refine ⟨f,fd,["world", "rooms"],F.ok sc (fun vs H Q E h=>h.1) (fun cdv A outer s H vs Q E hr h=>?_),hm,F.kp,b⟩
 obtain ⟨hl,O,ds,nd,inH,rs,w'⟩:=h
 cases e:cw ds with
 | er c=>rw [e] at w';exact w'.elim
 | no=>rw [e] at w';exact w'.elim
 | ok p=>
  rw [e] at w';obtain ⟨wd,R,rfl,h1,rfl⟩:=mJ e;obtain ⟨f',fd',ps',F',a',b',c'⟩:=c;exact ⟨_,bd _ (Cp.fn cp nm) hr.units PassesOwn.never n_enum n_list ⟨j,f',fd',ps',F',hr.mono (of_decide_eq_true hj),a',b',c'⟩,qQ h1 nd inH rs w'⟩
end KC
namespace T
open PySem PySem.Spec L2
open PyProof.Rows hiding St
theorem iE {X:Cx} {N gl:List Str} {vs cs ls lo gs:List Nat} {W:XW} {pos:Pos} {scope:Scope} {x y:Str} {px pos' spos:Pos} {iter elt:Expr} {ifs:List Expr} {fi:FI} {fe:F1} {fc:FB} {vs' cs' lo' gs':List Nat} (S:Cp X N gl vs cs ls lo gs) (j:Nat) (s:Sh) (i:Nat) (hy:N[j]?=some y) (hyl:lo.contains j=true) (hx:N[i]?=some x)
  (hsl:(pos'.line==pos.line)=true) (hsn:(scope.names.any fun (n,k)=>n==y&&(k==NameKind.local||k==NameKind.cell))=false) (h1:gO N i cs scope=true) (h2:kr N gl vs' cs' [i] lo' gs' scope=true)
  (hi':PI X (.Name x px) iter (tI X.K W fi)) (hc:wO X N gl vs' cs' [i] lo' gs' fun Y=>PF Y ifs (tT Y.K W0 fc)) (he:wO X N gl vs' cs' [i] lo' gs' fun Y=>PE Y elt (tE Y.K W0 fe)) (hs:∀x,foldedSetIterable iter X.env x=pure x) :
  PS X (.Assign [.Name y pos'] (.ListComp elt [⟨.Name x px,iter,ifs,0⟩] scope pos) spos) (kE (tE X.K W (aN s i fi fc fe)) (gName j)):=by
 have B:=fun cells C s₀ H₀ ex=>S.blk h2 cells C s₀ H₀ ex
 have L:=fun cells C s₀ H₀ ex=>(B cells C s₀ H₀ ex).loc i x hx (by simp)
 have hN:X.N.Nodup:=by rw [S.hN];exact S.nd
 have hx':X.N[i]?=some x:=by rw [S.hN];exact hx
 exact dq (Jd hN (by rw [S.hN];exact hy) (S.loo j y hy hyl) (Hz S h1) S.calm hi' (fun cells C s₀ H₀ ex=>wG (X:=blk X scope cells C s₀ H₀ ex) (i:=i) hN hx' (L cells C s₀ H₀ ex).1 (L cells C s₀ H₀ ex).2) (fun cells C s₀ H₀ ex=>hc _ (B cells C s₀ H₀ ex) ⟨rfl,rfl,rfl,rfl,rfl,rfl⟩) (fun cells C s₀ H₀ ex=>he _ (B cells C s₀ H₀ ex) ⟨rfl,rfl,rfl,rfl,rfl,rfl⟩)
  (Je S.kind (S.loo j y hy hyl) hsl hsn) hs) fun D σ H h=>Hv h
end T
namespace KC
open PySem PySem.Spec L2 T
open PyProof.Rows hiding St
noncomputable def cY:Stmt:=KZ 71
noncomputable def eT:Stmt:=KZ 72
theorem EK:cK ic ["rooms", "places"] (aI cY):=⟨rfl,rfl,rfl,by decide +kernel,rfl,by decide +kernel,by decide +kernel⟩
theorem Gv:kr ic nE [0,1] [1] [0,1] [0] [0] (aI cY)=true:=by kernel_rfl
theorem FD:wK ic nE=true:=by kernel_rfl
theorem EL:cK ig ["world", "rooms"] (aI eT):=⟨rfl,rfl,rfl,by decide +kernel,rfl,by decide +kernel,by decide +kernel⟩
theorem Gx:kr ig oX [0,1,2,3,4,5,6,7] [0,2] [0,1,2,3,4,5,6,7] [1,3,4,5,6,7] [0] (aI eT)=true:=by kernel_rfl
theorem FE:wK ig oX=true:=by kernel_rfl
theorem pS {X:Cx} {N gl:List Str} {vs cs ls lo gs:List Nat} (S:Cp X N gl vs cs ls lo gs) (i:Nat) (x:Str) (pos:Pos) (e:N[i]?=some x) (hi:vs.contains i=true):PE X (.Name x pos) (b6 i):=by
 have m:=S.nm x (mem_of_getElem? e)
 exact wB (by rw [S.hN];exact e) (S.vis i x e hi) m.1 m.2
theorem xN {X:Cx} {scope:Scope} {p1 p2 p3 p4 p5 p6 p7 p8 pos:Pos} (S:Cp X ic nE [0,1] [1] [0,1] [0] [0]) (hu:X.A.units+1<cLine) (h1:lp ic [2] [1] scope=true) (h2:kr ic nE [1,2] [1] [2] [] [] scope=true) (hs:∀x,foldedSetIterable (.Name "rooms" p5) X.env x=pure x) :
  PE X (.ListComp (.Subscript (.Name "places" p1) (.Name "room" p2) p3) [⟨.Name "room" p4,.Name "rooms" p5,[.Compare (.Name "room" p6) [.In] [.Name "places" p7] p8],0⟩] scope pos) (fG [2] (jm X.K (b6 0)) (gName 2) (tB (AR (b6 2) (b6 1))) (tQ (b6 1) (b6 2))):=by
 have hN:X.N.Nodup:=by rw [S.hN];exact S.nd
 have B:=fun cells C s₀ H₀ ex=>S.blk h2 cells C s₀ H₀ ex
 exact pN (kx S h1) S.calm (Hu (pS S 0 _ _ rfl rfl))
  (fun cells C s₀ H₀ ex=>wG (X:=L2.blk X scope cells C s₀ H₀ ex) (i:=2) hN (by show X.N[2]?=_;rw [S.hN];rfl) ((B cells C s₀ H₀ ex).loc 2 _ rfl rfl).1 ((B cells C s₀ H₀ ex).loc 2 _ rfl rfl).2)
  (fun cells C s₀ H₀ ex=>uL (BC (BQ (X:=L2.blk X scope cells C s₀ H₀ ex) hu (pS (B cells C s₀ H₀ ex) 2 _ _ rfl rfl) (pS (B cells C s₀ H₀ ex) 1 _ _ rfl rfl)) (by with_unfolding_all rfl)))
  (fun cells C s₀ H₀ ex=>xR (X:=L2.blk X scope cells C s₀ H₀ ex) hu (pS (B cells C s₀ H₀ ex) 1 _ _ rfl rfl) (pS (B cells C s₀ H₀ ex) 2 _ _ rfl rfl) (fun _ _=>rfl)) hs
theorem Gz {X:Cx} (S:Cp X ic nE [0,1] [1] [0,1] [0] [0]) (R:Rm X) (n_sorted:X.mg "sorted"=none):PSs X (bE cY) (JD X.K):=by
 have hu:X.A.units+1<cLine:=Nat.lt_of_le_of_lt (by omega) R
 exact Aw (Hi (Dx jt (S.g (j:=0) rfl rfl).1 n_sorted nC (nF (xN S hu (by kernel_rfl) (by kernel_rfl) (fun _=>rfl)) wU (fv rfl)) (S.g (j:=0) rfl rfl).2.2 (S.g (j:=0) rfl rfl).2.1 (fv rfl) rfl))
theorem kP {P:Program} {w:World} {K:Fg} {mg:Str->Option Value} {base:Heap} {f:Addr} {fd:FuncData} {k:Nat} (F:Fun K "places_of" "places_of" cY f fd) (hm:mg "places_of"=some (.ref f)) (b:Binds K fd ["rooms", "places"] []) (n_sorted:mg "sorted"=none):wz P w K mg base (k+1):=
 Fz F hm b EK Gv FD n_sorted fun X S R n=>Gz S R n
noncomputable abbrev LW (X:Cx):Prop:=Cp X ig oX [0,1,2,3,4,5,6,7] [0,2] [0,1,2,3,4,5,6,7] [1,3,4,5,6,7] [0]
noncomputable abbrev LX (X:Cx):Prop:=∃(k:Nat) (f:Addr) (fd:FuncData) (ps:List Str),dk X.prog X.w X.K X.mg X.base iY k f fd ps (qI X.K)/\Room k X.A/\X.mg "places_of"=some (.ref f)/\PySem.W.keepIn X.K (.ref f)=true/\Binds X.K fd ps []
theorem xO {X:Cx} {scope:Scope} {p1 p2 p3 p4 p5 p6 p7 p8 p9 p10 pos' spos pos:Pos} (S:LW X) (c:LX X) (hsl:(pos'.line==pos.line)=true) (hsn:(scope.names.any fun (n,k)=>n==("steps":Str)&&(k==NameKind.local||k==NameKind.cell))=false)
  (h1:lp ig [4] [0,2] scope=true) (h2:kr ig oX [0,2,4] [0,2] [4] [] [2] scope=true) (hs:∀x,foldedSetIterable (.Name "rooms" p9) X.env x=pure x) :
  PS X (.Assign [.Name "steps" pos'] (.ListComp (.Call (.Name "places_of" p1) [.Subscript (.Subscript (.Name "world" p2) (.Constant (.int 2) 0 p3) p4) (.Name "room" p5) p6,.Name "places" p7] [] p8) [⟨.Name "room" p10,.Name "rooms" p9,[],0⟩] scope pos) spos)
   (fun D σ H=>fG [4] (jm X.K (b6 1)) (gName 4) pb (lP (qI X.K) [] L2.E0 (dW (tE X.K W0 uX) (dW (b6 2) lO))) σ H fun v H'=>D.nx (σ.set 7 (some v)) H'):=by
 have hN:X.N.Nodup:=by rw [S.hN];exact S.nd
 have B:=fun cells C s₀ H₀ ex=>S.blk h2 cells C s₀ H₀ ex
 obtain ⟨k,f,fd,ps,F,hr,a1,a2,a3⟩:=c;exact Jd hN (by rw [S.hN];rfl) (S.loo 7 "steps" rfl rfl) (kx S h1) S.calm (Hu (pS S 1 _ _ rfl rfl))
  (fun cells C s₀ H₀ ex=>wG (X:=L2.blk X scope cells C s₀ H₀ ex) (i:=4) hN (by show X.N[4]?=_;rw [S.hN];rfl) ((B cells C s₀ H₀ ex).loc 4 _ rfl rfl).1 ((B cells C s₀ H₀ ex).loc 4 _ rfl rfl).2)
  (fun cells C s₀ H₀ ex=>uM)
  (fun cells C s₀ H₀ ex=>pO (X:=L2.blk X scope cells C s₀ H₀ ex) F hr ((B cells C s₀ H₀ ex).g (j:=2) rfl rfl).1 a1 a2 a3 .nil zN (nF (TQ.Q.p (TQ.w_de_idx (TQ.w_de_idx (TQ.w_cv (B cells C s₀ H₀ ex) 0 rfl rfl) TQ.w_de_int (fun _ _=>rfl)) (TQ.w_cv (B cells C s₀ H₀ ex) 4 rfl rfl) (fun _ _=>rfl))) (nF (pS (B cells C s₀ H₀ ex) 2 _ _ rfl rfl) wU (fv rfl)) (fv rfl)) (by decide) (fv rfl) rfl)
  (Je S.kind (S.loo 7 "steps" rfl rfl) hsl hsn) hs
theorem GC {X:Cx} (S:LW X) (R:Rm X) (hp:PassesOwn (model X.prog X.w) X.A X.env X.xe) (n_enum:X.mg "enumerate"=none) (n_list:X.mg "list"=none) (c:LX X):PSs X (bE eT) (JE X.K):=by
 have hN:X.N.Nodup:=by rw [S.hN];exact S.nd
 have hu:X.A.units+1<cLine:=Nat.lt_of_le_of_lt (by omega) R
 have g:∀(i:Nat) (x:Str),ig[i]?=some x->X.N[i]?=some x:=fun i x e=>by rw [S.hN];exact e
 have lc:∀(i:Nat) (x:Str),ig[i]?=some x->[0,1,2,3,4,5,6,7].contains i=true->Loc X.env.scope x/\(X.fn x=true\/X.env.scope.names.lookup x=some .local):=fun i x e hi=>S.loc i x e hi
 refine sM (D1 hN (g 2 _ rfl) (lc 2 _ rfl rfl).1 uR rfl (lc 2 _ rfl rfl).2) ?_
 refine sM (Iu hp S.calm (xP (S.g (j:=0) rfl rfl).1 n_enum (nF (pS S 1 _ _ rfl rfl) wU (iG rfl)) (iG rfl)) (BI S.calm (mq (wG hN (g 3 _ rfl) (lc 3 _ rfl rfl).1 (lc 3 _ rfl rfl).2) (mq (wG hN (g 4 _ rfl) (lc 4 _ rfl rfl).1 (lc 4 _ rfl rfl).2) xQ))) (Aw (xI hu (pS S 2 _ _ rfl rfl) (pS S 4 _ _ rfl rfl) (pS S 3 _ _ rfl rfl) rfl)) (fun _=>rfl)) ?_
 refine sM (iE (vs':=[0,4]) (cs':=[0]) (lo':=[]) (gs':=[]) S 5 .leaf 4 rfl rfl rfl rfl rfl (by kernel_rfl) (by kernel_rfl) (TQ.Q.p (TQ.w_di_seq (TQ.w_cv S 1 rfl rfl))) (fun _ _ _=>TQ.Q.p TQ.w_df_nil) (fun Y S1 _=>TQ.Q.p (TQ.w_de_idx (TQ.w_de_idx (TQ.w_cv S1 0 rfl rfl) TQ.w_de_int (fun _ _=>rfl)) (TQ.w_cv S1 4 rfl rfl) (fun _ _=>rfl))) (fun _=>rfl)) ?_
 refine sM (iE (vs':=[0,4]) (cs':=[0]) (lo':=[]) (gs':=[1]) S 6 .leaf 4 rfl rfl rfl rfl rfl (by kernel_rfl) (by kernel_rfl) (TQ.Q.p (TQ.w_di_seq (TQ.w_cv S 1 rfl rfl))) (fun _ _ _=>TQ.Q.p TQ.w_df_nil) (fun Y S1 F1=>TQ.Q.p (TQ.w_cb_list S1 1 rfl rfl (F1.n n_list) (TQ.w_de_idx (TQ.w_de_idx (TQ.w_cv S1 0 rfl rfl) TQ.w_de_int (fun _ _=>rfl)) (TQ.w_cv S1 4 rfl rfl) (fun _ _=>rfl)) (iG rfl))) (fun _=>rfl)) ?_
 refine sM (xO S c rfl rfl (by kernel_rfl) (by kernel_rfl) (fun _=>rfl)) ?_
 exact Aw (Hi (uN (nF (pS S 5 _ _ rfl rfl) (nF (pS S 6 _ _ rfl rfl) (nF (pS S 7 _ _ rfl rfl) wU (fv rfl)) (fv rfl)) (fv rfl))))
theorem ro {P:Program} {w:World} {K:Fg} {mg:Str->Option Value} {base:Heap} {f:Addr} {fd:FuncData} {j k:Nat} (F:Fun K "placed" "placed" eT f fd) (hm:mg "placed"=some (.ref f)) (b:Binds K fd ["world", "rooms"] []) (n_enum:mg "enumerate"=none) (n_list:mg "list"=none)
  (c:wz P w K mg base j) (hj:decide (j<=k)=true):DefOk P w K mg base (k+1) "placed" 2 cw:=
 FA F hm b EL Gx FE n_enum n_list c hj fun X S R hp n1 n2 ca=>GC S R hp n1 n2 ca
open PySem.SeqAt
section
variable {w:Wd} {R:List Nat}
theorem AS (ok:w.Ok) {r:Nat} (hr:r<w.n):(w.stp r).Nodup:=by
 obtain ⟨ts,e,_,_,_,hp⟩:=ok.g.s (iU (w.stp r)) (List.mem_map.mpr ⟨w.stp r,by
  unfold Wd.stp;rw [getD_eq_getElem?_getD,getElem?_eq_getElem (by rw [ok.ls];exact hr)]
  exact getElem_mem _,rfl⟩)
 have e:=PyData.list.inj e
 rw [xr] at e;have e:=(map_inj_right (f:=PyData.int) fun a b z=>PyData.int.inj z).mp e
 rw [<-e,List.pairwise_map] at hp;exact hp.imp fun h z=>by omega
end
end KC
namespace T
open PySem PySem.Spec L2
open PyProof.Rows hiding St
noncomputable def zE (P:Program) (w:World) (K:Fg) (td ty tv:TE):TS:=fun D σ H=>tv σ H fun v H1=>td σ H1 fun x H2=>ty σ H2 fun y H3=>∃a b sh kvs ks,x=.ref a/\y=.ref b/\D2 P w K H3 sh a kvs/\K2 K H3 ks b/\ks.map vj=sh/\kvs.length<1000 /\
 ∀ob,D2 P w K (bU H3 a ob) sh a (fV kvs ks v)->D.nx σ (bU H3 a ob)
theorem Ci {K:Fg} {H:Hp} {sh:List Bool} {kvs:List (List It×V)} {xs:List (List It×Addr×Value)} {ks:List It} {v:V} {r:Value} (rv:RelV v r) (q:KX K H sh kvs xs):KX K H sh (kvs.map fun kv=>if kv.1=ks then (kv.1,v) else kv) (xs.map (putAt ks r)):=by
 induction q with
 | nil=>exact .nil
 | @cons p x l l' h _ ih=>
  refine .cons ?_ ih
  unfold putAt;dsimp only;by_cases e:p.1=ks
  ·rw [if_pos e,if_pos (h.1▸e)]
   exact ⟨h.1,h.2.1,h.2.2.1,rv⟩
  ·rw [if_neg e,if_neg (h.1▸e)]
   exact h
section
variable {X:Cx} {o i e f value:Expr} {pos pos' tpos apos cpos:Pos} {td ty tv tx:TE}
theorem xJ (hu:X.A.units+2<cLine) (ho:PE X o td) (hi:PE X i ty) (hv:PE X value tv) (hs:swapsWith value (some (.Subscript o i pos')) pos.line X.env=pure false) :
  PS X (.Assign [.Subscript o i pos'] value pos) (zE X.prog X.w X.K td ty tv):=by
 intro pins s σ H D I h;refine wpAny_Assign_Subscript (bF (hv pins s σ H _ I h) fun r s1 ⟨v,H1,I1,rv,q1⟩=>bF (ho pins s1 σ H1 _ I1 q1) fun u s2 ⟨x,H2,I2,rx,q2⟩=>bF (hi pins s2 σ H2 _ I2 q2) fun iv s3 ⟨y,H3,I3,ry,a,b,sh,kvs,ks,ex,ey,⟨xs,e,rr,nd,hz,hd⟩,k,hsh,hl,q3⟩=>?_) hs
 subst ex ey;obtain rfl:u=Value.ref a:=rx
 obtain rfl:iv=Value.ref b:=ry
 have dd:=vU I3 e rr nd
 have hb:(1000:Nat)<=sizeLine:=by decide
 have is:(eI kvs ks).isSome=(atKey xs ks).isSome:=by
  have q:=(rr.val ks).isSome_eq
  rw [Option.isSome_map] at q;exact q
 refine wpAny_setItem_heap (hsz:=by omega) (EN hu) ⟨pX I3 k,hsh⟩ dd fun h' dd' hs'=>?_
 obtain ⟨q,es,ep,hq,h2,h3,h4,_,h5⟩:=dd'
 have m:∀ys c zs,SqT X.K H3 c zs->SqT X.K (bU H3 a (B9 X.prog X.w sh a ys)) c zs:=fun ys c zs hc=>by
  rcases hc with hc | hc
  ·left
   rcases hc with hc | ⟨o',hc⟩
   ·exact .inl (by rw [d0 (fun z=>by subst z;rw [e] at hc;cases hc)];exact hc)
   ·exact .inr ⟨o',by rw [d0 (fun z=>by subst z;rw [e] at hc;cases hc)];exact hc⟩
  ·exact .inr hc
 have I4:=IP (t':=s3.toks+(kf X.prog X.w sh).draws ks) (ob:=B9 X.prog X.w sh a (storedH xs ks b r)) I3 (by rw [e];exact True.intro) hs' ⟨q,hq⟩ (u7 ⟨q,es,ep,hq,h2,h3,h4⟩)
 refine ⟨σ,_,I4,q3 _ ⟨storedH xs ks b r,gf,?_,h5,?_,hd⟩⟩
 ·unfold fV storedH
  rw [HD,is];split
  ·exact (Ci rv rr).mono (m _)
  ·exact Paired.snoc (rr.mono (m _)) ⟨rfl,hsh,k.mono (m _),rv⟩
 ·unfold storedH
  split
  ·rw [length_map,<-rr.len];omega
  ·rw [length_append,length_singleton,<-rr.len];omega
end
noncomputable def fW (i:Nat) (f1 f2:F1):List PySem.PyData->Ev->dr
 | [],_=>.no
 | d::r,Γ=>match d with
  | .tuple [.int a,.int b]=>(match f1 (Γ.set i (some ⟨.leaf,.tuple [.int a,.int b]⟩)) with
   | .ok _ _=>(match f2 (Γ.set i (some ⟨.leaf,.tuple [.int a,.int b]⟩)) with
    | .ok _ _=>fW i f1 f2 r Γ
    | .er c Γ'=>.er c Γ'
    | .no=>.no)
   | .er c Γ'=>.er c Γ'
   | .no=>.no)
  | _=>.no
noncomputable def DO (i j k:Nat) (f1 f2:F1):FS:=fun Γ=>match Γ[k]?,Γ[j]?,Γ[i]? with
 | some (some ⟨.leaf,.list ds⟩),some none,some none=>if ds.length<=900 then fW i f1 f2 ds Γ else .no
 | _,_,_=>.no
section
variable {P:Program} {w:World} {K:Fg} {W:XW} {σ:St} {H:Hp} {D:eu} {f1 f2:F1} {i j k:Nat} {u:TS}
theorem D2.grow {H':Hp} {sh:List Bool} {a:Addr} {kvs:List (List It×V)} (x:D2 P w K H sh a kvs) (s:Same H H'):D2 P w K H' sh a kvs:=by
 obtain ⟨xs,h1,h2,h3⟩:=x;exact ⟨xs,s _ _ h1,h2.mono fun c xs=>fh s,h3⟩
theorem A8 {v:V} {a b:Int} (r:Rep K H v (.tuple [.int a,.int b])):∃q,v=.ref q/\SqT K H q [.int a,.int b]:=by
 cases r with
 | @tup q vs _ hq hl hr=>
  match vs,hl with
  | [u0,u1],_=>
   have r0:=hr 0 u0 _ rfl rfl
   have r1:=hr 1 u1 _ rfl rfl
   cases r0
   cases r1;exact ⟨q,rfl,hq⟩
theorem A5 {Γ:Ev} {He:Hp} {O:List Addr} (h:bZ K W He O D (DO i j k f1 f2 Γ)):∃ds,Γ[k]?=some (some ⟨.leaf,.list ds⟩)/\Γ[j]?=some none/\Γ[i]?=some none/\ds.length<=900/\bZ K W He O D (fW i f1 f2 ds Γ):=by
 unfold DO at h;split at h
 ·rename_i ds h1 h2 h3
  split at h
  ·rename_i hl
   exact ⟨ds,h1,h2,h3,hl,h⟩
  ·exact h.elim
 ·exact h.elim
theorem EV (hij:i≠j) (hkj:k≠j) (hki:k≠i) (h:tS K W (DO i j k f1 f2) D σ H) :
  gS (kE (tR P w K [false,false]) (gName j)) (gS (xi (jm K (b6 k)) (gName i) (gS (j9 (tE K W f1)) (gS (j9 (tE K W f2)) (zE P w K (b6 j) (b6 i) (tC (.bl true)))))) u) D σ H:=by
 obtain ⟨He,O,Fs,Γ,E,h⟩:=h;obtain ⟨ds,ek,ej,ei,hl9,h⟩:=A5 h;have lti:i<σ.length:=by rw [E.len1];exact (List.getElem?_eq_some_iff.mp ei).1
 have ltj:j<σ.length:=by rw [E.len1];exact (List.getElem?_eq_some_iff.mp ej).1
 obtain ⟨_,v,F,s1,s2,s3⟩:=E.slot k _ ek;have rv:Rep K (cN H (O++Fs.flatten)) v (.list ds):=by
  cases s3 with
  | leaf r=>exact r
 cases rv with
 | @lst pl ws _ hq hl hr=>
 intro p ob hp hD0;have sd:Same H (bU H p ob):=ip hp
 have sqL:∀{H'},Same H H'->SqL K H' pl ws:=fun s=>s.seq (hid_le.seq hq)
 refine ⟨.ref pl,by rw [getElem?_set_ne (Ne.symm hkj)];exact s1,pl,rfl,⟨_,sqL sd⟩,?_⟩
 have Ej:∀{H'},Same H H'->EnvOk K He O Fs H' (σ.set j (some (.ref p))) Γ:=fun s=>wj (E.grow s) ej
 refine vC (xs:=ws) (fun n σ' H'=>(∃x,σ'=(σ.set j (some (.ref p))).set i x)/\Same H H'/\(∃kvs,D2 P w K H' [false,false] p kvs/\kvs.length<=n)/\bZ K W He O D (fW i f1 f2 (ds.drop n) Γ))
  ⟨⟨(σ.set j (some (.ref p)))[i]?.getD none,?_⟩,sd,⟨[],hD0,Nat.le_refl _⟩,h⟩ (fun n σ' H' _ hh=>sqL hh.2.1) (fun n v σ' H' e hh=>?_) fun σ' H' hh=>?_
 ·apply ext_getElem?
  intro m;by_cases hm:i=m
  ·subst hm
   have hl:i<(σ.set j (some (.ref p))).length:=by rw [length_set];exact lti
   rw [getElem?_set_self hl,getElem?_eq_getElem hl];rfl
  ·rw [getElem?_set_ne hm]
 ·obtain ⟨⟨x,rfl⟩,s2,⟨kvs,hD,hk⟩,w⟩:=hh
  have hn:n<ws.length:=(List.getElem?_eq_some_iff.mp e).1
  have hnd:n<ds.length:=by omega
  have hdr:ds.drop n=ds[n]::ds.drop (n+1):=List.drop_eq_getElem_cons hnd
  have rd:=hr n v ds[n] e (getElem?_eq_getElem hnd)
  rw [hdr] at w;generalize ds[n]=d at w rd
  have hii:∃a b,d=.tuple [.int a,.int b]:=by
   unfold fW at w;split at w
   ·exact ⟨_,_,rfl⟩
   ·exact w.elim
  obtain ⟨a,b,rfl⟩:=hii;simp only [fW] at w
  obtain ⟨q,rfl,hsq⟩:=A8 rd;have lti':i<(σ.set j (some (.ref p))).length:=by rw [length_set];exact lti
  show gS _ _ _ (List.set _ i (some (.ref q))) H'
  rw [set_set];have Ei:∀{H2},Same H H2->EnvOk K He O (Fs.set i []) H2 ((σ.set j (some (.ref p))).set i (some (.ref q))) (Γ.set i (some ⟨.leaf,.tuple [.int a,.int b]⟩)):=fun {H2} s=>by
   have own:Own K ([]++O++Fs.flatten) H2 .leaf [] (.ref q) (.tuple [.int a,.int b]):=.leaf (by rw [nil_append];exact rd.mono (sF s fun a ha=>.inl ha))
   exact EnvOk.put (G:=[]) (p:=⟨.leaf,.tuple [.int a,.int b]⟩) (by rw [nil_append];exact Ej s) own rfl (fun _ z=>nomatch z) (by rw [<-(Ej s).len1];exact lti')
  have j2:((σ.set j (some (.ref p))).set i (some (.ref q)))[j]?=some (some (.ref p)):=by rw [getElem?_set_ne hij,getElem?_set_self ltj]
  have i2:((σ.set j (some (.ref p))).set i (some (.ref q)))[i]?=some (some (.ref q)):=getElem?_set_self lti'
  refine ⟨He,O,Fs.set i [],_,Ei s2,?_⟩
  cases e1:f1 (Γ.set i (some ⟨.leaf,.tuple [.int a,.int b]⟩)) with
  | no=>rw [e1] at w;exact w
  | er c Γ'=>rw [e1] at w;exact fun H2 Fs2 _ E2=>w _ H2 Fs2 E2
  | ok p1 Γ1=>
   rw [e1] at w;intro v1 H2 G2 Fs2 A2;refine ⟨He,O,Fs.set i [],_,Ei (s2.trans A2.same),?_⟩
   cases e2:f2 (Γ.set i (some ⟨.leaf,.tuple [.int a,.int b]⟩)) with
   | no=>rw [e2] at w;exact w
   | er c Γ'=>rw [e2] at w;exact fun H3 Fs3 _ E3=>w _ H3 Fs3 E3
   | ok p2 Γ2=>
    rw [e2] at w;intro v2 H3 G3 Fs3 A3;have s3:=s2.trans (A2.same.trans A3.same)
    refine ⟨.ref p,j2,.ref q,i2,p,q,[false,false],kvs,[.inl (.inl a),.inl (.inl b)],rfl,rfl,hD.grow (A2.same.trans A3.same),⟨_,fh (hid_le.trans s3) hsq,.cons rfl (.cons rfl .nil)⟩,rfl,by omega,fun ob' hD'=>⟨⟨_,rfl⟩,?_,⟨_,hD',?_⟩,w⟩⟩
    ·exact fun c o hc=>by
      have hcp:c≠p:=fun z=>by rw [z,hp] at hc;cases hc
      rw [d0 hcp];exact s3 c o hc
    ·have:=Jm kvs [.inl (.inl a),.inl (.inl b)] (V.bl true)
     omega
 ·obtain ⟨_,_,_,w⟩:=hh
  rw [List.drop_eq_nil_of_le (by omega)] at w
  exact w.elim
end
end T
namespace TQ
open PySem PySem.Spec L2 T
open PyProof.Rows hiding St
section
variable {X:Cx} {N gl:List Str} {vs cs ls lo gs:List Nat} {W:XW} {a b c e:Expr} {f1 f2:F1}
theorem w6 (S:Cp X N gl vs cs ls lo gs) (R:Rm X) (hp:PassesOwn (model X.prog X.w) X.A X.env X.xe) (i j k:Nat) {x y z:Str} {bf:List Stmt} {kd:Nat} {p1 p2 p3 p4 p5 p6 p7 p8 p9 p10 p11 q1 q2:Pos} (hx:N[i]?=some x) (hvx:vs.contains i=true) (hlx:ls.contains i=true) (hy:N[j]?=some y) (hvy:vs.contains j=true) (hly:ls.contains j=true) (hz:N[k]?=some z) (hvz:vs.contains k=true) (hij:i≠j) (hkj:k≠j) (hki:k≠i)
  (h1:Q (PE X a (tE X.K W f1))) (h2:Q (PE X b (tE X.K W f2))) (hs1:swapsWith (.Dict [] [] p3) (some (.Name y p1)) p2.line X.env=pure false) (hs2:swapsWith (.Constant (.bool true) kd p11) (some (.Subscript (.Name y p6) (.Name x p7) p8)) p9.line X.env=pure false) (hf:∀x,foldedSetIterable (.Name z p5) X.env x=pure x) (ha:swapsWith a none q1.line X.env=pure false) (hb:swapsWith b none q2.line X.env=pure false) (hr:∃u,PSs X bf u) :
  Q (PSs X (.Assign [.Name y p1] (.Dict [] [] p3) p2::.For (.Name x p4) (.Name z p5) [.Expr a q1,.Expr b q2,.Assign [.Subscript (.Name y p6) (.Name x p7) p8] (.Constant (.bool true) kd p11) p9] [] p10::bf) (tS X.K W (DO i j k f1 f2))):=by
 have hN:X.N.Nodup:=by rw [S.hN];exact S.nd
 have l1:=S.loc i x hx hlx
 have l2:=S.loc j y hy hly
 have hu:X.A.units+2<cLine:=Nat.lt_of_le_of_lt (by omega) R
 obtain ⟨u,hr⟩:=hr;exact ⟨G5 (sM (D1 hN (by rw [S.hN];exact hy) l2.1 (uS [false,false]) hs1 l2.2) (sM (Iu hp S.calm (Hu (Kd S k hz hvz)) (wG hN (by rw [S.hN];exact hx) l1.1 l1.2) (sM (Ea h1.p ha) (sM (Ea h2.p hb) (Aw (xJ hu (Kd S j hy hvy) (Kd S i hx hvx) zM hs2)))) hf) hr)) fun _ _ _=>EV hij hkj hki⟩
end
end TQ
namespace KC.Q5
open PySem PySem.Spec L2 T
open PyProof.Rows hiding St
open KC
noncomputable abbrev xcl:List Str:=["NoMark", "NoRoom", "TooGreat"]
noncomputable def cA:PySem.PyData:=.int 6
noncomputable def me__law_which:Str->bA:=fun c=>yJ 2 (LG c)
noncomputable def jS:FS:=(bO (aO ao (ay (dS true) (af 0) (eK bI))) (dN "NoMark") aP)
noncomputable def d7:List PySem.PyData->bA:=aA 1 jS
noncomputable def jQ:FS:=(bO (cU (aO ao (dn CM iV (eK (.int 0)) (af 1) (bW bt (ae (av (af 0) (eK (.int 0))) ah))))) (dN "NoRoom") aP)
noncomputable def bo:List PySem.PyData->bA:=aA 2 jQ
noncomputable def jq:FS:=(bO (cU (aO bY (aj 2 cZ (ae (af 1) (ae (bW bt (ae (av (af 0) (eK (.int 0))) ah)) ah))))) (dN "NoRoom") aP)
noncomputable def cX:List PySem.PyData->bA:=aA 2 jq
noncomputable def oB:FS:=(ak (aR (aj 1 aF (ae (af 0) ah)))
  (ak (aR (aK 2 bo (ae (af 0) (ae (af 1) ah))))
  (ak fm
  (ak fm
  (ak fm
  fm)))))
noncomputable def gR:List PySem.PyData->bA:=aA 6 oB
noncomputable def rQ:FS:=(ak (aR (aj 1 aF (ae (af 0) ah)))
  (ak (aR (aK 1 d7 (ae (af 1) ah)))
  fm))
noncomputable def gg:List PySem.PyData->bA:=aA 4 rQ
noncomputable def yF:FS:=(ak (aR (aj 1 bG (ae (af 0) ah)))
  (ak (aE false 1 (aj 2 fo (ae (aj 1 dC (ae (af 0) ah)) (ae (eK (.bool true)) ah))))
  (ak (bO (cU (aO bY (aj 1 bj (ae (af 1) ah)))) (dN "TooGreat") aP)
  (aS (af 1)))))
noncomputable def fU:List PySem.PyData->bA:=aA 2 yF
noncomputable def jR:FS:=(ak (aR (aK 2 bo (ae (af 0) (ae (af 1) ah))))
  (aR (aK 2 bo (ae (af 0) (ae (af 2) ah)))))
noncomputable def bX:List PySem.PyData->bA:=aA 3 jR
noncomputable def rP:FS:=(ak (aR (aj 1 aF (ae (af 0) ah)))
  (ak (aR (aK 3 bX (ae (af 0) (ae (af 1) (ae (af 2) ah)))))
  fm))
noncomputable def i4:List PySem.PyData->bA:=aA 3 rP
noncomputable def hZ:FS:=(ak (aR (aj 1 aF (ae (af 0) ah)))
  (ak (eJ 2 (b9 (af 1))
  (aR (aK 3 bX (ae (af 0) (ae (av (af 2) (eK (.int 0))) (ae (av (af 2) (eK (.int 1))) ah))))))
  (ak fm
  (ak fm
  fm))))
noncomputable def cy:List PySem.PyData->bA:=aA 4 hZ
noncomputable def vP:FS:=(ak (aR (aj 1 aF (ae (af 0) ah)))
  (ak (aR (aK 3 bX (ae (af 0) (ae (af 1) (ae (af 2) ah)))))
  (ak (bO (aO ao (ay jz (bW bt (ae (av (af 0) (eK (.int 0))) ah)) (eK cA))) (dN "TooGreat") aP)
  (ak fm
  (ak fm
  (ak fm
  (ak fm
  fm)))))))
noncomputable def fj:List PySem.PyData->bA:=aA 6 vP
noncomputable def jP:FS:=(bO (aO ao (ay jz (af 0) (eK cG))) (dN "TooGreat") aP)
noncomputable def dh:List PySem.PyData->bA:=aA 1 jP
noncomputable def rR:FS:=(ak (aR (aj 1 aF (ae (af 0) ah)))
  (ak (aR (aj 1 aF (ae (af 1) ah)))
  (ak (aE false 2 (bW bt (ae (av (af 0) (eK (.int 0))) ah)))
  (ak (aR (aK 1 dh (ae (ay aW (af 2) (bW bt (ae (av (af 1) (eK (.int 0))) ah))) ah)))
  (ak fm
  (ak fm
  (ak fm
  fm)))))))
noncomputable def i6:List PySem.PyData->bA:=aA 7 rR
noncomputable def mZ:FS:=(ak (aR (aj 1 aF (ae (af 0) ah)))
  (ak (aR (aj 1 aF (ae (af 1) ah)))
  (ak (aE false 2 (bW bt (ae (av (af 1) (eK (.int 0))) ah)))
  (ak (aR (aK 1 dh (ae (ay jM (bW bt (ae (av (af 0) (eK (.int 0))) ah)) (af 2)) ah)))
  (ak fm
  (ak fm
  (ak fm
  (ak fm
  fm))))))))
noncomputable def fT:List PySem.PyData->bA:=aA 9 mZ
noncomputable def yE:FS:=(ak (aR (aj 1 aF (ae (af 0) ah)))
  (ak (aR (aK 2 cX (ae (af 0) (ae (af 1) ah))))
  (ak (aE false 2 (aj 2 cw (ae (af 0) (ae (af 1) ah))))
  (ak (bO (eN (cU (aO bY (af 1))) (aO ao (ay (dS false) (aG .leaf ah) (av (af 2) (eK (.int 2)))))) (dN "NoRoom") aP)
  (aS (af 2))))))
noncomputable def i5:List PySem.PyData->bA:=aA 3 yE
noncomputable def oA:FS:=(ak (aR (aj 1 aF (ae (af 0) ah)))
  (ak (bO (aO ao (ay qf (eo (ae (af 1) ah)) (vL (ae (bW bt (ae (av (af 0) (eK (.int 0))) ah)) ah)))) (dN "NoRoom") aP)
  fm))
noncomputable def gQ:List PySem.PyData->bA:=aA 2 oA
noncomputable def vQ:FS:=(ak (aR (aj 1 aF (ae (af 0) ah)))
  (ak (aR (aK 2 bo (ae (af 0) (ae (af 1) ah))))
  (ak (aR (aK 2 bo (ae (af 0) (ae (af 2) ah))))
  (ak fm
  (ak fm
  (ak fm
  (ak fm
  (ak fm
  fm))))))))
noncomputable def iT:List PySem.PyData->bA:=aA 9 vQ
noncomputable def iO:FS:=(ak (aR (aj 1 aF (ae (af 0) ah)))
  (DO 4 3 1 (aK 2 bo (ae (af 0) (ae (av (af 4) (eK (.int 0))) ah))) (aK 2 bo (ae (af 0) (ae (av (af 4) (eK (.int 1))) ah)))))
noncomputable def cE:List PySem.PyData->bA:=aA 5 iO
noncomputable def r6:FS:=(aS (ay aZ (af 0) (aN .leaf 2 (hU (ae (eK (.int 7)) ah)) bD (yD (ay aZ (af 2) (af 1)) (ay aZ (af 2) (eK (.int 6)))))))
noncomputable def b5:List PySem.PyData->bA:=aA 3 r6
noncomputable def nj:FS:=(aS (bx (ae (kZ (aG .leaf (ae (eK (.int 0)) ah)) (af 0)) (ae (aN .leaf 1 (hU (ae (af 0) ah)) bD (aG .leaf (ae (eK (.str "a")) ah))) (ae (aN .leaf 1 (hU (ae (af 0) ah)) bD (aG .leaf (ae (ay bN (ay aW (af 1) (eK (.int 1))) (af 0)) ah))) ah)))))
noncomputable def bM:List PySem.PyData->bA:=aA 2 nj
noncomputable def jT:FS:=(ak (aE false 4 (bW bt (ae (av (af 1) (eK (.int 0))) ah)))
  (bO (aO ao (ay aZ (af 0) (eK (.int 0)))) (aR (aK 2 gR (ae (af 1) (ae (af 2) ah)))) (bO (aO ao (ay aZ (af 0) (eK (.int 1)))) (aR (aK 2 i5 (ae (af 1) (ae (eo (ae (aG .leaf (ae (eK (.int 0)) (ae (af 2) ah))) ah)) ah)))) (bO (aO ao (ay aZ (af 0) (eK (.int 2)))) (aR (aK 2 i5 (ae (af 1) (ae (av (aG .leaf (ae (aG .leaf (ae (eK (.int 0)) (ae (eK (.int 0)) ah))) (ae (aG .leaf ah) (ae (aG .leaf (ae (ay gSub (af 4) (eK (.int 1))) (ae (eK (.int 0)) (ae (ay gSub (af 4) (eK (.int 1))) ah)))) ah)))) (ay bN (af 3) (eK (.int 3)))) ah)))) (bO (aO ao (ay aZ (af 0) (eK (.int 3)))) (aR (aK 2 gQ (ae (af 1) (ae (av (aG .leaf (ae (aG .leaf ah) (ae (kZ (aG .leaf (ae (eK (.int 0)) ah)) (ay aW (af 4) (eK (.int 1)))) (ae (gL (vL (ae (ay gSub (af 4) (eK (.int 1))) ah)) (aG .leaf (ae (af 2) ah))) (ae (kZ (aG .leaf (ae (af 2) ah)) (af 4)) ah))))) (ay bN (af 3) (eK (.int 4)))) ah)))) (bO (aO ao (ay aZ (af 0) (eK (.int 4)))) (aR (aK 4 iT (ae (af 1) (ae (af 2) (ae (eK (.int 0)) (ae (ay aZ (ay bN (af 3) (eK (.int 2))) (eK (.int 1))) ah)))))) (bO (aO ao (ay aZ (af 0) (eK (.int 5)))) (aR (aK 4 iT (ae (af 1) (ae (eK (.int 0)) (ae (af 2) (ae (ay aZ (ay bN (af 3) (eK (.int 2))) (eK (.int 1))) ah)))))) (bO (aO ao (ay aZ (af 0) (eK (.int 6)))) (aR (aK 3 cE (ae (af 1) (ae (av (aG .leaf (ae (aG .leaf (ae (bx (ae (eK (.int 0)) (ae (eK (.int 0)) ah))) (ae (bx (ae (eK (.int 0)) (ae (af 2) ah))) ah))) (ae (aG .leaf (ae (bx (ae (af 2) (ae (eK (.int 0)) ah))) ah)) ah))) (ay bN (af 3) (eK (.int 2)))) (ae (eK (.bool false)) ah))))) (bO (aO ao (ay aZ (af 0) (eK (.int 7)))) (aR (aK 3 i4 (ae (af 1) (ae (av (aG .leaf (ae (eK (.int 0)) (ae (af 2) ah))) (ay bN (af 3) (eK (.int 2)))) (ae (av (aG .leaf (ae (af 2) (ae (eK (.int 0)) ah))) (ay bN (af 3) (eK (.int 2)))) ah))))) (bO (aO ao (ay aZ (af 0) (eK (.int 8)))) (aR (aK 2 cy (ae (af 1) (ae (av (aG .leaf (ae (aG .leaf (ae (bx (ae (eK (.int 0)) (ae (eK (.int 0)) (ae (bx (ae (eK (.str "mark")) (ae (eK (.str "a")) ah))) ah)))) (ae (bx (ae (af 2) (ae (eK (.int 0)) (ae (bx (ae (eK (.str "mark")) (ae (eK (.str "a")) ah))) ah)))) ah))) (ae (aG .leaf (ae (bx (ae (eK (.int 0)) (ae (af 2) (ae (bx (ae (eK (.str "step")) (ae (eK (.int 0)) (ae (eK (.int 0)) ah)))) ah)))) ah)) ah))) (ay bN (af 3) (eK (.int 2)))) ah)))) (bO (aO ao (ay aZ (af 0) (eK (.int 9)))) (aR (aK 3 fj (ae (af 1) (ae (av (aG .leaf (ae (eK (.int 0)) (ae (af 2) ah))) (ay bN (af 3) (eK (.int 2)))) (ae (av (aG .leaf (ae (af 2) (ae (eK (.int 0)) ah))) (ay bN (af 3) (eK (.int 2)))) ah))))) (aR (aK 3 fj (ae (aj 1 bM (ae (eK (.int 7)) ah)) (ae (eK (.int 0)) (ae (av (aG .leaf (ae (eK (.int 7)) (ae (eU iN (eK (.int 1))) ah))) (ay bN (af 3) (eK (.int 2)))) ah))))))))))))))))
noncomputable def di:List PySem.PyData->bA:=aA 5 jT
noncomputable def jU:FS:=(bO (aO ao (ay aZ (af 0) (eK (.int 0)))) (aR (aK 2 i6 (ae (aj 1 bM (ae (eK (.int 13)) ah)) (ae (aj 1 bM (ae (eK (.int 12)) ah)) ah)))) (bO (aO ao (ay aZ (af 0) (eK (.int 1)))) (aR (aK 2 fT (ae (aj 1 bM (ae (eK (.int 5)) ah)) (ae (aj 1 bM (ae (eK (.int 5)) ah)) ah)))) (aR (aK 3 fj (ae (aj 1 bM (ae (ay aW (eK (.int 7)) (ay bN (af 1) (eK (.int 18)))) ah)) (ae (ay bN (af 1) (eK (.int 7))) (ae (ay bN (ay hV (af 1) (eK (.int 7))) (eK (.int 7))) ah)))))))
noncomputable def dj:List PySem.PyData->bA:=aA 2 jU
noncomputable def gM:FS:=(ak (aE false 1 (bx (ae (eK (.str "mark")) (ae (eK (.str "a")) ah))))
  (ak (eJ 2 (hU (ae (eK (.int 7)) ah))
  (ak (aE false 4 (av (aG .leaf (ae (eK (.str "all until")) (ae (eK (.str "some until")) (ae (eK (.str "or")) (ae (eK (.str "and")) ah))))) (aj 3 az (ae (af 0) (ae (af 2) (ae (eK (.int 4)) ah))))))
  (aE false 1 (nJ (aO ao (ay aZ (aj 3 az (ae (af 0) (ae (ay aW (eK (.int 20)) (af 2)) (ae (eK (.int 2)) ah)))) (eK (.int 0)))) (bx (ae (af 4) (ae (af 1) (ae (bx (ae (eK (.str "mark")) (ae (eK (.str "b")) ah))) ah)))) (bx (ae (af 4) (ae (bx (ae (eK (.str "mark")) (ae (eK (.str "c")) ah))) (ae (af 1) ah))))))))
  (ak (aE false 3 (eK (.bool false)))
  (ak (jg xcl 5 (aE false 3 (aj 1 bj (ae (aK 1 fU (ae (af 1) ah)) ah))) fun c=>aE false 3 (aj 2 b5 (ae (kY (me__law_which c)) (ae (eK (.int 4)) ah))))
  (aS (ay (rJ false) (af 3) (eK (.bool true))))))))
noncomputable def cF:List PySem.PyData->bA:=aA 6 gM
noncomputable def d_law:FS:=(ak (aE false 1 (aj 3 m__law_world (ae (af 0) (ae (eK (.int 3)) (ae (eK (.int 6)) ah)))))
  (ak (aE false 2 (aj 2 aC (ae (af 0) (ae (eK (.int 0)) ah))))
  (ak (aE false 3 (bW bt (ae (av (af 1) (eK (.int 0))) ah)))
  (ak (aE false 4 (av (aG .leaf (ae (af 3) (ae (eU iN (eK (.int 1))) (ae (ay aW (af 3) (ay bN (ay hV (af 2) (eK (.int 4))) (ay jL (eK (.int 10)) (eK (.int 50))))) (ae (ay gSub (eU iN (eK (.int 1))) (ay bN (ay hV (af 2) (eK (.int 4))) (ay jL (eK (.int 10)) (eK (.int 50))))) ah))))) (ay bN (af 2) (eK (.int 4)))))
  (ak (eJ 5 (hU (ae (eK (.int 15)) ah))
  (ak (aE false 6 (aG .leaf ah))
  (ak (jg xcl 7 (bO (aO ao (ay iV (af 5) (eK (.int 11)))) (aR (aK 4 di (ae (af 5) (ae (af 1) (ae (af 4) (ae (aj 2 aC (ae (af 0) (ae (eK (.int 1)) ah))) ah)))))) (bO (aO ao (ay iV (af 5) (eK (.int 14)))) (aR (aK 2 dj (ae (ay gSub (af 5) (eK (.int 11))) (ae (aj 2 aC (ae (af 0) (ae (eK (.int 1)) ah))) ah)))) (aR (aK 2 gg (ae (af 1) (ae (av (aG .leaf (ae (eK (.str "g")) (ae (eK (.str "")) (ae (eK (.str "ab")) (ae (eK (.str "A")) (ae (eK (.str "yes")) ah)))))) (ay bN (aj 2 aC (ae (af 0) (ae (eK (.int 1)) ah))) (eK (.int 5)))) ah)))))) fun c=>aE false 6 (kY (me__law_which c)))
  (bO (cU (aO bY (aj 2 b5 (ae (af 6) (ae (av (aG .leaf (ae (eK (.int 3)) (ae (eK (.int 3)) (ae (eK (.int 3)) (ae (eK (.int 3)) (ae (eK (.int 3)) (ae (eK (.int 3)) (ae (eK (.int 3)) (ae (eK (.int 3)) (ae (eK (.int 3)) (ae (eK (.int 3)) (ae (eK (.int 3)) (ae (eK (.int 4)) (ae (eK (.int 4)) (ae (eK (.int 4)) (ae (eK (.int 1)) ah)))))))))))))))) (af 5)) ah))))) (aS (eK (.bool false))) aP))))
  (aS (aj 1 cF (ae (aj 2 aC (ae (af 0) (ae (eK (.int 2)) ah))) ah))))))))
noncomputable def m_law:List PySem.PyData->bA:=aA 8 d_law
open PySem.SeqAt
open KQ.M (sQ Iw v_res sL dR d5 lC sR bV)
theorem BV {t:Sn} (h:t.ok):(xV t).ok/\(xV t).dep<=t.dep+1:=by
 rcases IY t with ⟨a,rfl,e2⟩ | ⟨_,e2⟩
 ·rw [e2]
  exact ⟨h,by simp only [Sn.dep];omega⟩
 ·rw [e2]
  exact ⟨h,by simp only [Sn.dep];omega⟩
theorem eR {tu so:Bool} {t:Sn} {n:Nat} (h:t.ok) (h4:t.dep+1<=n):(tn tu so t).ok/\(tn tu so t).dep<=n:=by
 unfold tn;obtain ⟨a,b⟩:=BV h;split
 ·exact ⟨a,by omega⟩
 ·exact ⟨h,by omega⟩
theorem Il {s:Sn}:s.ok->∀so,(b7 s so).ok/\(b7 s so).dep<=5*s.dep:=by
 induction s with
 | yes=>exact fun _ so=>eR (t:=.yes) trivial (by simp only [Sn.dep];omega)
 | mk c=>exact fun h so=>eR (t:=.mk c) h (by simp only [Sn.dep];omega)
 | un k a ih=>
  intro h so;obtain ⟨f1,f2⟩:=ih h false;obtain ⟨t1,t2⟩:=ih h true;have p1:=(b7 a false).dep_pos
  cases k with
  | not=>
   obtain ⟨q1,q2⟩:=ih h (!so)
   show (b7 a (!so)).ok/\(b7 a (!so)).dep<=5*(a.dep+1)
   exact ⟨q1,by omega⟩
  | sn=>exact eR (t:=.un .sn (b7 a true)) t1 (by simp only [Sn.dep];omega)
  | an=>exact eR (t:=.un .sn (b7 a false)) f1 (by simp only [Sn.dep];omega)
  | sa=>exact eR (t:=.un .sa (b7 a true)) t1 (by simp only [Sn.dep];omega)
  | aa=>exact eR (t:=.bi .su .yes (b7 a false)) ⟨trivial,f1⟩ (by simp only [Sn.dep];omega)
 | bi k a b ia ib=>
  intro h so;obtain ⟨f1,f2⟩:=ia h.1 false;obtain ⟨t1,t2⟩:=ia h.1 true;obtain ⟨g1,g2⟩:=ib h.2 false;obtain ⟨u1,u2⟩:=ib h.2 true
  cases k with
  | and=>exact eR (t:=.bi .and (b7 a true) (b7 b true)) ⟨t1,u1⟩ (by simp only [Sn.dep];omega)
  | or=>exact eR (t:=.bi .and (b7 a false) (b7 b false)) ⟨f1,g1⟩ (by simp only [Sn.dep];omega)
  | su=>exact eR (t:=.bi .su (b7 a true) (b7 b true)) ⟨t1,u1⟩ (by simp only [Sn.dep];omega)
  | au=>
   show (tn false so (Dc (b7 a false) (b7 b false))).ok/\(tn false so (Dc (b7 a false) (b7 b false))).dep<=_
   unfold Dc;split
   ·exact eR (t:=.un .not (.un .sa (b7 b false))) g1 (by simp only [Sn.dep];omega)
   ·exact eR (t:=.bi .and (.un .not (.un .sa (b7 b false))) (.un .not (.bi .su (b7 b false) (.bi .and (b7 a false) (b7 b false))))) ⟨g1,g1,f1,g1⟩ (by simp only [Sn.dep];omega)
theorem ko:∀(n:Nat) (s:Sn) (so:Bool),s.ok->s.dep<=12->s.dep<=n->∃sh:Sh,sh.isView=false/\bH n [s.enc,.bool so]=.ok ⟨sh,(b7 s so).enc⟩
 | 0,s,_,_,_,h=>by
  have:=s.dep_pos
  omega
 | n+1,s,so,hs,hz,h=>by
  show ∃sh:Sh,sh.isView=false/\aA 5 (kq (bH n)) [s.enc,.bool so]=_
  have ih:∀q,∀a∈s.args,∃sh:Sh,sh.isView=false/\bH n [a.enc,.bool q]=.ok ⟨sh,(b7 a q).enc⟩:=fun q a ha=>ko n a q (Sn.args_ok hs a ha) (by have:=Dn ha;omega) (by have:=Dn ha;omega)
  have ft:∀q,∀a∈s.args,Fit60 (b7 a q):=fun q a ha=>⟨(Il (Sn.args_ok hs a ha) q).1,by have:=(Il (Sn.args_ok hs a ha) q).2;have:=Dn ha;omega⟩
  have t0:aO ao (ay aZ (af 2) (eK (.str "not"))) [some ⟨.leaf,s.enc⟩,some ⟨.leaf,.bool so⟩,some ⟨.leaf,.str s.w.t⟩,none,none]=.ok (decide (s.w=.not)) [some ⟨.leaf,s.enc⟩,some ⟨.leaf,.bool so⟩,some ⟨.leaf,.str s.w.t⟩,none,none]:=eO (aQ (aD rfl) aX (Ar _))
  by_cases hn:s.w=.not
  ·obtain ⟨a,rfl⟩:∃a,s=.un .not a:=by
    cases s with
    | un k a=>cases k<;>first | exact ⟨a,rfl⟩ | (simp [Sn.w,U5.w] at hn)
    | bi k a b=>cases k<;>simp [Sn.w,B4.w] at hn
    | _=>simp [Sn.w] at hn
   obtain ⟨sh,h1,h2⟩:=ih (!so) a (by simp [Sn.args])
   rw [decide_eq_true hn] at t0;have i1:av (af 0) (eK (.int 1)) [some ⟨.leaf,(Sn.un .not a).enc⟩,some ⟨.leaf,.bool so⟩,some ⟨.leaf,.str (Sn.un .not a).w.t⟩,none,none]=.ok ⟨.leaf,a.enc⟩ [some ⟨.leaf,(Sn.un .not a).enc⟩,some ⟨.leaf,.bool so⟩,some ⟨.leaf,.str (Sn.un .not a).w.t⟩,none,none]:=Dt (j:=1) (ds:=[.str Wr.not.t,a.enc]) (aD rfl) aX rfl rfl rfl
   exact ⟨sh,h1,bh (aB (ez zB rfl (by simp [aq])) (sE (bJ t0 (fun _=>bg (df (aw i1 (aw (v_not (aD rfl)) ai)) h2 rfl rfl) h1) nofun)))⟩
  ·rw [decide_eq_false hn] at t0
   have c:aN .leaf 4 (dH (aj 1 aT (ae (af 0) ah))) bD (aj 2 (bH n) (ae (af 4) (ae (ay (dS true) (af 2) (eK bS)) ah))) [some ⟨.leaf,s.enc⟩,some ⟨.leaf,.bool so⟩,some ⟨.leaf,.str s.w.t⟩,none,none]=.ok ⟨.lst .leaf,.list (s.args.map fun a=>(b7 a (fl s)).enc)⟩ [some ⟨.leaf,s.enc⟩,some ⟨.leaf,.bool so⟩,some ⟨.leaf,.str s.w.t⟩,none,none]:=by
    have q:=DM Sn.enc s.args (fun a=>Lo (bH n [a.enc,.bool (fl s)])) (s:=.leaf) (i:=4) (fi:=dH (aj 1 aT (ae (af 0) ah))) (fe:=aj 2 (bH n) (ae (af 4) (ae (ay (dS true) (af 2) (eK bS)) ah))) (st:=true) (Γ:=[some ⟨.leaf,s.enc⟩,some ⟨.leaf,.bool so⟩,some ⟨.leaf,.str s.w.t⟩,none,none]) (by simp [Jj,aH]) (by simp) rfl (by have:=s.args_le;omega) (fun a ha=>by
     obtain ⟨sh,h1,h2⟩:=ih (fl s) a ha;refine ⟨df (ps:=[⟨.leaf,a.enc⟩,⟨.leaf,.bool (fl s)⟩]) (aw (aD rfl) (aw (aQ (aD rfl) aX (CA _)) ai)) (by show bH n [a.enc,.bool (fl s)]=_;rw [h2];rfl) rfl rfl,?_⟩
     rw [h2];exact Eb h1)
    rw [q];congr 3
    refine List.map_congr_left fun a ha=>?_
    obtain ⟨sh,h1,h2⟩:=ih (fl s) a ha;rw [h2];rfl
   obtain ⟨sh,h1,h2⟩:=oJ hn (ft (fl s));obtain ⟨sk,k1,k2⟩:=qt (Aj s);have t3:aO ao (ay aZ (af 1) (ay (dS false) (af 2) (eK gG))) [some ⟨.leaf,s.enc⟩,some ⟨.leaf,.bool so⟩,some ⟨.leaf,.str s.w.t⟩,some ⟨.leaf,(Aj s).enc⟩,none]=.ok (decide (so=tu s)) [some ⟨.leaf,s.enc⟩,some ⟨.leaf,.bool so⟩,some ⟨.leaf,.str s.w.t⟩,some ⟨.leaf,(Aj s).enc⟩,none]:=eO (aQ (aD rfl) (aQ (aD rfl) aX (Cy _)) (Gf _ _))
   have go:∀{p:PV} {bf:FS},bf [some ⟨.leaf,s.enc⟩,some ⟨.leaf,.bool so⟩,some ⟨.leaf,.str s.w.t⟩,some ⟨.leaf,(Aj s).enc⟩,none]=.rt p->(ak (aE false 2 (av (af 0) (eK (.int 0)))) (ak (bO (aO ao (ay aZ (af 2) (eK (.str "not")))) (aS (aj 2 (bH n) (ae (av (af 0) (eK (.int 1))) (ae (rO (af 1)) ah)))) aP) (ak (aE false 3 (aj 2 b3 (ae (af 0) (ae (aN .leaf 4 (dH (aj 1 aT (ae (af 0) ah))) bD (aj 2 (bH n) (ae (af 4) (ae (ay (dS true) (af 2) (eK bS)) ah)))) ah)))) bf))) (aq 5 [s.enc,.bool so])=.rt p:=fun {p bf} hr=>
    aB (ez zB rfl (by simp [aq])) (aB (bJ t0 nofun (fun _=>rfl)) (aB (ez (df (aw (aD rfl) (aw c ai)) h2 rfl rfl) (Eb h1) (by simp [aq])) hr))
   rw [yW hn];unfold tn;by_cases z:so=tu s
   ·rw [if_pos z]
    rw [decide_eq_true z] at t3;exact ⟨sk,k1,bh (go (bg (i8 t3 (fun _=>df (aw (aD rfl) ai) k2 rfl rfl) nofun) k1))⟩
   ·rw [if_neg z]
    rw [decide_eq_false z] at t3;exact ⟨.leaf,rfl,bh (go (bg (i8 t3 nofun (fun _=>aD rfl)) rfl))⟩
theorem yi {s:Sn} (h:s.ok) (hd:s.dep<=60):∃b:Bool,bj [s.enc]=.ok ⟨.leaf,.bool b⟩:=by
 rcases rV (n:=60) (by omega) (BG h hd) with ⟨e,_⟩ | ⟨⟨ls,e⟩,_⟩
 ·exact ⟨false,bh (bg (aQ (df (aw (aD rfl) ai) e rfl rfl) aX rfl) rfl)⟩
 ·exact ⟨true,bh (bg (aQ (df (aw (aD rfl) ai) e rfl rfl) aX rfl) rfl)⟩
theorem rT {s:Sn} (h:s.ok) (hz:s.size<=200) (hd:s.dep<=12):(∃d,fU [s.enc]=.ok ⟨.leaf,d⟩/\bj [d]=.ok ⟨.leaf,.bool true⟩)\/fU [s.enc]=.er "TooGreat":=by
 have c:=fX h hz (by omega)
 have S:=tY h
 have dp:=S.dp
 obtain ⟨sh,h1,h2⟩:=fO 20 s h (by omega) (by omega)
 obtain ⟨sk,k1,k2⟩:=ko 20 (bz s) true S.ok (by omega) (by omega)
 obtain ⟨q1,q2⟩:=Il S.ok true;obtain ⟨b,eb⟩:=yi q1 (by omega)
 have s1:aR (aj 1 bG (ae (af 0) ah)) (aq 2 [s.enc])=.nx (aq 2 [s.enc]):=wH (df (aw (aD rfl) ai) c rfl rfl)
 have s2:aE false 1 (aj 2 fo (ae (aj 1 dC (ae (af 0) ah)) (ae (eK (.bool true)) ah))) (aq 2 [s.enc])=.nx [some ⟨.leaf,s.enc⟩,some ⟨.leaf,(b7 (bz s) true).enc⟩]:=
  ez (df (aw (df (aw (aD rfl) ai) h2 rfl rfl) (aw aX ai)) k2 rfl (by
  show (coer .leaf ⟨sh,(bz s).enc⟩&&(coer .leaf ⟨.leaf,.bool true⟩&&true))=true
  rw [Eb h1];rfl)) (Eb k1) (by simp [aq])
 have t:cU (aO bY (aj 1 bj (ae (af 1) ah))) [some ⟨.leaf,s.enc⟩,some ⟨.leaf,(b7 (bz s) true).enc⟩]=.ok (!b) [some ⟨.leaf,s.enc⟩,some ⟨.leaf,(b7 (bz s) true).enc⟩]:=jv (iF (s:=.leaf) (df (aw (aD rfl) ai) eb rfl rfl))
 cases b with
 | true=>exact .inl ⟨_,bh (aB s1 (aB s2 (aB (bJ t nofun fun _=>rfl) (bg (aD rfl) rfl)))),eb⟩
 | false=>exact .inr (bV (aB s1 (aB s2 (lC (bJ t (fun _=>rfl) nofun)))))
structure Hs (W:D) (n:Nat):Prop where
 ck:aF [W]=.ok ⟨.leaf,.none⟩
 sz:∀{Γ:Ev} {i:Nat},Γ[i]?=some (some ⟨.leaf,W⟩)->bW bt (ae (av (af i) (eK (.int 0))) ah) Γ=.ok ⟨.leaf,.int (n:Int)⟩ Γ
theorem kW {w:Wd} (ok:w.Ok):Hs w.enc w.n:=⟨ok.check,fun h=>xm ok h⟩
theorem zX {os ms ss:List D} (h:aF [eQ os ms ss]=.ok ⟨.leaf,.none⟩):Hs (eQ os ms ss) os.length:=⟨h,fun {Γ i} h0=>by
 have e:av (af i) (eK (.int 0)) Γ=.ok ⟨.leaf,.list os⟩ Γ:=by
  rw [iy,aD h0];simp only [Out.bind,aX,eQ,mn,uy]
 exact dU (aw e ai) rfl⟩
section
variable {W:D} {n:Nat}
theorem pv (h:Hs W n) {r:Int}:cU (aO ao (dn CM iV (eK (.int 0)) (af 1) (bW bt (ae (av (af 0) (eK (.int 0))) ah)))) (aq 2 [W,.int r])=.ok (!(decide ((0:Int)<=r)&&decide (r<(n:Int)))) (aq 2 [W,.int r]):=
 jv (eO (s:=.leaf) (o8 (b:=decide ((0:Int)<=r)) (b':=decide (r<(n:Int))) (g:=CM) (g':=iV) (fa:=eK (.int 0)) (fb:=af 1) aX (aD rfl) rfl rfl (h.sz (i:=0) rfl) rfl))
theorem Dv (h:Hs W n) {r:Int} (h0:0<=r) (h1:r<(n:Int)):bo [W,.int r]=.ok ⟨.leaf,.none⟩:=by
 have t:=pv h (r:=r)
 rw [decide_eq_true h0,decide_eq_true h1] at t;exact mD (Γ:=aq 2 [W,.int r]) (bJ t nofun fun _=>rfl)
theorem Az (h:Hs W n) {r:Int} (hr:r<0\/(n:Int)<=r):bo [W,.int r]=.er "NoRoom":=by
 have t:=pv h (r:=r)
 rw [show (decide ((0:Int)<=r)&&decide (r<(n:Int)))=false by
  rcases hr with z | z
  ·rw [decide_eq_false (by omega:¬(0:Int)<=r)];rfl
  ·rw [decide_eq_false (by omega:¬r<(n:Int)),Bool.and_false]] at t
 exact bV (Γ':=aq 2 [W,.int r]) (bJ t (fun _=>rfl) nofun)
theorem nI {m:Nat} {ds:List D} (h:Hs W n):aR (aj 1 aF (ae (af 0) ah)) (aq m (W::ds))=.nx (aq m (W::ds)):=wH (df (aw (aD rfl) ai) h.ck rfl rfl)
theorem nr (h:Hs W n) {a b:Int} (a0:0<=a) (a1:a<(n:Int)) (b0:0<=b) (b1:b<(n:Int)):bX [W,.int a,.int b]=.ok ⟨.leaf,.none⟩:=
 mD (Γ:=aq 3 [W,.int a,.int b]) (aB (wH (sL (aw (aD rfl) (aw (aD rfl) ai)) (Dv h a0 a1) rfl rfl)) (wH (sL (aw (aD rfl) (aw (aD rfl) ai)) (Dv h b0 b1) rfl rfl)))
theorem Iy (h:Hs W n) {a b:Int} (hh:(a<0\/(n:Int)<=a)\/(b<0\/(n:Int)<=b)):bX [W,.int a,.int b]=.er "NoRoom":=by
 by_cases ha:a<0\/(n:Int)<=a
 ·exact bV (lC (d5 (dR (aw (aD rfl) (aw (aD rfl) ai)) (Az h ha) rfl)))
 ·have hb:b<0\/(n:Int)<=b:=hh.resolve_left ha
  exact bV (aB (wH (sL (aw (aD rfl) (aw (aD rfl) ai)) (Dv h (r:=a) (by omega) (by omega)) rfl rfl)) (d5 (dR (aw (aD rfl) (aw (aD rfl) ai)) (Az h hb) rfl)))
theorem rF (h:Hs W n) {r:Int} (hr:r<0\/(n:Int)<=r):gR [W,.int r]=.er "NoRoom":=
 bV (aB (nI h) (lC (d5 (dR (aw (aD rfl) (aw (aD rfl) ai)) (Az h hr) rfl))))
theorem mM (h:Hs W n) {a b:Int} (hh:(a<0\/(n:Int)<=a)\/(b<0\/(n:Int)<=b)):i4 [W,.int a,.int b]=.er "NoRoom":=
 bV (aB (nI h) (lC (d5 (dR (aw (aD rfl) (aw (aD rfl) (aw (aD rfl) ai))) (Iy h hh) rfl))))
theorem Ht (h:Hs W n) {a b:Int} (hh:(a<0\/(n:Int)<=a)\/(b<0\/(n:Int)<=b)):fj [W,.int a,.int b]=.er "NoRoom":=
 bV (aB (nI h) (lC (d5 (dR (aw (aD rfl) (aw (aD rfl) (aw (aD rfl) ai))) (Iy h hh) rfl))))
theorem vg (h:Hs W n) (hn:6<n) {a b:Int} (a0:0<=a) (a1:a<(n:Int)) (b0:0<=b) (b1:b<(n:Int)):fj [W,.int a,.int b]=.er "TooGreat":=by
 have t:aO ao (ay jz (bW bt (ae (av (af 0) (eK (.int 0))) ah)) (eK cA)) (aq 6 [W,.int a,.int b])=.ok (decide ((6:Int)<(n:Int))) (aq 6 [W,.int a,.int b]):=eO (s:=.leaf) (aQ (h.sz (i:=0) rfl) aX rfl)
 rw [decide_eq_true (by omega)] at t
 exact bV (aB (nI h) (aB (wH (sL (aw (aD rfl) (aw (aD rfl) (aw (aD rfl) ai))) (nr h a0 a1 b0 b1) rfl rfl)) (lC (bJ t (fun _=>rfl) nofun))))
theorem pZ (h:Hs W n) (h1:0<n) {a b:Int} {o:Bool} (hh:((a<0\/(n:Int)<=a))\/(a=0/\(b<0\/(n:Int)<=b))):iT [W,.int a,.int b,.bool o]=.er "NoRoom":=by
 rcases hh with ha | ⟨rfl,hb⟩
 ·exact bV (aB (nI h) (lC (d5 (dR (aw (aD rfl) (aw (aD rfl) ai)) (Az h ha) rfl))))
 ·exact bV (aB (nI h) (aB (wH (sL (aw (aD rfl) (aw (aD rfl) ai)) (Dv h (by omega) (by omega)) rfl rfl)) (lC (d5 (dR (aw (aD rfl) (aw (aD rfl) ai)) (Az h hb) rfl)))))
theorem i0 {Γ:Ev} {i:Nat} {a b:D} {r:List D} (h:Γ[i]?=some (some ⟨.leaf,.tuple (a::b::r)⟩)):av (af i) (eK (.int 0)) Γ=.ok ⟨.leaf,a⟩ Γ/\av (af i) (eK (.int 1)) Γ=.ok ⟨.leaf,b⟩ Γ:=by
 constructor
 ·exact Dt (j:=0) (aD h) aX (by unfold gH;simp;try omega) rfl rfl
 ·exact Dt (j:=1) (aD h) aX (by unfold gH;simp;try omega) rfl rfl
end
theorem Ae {i:Nat} {body:FS} {d:D} {r:List D} {Γ Γ':Ev} {c:Str} (hi:i<Γ.length) (h:body (Γ.set i (some ⟨.leaf,d⟩))=.er c Γ'):cD i body (d::r) Γ=.er c Γ':=by
 unfold cD;rw [if_pos hi,h]
theorem Gd {i:Nat} {body:FS} {d:D} {r:List D} {Γ Γ':Ev} {o:dr} (hi:i<Γ.length) (h:body (Γ.set i (some ⟨.leaf,d⟩))=.nx Γ') (h2:cD i body r Γ'=o):cD i body (d::r) Γ=o:=by
 unfold cD;rw [if_pos hi,h];exact h2
section
variable {W:D} {n:Nat}
noncomputable abbrev uB:FS:=aR (aK 3 bX (ae (af 0) (ae (av (af 2) (eK (.int 0))) (ae (av (af 2) (eK (.int 1))) ah))))
noncomputable abbrev GU (W rows:D) (a b:Int) (t:List D):Ev:=[some ⟨.leaf,W⟩,some ⟨.leaf,rows⟩,some ⟨.leaf,.tuple (.int a::.int b::t)⟩,none]
theorem Ey (h:Hs W n) {rows:D} {a b:Int} {t:List D} (hh:(a<0\/(n:Int)<=a)\/(b<0\/(n:Int)<=b)):uB (GU W rows a b t)=.er "NoRoom" (GU W rows a b t):=by
 obtain ⟨e1,e2⟩:=i0 (Γ:=GU W rows a b t) (i:=2) (a:=.int a) (b:=.int b) (r:=t) rfl
 exact d5 (dR (aw (aD rfl) (aw e1 (aw e2 ai))) (Iy h hh) rfl)
theorem JC (h:Hs W n) (h1:0<n) {rows:D} {t:List D}:uB (GU W rows 0 0 t)=.nx (GU W rows 0 0 t):=by
 obtain ⟨e1,e2⟩:=i0 (Γ:=GU W rows 0 0 t) (i:=2) (a:=.int 0) (b:=.int 0) (r:=t) rfl
 exact wH (sL (aw (aD rfl) (aw e1 (aw e2 ai))) (nr h (by omega) (by omega) (by omega) (by omega)) rfl rfl)
theorem FP (h:Hs W n) (h1:0<n) {r:Int} {s t:List D} (hr:r<0\/(n:Int)<=r):cy [W,.list [.tuple (.int 0::.int 0::s),.tuple (.int r::.int 0::t)]]=.er "NoRoom":=
 bV (aB (nI h) (lC (iu (eB (aD rfl) rfl) (Gd (by simp [aq]) (JC h h1) (Ae (by simp) (Ey h (.inl hr)))))))
theorem FO (h:Hs W n) (h1:0<n) {r:Int} {t:List D} (hr:r<0\/(n:Int)<=r):cy [W,.list [.tuple (.int 0::.int r::t)]]=.er "NoRoom":=
 bV (aB (nI h) (lC (iu (eB (aD rfl) rfl) (Ae (by simp [aq]) (Ey h (.inr hr))))))
noncomputable abbrev a1:F1:=aK 2 bo (ae (af 0) (ae (av (af 4) (eK (.int 0))) ah))
noncomputable abbrev a2:F1:=aK 2 bo (ae (af 0) (ae (av (af 4) (eK (.int 1))) ah))
noncomputable abbrev GA (W ps o:D) (a b:Int):Ev:=[some ⟨.leaf,W⟩,some ⟨.leaf,ps⟩,some ⟨.leaf,o⟩,none,some ⟨.leaf,.tuple [.int a,.int b]⟩]
theorem GN (h:Hs W n) {ps o:D} {a b:Int} (hr:a<0\/(n:Int)<=a):a1 (GA W ps o a b)=.er "NoRoom" (GA W ps o a b):=
 dR (aw (aD rfl) (aw (i0 (Γ:=GA W ps o a b) (i:=4) (r:=[]) rfl).1 ai)) (Az h hr) rfl
theorem Ak (h:Hs W n) {ps o:D} {a b:Int} (h0:0<=a) (h1:a<(n:Int)):a1 (GA W ps o a b)=.ok ⟨.leaf,.none⟩ (GA W ps o a b):=
 sL (aw (aD rfl) (aw (i0 (Γ:=GA W ps o a b) (i:=4) (r:=[]) rfl).1 ai)) (Dv h h0 h1) rfl rfl
theorem GM (h:Hs W n) {ps o:D} {a b:Int} (hr:b<0\/(n:Int)<=b):a2 (GA W ps o a b)=.er "NoRoom" (GA W ps o a b):=
 dR (aw (aD rfl) (aw (i0 (Γ:=GA W ps o a b) (i:=4) (r:=[]) rfl).2 ai)) (Az h hr) rfl
theorem GK (h:Hs W n) {ps o:D} {a b:Int} (h0:0<=b) (h1:b<(n:Int)):a2 (GA W ps o a b)=.ok ⟨.leaf,.none⟩ (GA W ps o a b):=
 sL (aw (aD rfl) (aw (i0 (Γ:=GA W ps o a b) (i:=4) (r:=[]) rfl).2 ai)) (Dv h h0 h1) rfl rfl
theorem Gp {ps o:D} {a b:Int} {r:List D} {x:dr} {p q:PV} (h1:a1 (GA W ps o a b)=.ok p (GA W ps o a b)) (h2:a2 (GA W ps o a b)=.ok q (GA W ps o a b)) (h3:fW 4 a1 a2 r (aq 5 [W,ps,o])=x):fW 4 a1 a2 (.tuple [.int a,.int b]::r) (aq 5 [W,ps,o])=x:=by
 rw [fW];rw [show (aq 5 [W,ps,o]).set 4 (some ⟨.leaf,.tuple [.int a,.int b]⟩)=GA W ps o a b from rfl,h1]
 dsimp only;rw [h2];exact h3
theorem Gr {ps o:D} {a b:Int} {r:List D} (h1:a1 (GA W ps o a b)=.er "NoRoom" (GA W ps o a b)):fW 4 a1 a2 (.tuple [.int a,.int b]::r) (aq 5 [W,ps,o])=.er "NoRoom" (GA W ps o a b):=by
 rw [fW];rw [show (aq 5 [W,ps,o]).set 4 (some ⟨.leaf,.tuple [.int a,.int b]⟩)=GA W ps o a b from rfl,h1]
theorem Gq {ps o:D} {a b:Int} {r:List D} {p:PV} (h1:a1 (GA W ps o a b)=.ok p (GA W ps o a b)) (h2:a2 (GA W ps o a b)=.er "NoRoom" (GA W ps o a b)):fW 4 a1 a2 (.tuple [.int a,.int b]::r) (aq 5 [W,ps,o])=.er "NoRoom" (GA W ps o a b):=by
 rw [fW];rw [show (aq 5 [W,ps,o]).set 4 (some ⟨.leaf,.tuple [.int a,.int b]⟩)=GA W ps o a b from rfl,h1]
 dsimp only;rw [h2]
theorem Ag {ds:List D} {o:D} {x:dr} (hl:ds.length<=900) (h:fW 4 a1 a2 ds (aq 5 [W,.list ds,o])=x):DO 4 3 1 a1 a2 (aq 5 [W,.list ds,o])=x:=by
 show (if ds.length<=900 then fW 4 a1 a2 ds (aq 5 [W,.list ds,o]) else .no)=x
 rw [if_pos hl];exact h
theorem FR (h:Hs W n) (h1:0<n) {r:Int} {o:D} (hr:r<0\/(n:Int)<=r):cE [W,.list [.tuple [.int 0,.int 0],.tuple [.int 0,.int r]],o]=.er "NoRoom":=
 bV (aB (nI h) (Ag (by simp) (Gp (Ak h (by omega) (by omega)) (GK h (by omega) (by omega)) (Gq (Ak h (by omega) (by omega)) (GM h hr)))))
theorem FQ (h:Hs W n) (h1:0<n) {r:Int} {o:D} (hr:r<0\/(n:Int)<=r):cE [W,.list [.tuple [.int r,.int 0]],o]=.er "NoRoom":=
 bV (aB (nI h) (Ag (by simp) (Gr (GN h hr))))
theorem uh {a b:Int} {r:List D} (hab:¬a<b):dg (.int a::.int b::r)=false:=by
 unfold dg;refine List.all_eq_false.mpr ⟨.int 1,?_,?_⟩
 ·unfold cj
  exact List.mem_map.mpr ⟨0,List.mem_range.mpr (by simp),by simp⟩
 ·show ¬decide (a<b)=true
  simpa using hab
theorem BS {n:Int} {rs:List D} {i:Int} (h:PyData.int i∈rs) (hi:i<0\/n<=i):(rs.all (KC.inR n)&&dg rs)=false:=by
 have:rs.all (KC.inR n)=false:=List.all_eq_false.mpr ⟨_,h,by
  show ¬(decide (0<=i)&&decide (i<n))=true
  rcases hi with hi | hi
  ·rw [decide_eq_false (by omega:¬0<=i)];simp
  ·rw [decide_eq_false (by omega:¬i<n)];simp⟩
 rw [this];rfl
theorem mi (h:Hs W n) {rs:List D} (hr:fA rs) (hl:rs.length<=100):cU (aO bY (aj 2 cZ (ae (af 1) (ae (bW bt (ae (av (af 0) (eK (.int 0))) ah)) ah)))) (aq 2 [W,.list rs])=.ok (!(rs.all (KC.inR n)&&dg rs)) (aq 2 [W,.list rs]):=
 jv (iF (s:=.leaf) (df (aw (aD rfl) (aw (h.sz (i:=0) rfl) ai)) (fQ hr hl) rfl rfl))
theorem se (h:Hs W n) {rs:List D} (hr:fA rs) (hl:rs.length<=100) (hb:(rs.all (KC.inR n)&&dg rs)=false):cX [W,.list rs]=.er "NoRoom":=by
 have t:=mi h hr hl
 rw [hb] at t;exact bV (Γ':=aq 2 [W,.list rs]) (bJ t (fun _=>rfl) nofun)
theorem oN (h:Hs W n):cX [W,.list []]=.ok ⟨.leaf,.none⟩:=by
 have t:=mi h (rs:=[]) (fun a ha=>by simp at ha) (by simp)
 rw [show (([]:List D).all (KC.inR n)&&dg [])=true from rfl] at t
 exact mD (Γ:=aq 2 [W,.list []]) (bJ t nofun fun _=>rfl)
theorem Ir (h:Hs W n) {rs:List D} (hr:fA rs) (hl:rs.length<=100) (hb:(rs.all (KC.inR n)&&dg rs)=false):i5 [W,.list rs]=.er "NoRoom":=
 bV (aB (nI h) (lC (d5 (dR (aw (aD rfl) (aw (aD rfl) ai)) (se h hr hl hb) rfl))))
theorem yf {w:Wd} (ok:w.Ok):i5 [w.enc,.list []]=.er "NoRoom":=by
 have pl:=oE (w:=w) (R:=[]) ⟨ok,nodup_nil,by simp,by simp,fun r hr=>AS ok hr⟩
 have pl:cw [w.enc,.list []]=.ok ⟨.leaf,eQ [] [] []⟩:=pl
 have t:eN (cU (aO bY (af 1))) (aO ao (ay (dS false) (aG .leaf ah) (av (af 2) (eK (.int 2))))) [some ⟨.leaf,w.enc⟩,some ⟨.leaf,.list []⟩,some ⟨.leaf,eQ [] [] []⟩]=.ok true [some ⟨.leaf,w.enc⟩,some ⟨.leaf,.list []⟩,some ⟨.leaf,eQ [] [] []⟩]:=by kernel_rfl
 exact bV (aB (nI (kW ok)) (aB (wH (sL (aw (aD rfl) (aw (aD rfl) ai)) (oN (kW ok)) rfl rfl)) (aB (ez (i:=2) (df (aw (aD rfl) (aw (aD rfl) ai)) pl rfl rfl) rfl (by simp [aq])) (lC (bJ t (fun _=>rfl) nofun)))))
noncomputable abbrev iZ (g:List Int):D:=.list (g.map .int)
theorem uf (G:List Nat):iU G=iZ (G.map fun t:Nat=>(t:Int)):=by
 show PyData.list (G.map rm)=.list ((G.map fun t:Nat=>(t:Int)).map .int)
 rw [map_map];rfl
theorem zC {g:List Int}:shaped (iZ g)=true:=pq fun a ha=>by
 obtain ⟨t,_,e⟩:=List.mem_map.mp ha;exact ⟨t,e.symm⟩
theorem vH:∀a b:List Int,PyData.eqvAll (a.map .int) (b.map .int)=decide (a=b)
 | [],[]=>by simp [PyData.eqvAll]
 | [],y::b=>by simp [PyData.eqvAll]
 | x::a,[]=>by simp [PyData.eqvAll]
 | x::a,y::b=>by
  rw [map_cons,map_cons,PyData.eqvAll,vH a b,PyData.eqv];by_cases h1:x=y<;>by_cases h2:a=b<;>simp [h1,h2]
theorem FG {a b:List Int}:qf (iZ a) (iZ b)=some (.bool (!decide (a=b))):=by
 show (if shaped (iZ a)&&shaped (iZ b) then some (PyData.bool (!PyData.eqv (.list (a.map .int)) (.list (b.map .int)))) else none)=_
 rw [zC,zC,Bool.and_self,if_pos rfl,PyData.eqv,vH]
theorem o7 {Γ:Ev} {fl:FL} {s:Sh} {ns:List Int} (hl:fl Γ=.ok [⟨s,.list (ns.map .int)⟩] Γ) (h:ns.length<64):eo fl Γ=.ok ⟨.lst .leaf,.list ((PySem.W.sortI ns).map .int)⟩ Γ:=by
 unfold eo;rw [hl];show (match T.intsOf (ns.map .int) with | some ns=>if ns.length<64 then Out.ok (⟨.lst .leaf,.list ((PySem.W.sortI ns).map .int)⟩:PV) Γ else .no | none=>.no)=_
 rw [show T.intsOf (ns.map .int)=some ns from by
  have:∀l:List Int,T.intsOf (l.map .int)=some l:=fun l=>by
   induction l with
   | nil=>rfl
   | cons a r ih=>simp [T.intsOf,ih]
  exact this ns]
 simp only
 rw [if_pos h]
theorem pY (h:Hs W n) (hn:n<=24) {ns:List Int} (hl:ns.length<64) (hne:PySem.W.sortI ns≠(List.range n).map fun t:Nat=>(t:Int)):gQ [W,iZ ns]=.er "NoRoom":=by
 have e1:=o7 (Γ:=aq 2 [W,iZ ns]) (fl:=ae (af 1) ah) (aw (aD rfl) ai) hl
 have e2:=Ao (n:=n) (Γ:=aq 2 [W,iZ ns]) (by omega) (aw (h.sz (i:=0) rfl) ai)
 rw [uf] at e2;have t:aO ao (ay qf (eo (ae (af 1) ah)) (vL (ae (bW bt (ae (av (af 0) (eK (.int 0))) ah)) ah))) (aq 2 [W,iZ ns])=.ok true (aq 2 [W,iZ ns]):=eO (s:=.leaf) (aQ e1 e2 (by rw [FG,decide_eq_false hne];rfl))
 exact bV (aB (nI h) (lC (bJ t (fun _=>rfl) nofun)))
theorem lS {ns:List Int} {r:Int} (h:r∈ns) (hr:r<0\/(n:Int)<=r):PySem.W.sortI ns≠(List.range n).map fun t:Nat=>(t:Int):=fun e=>by
 have:r∈(List.range n).map fun t:Nat=>(t:Int):=e▸(PySem.W.sortI_perm ns).mem_iff.mpr h
 obtain ⟨t,h1,h2⟩:=List.mem_map.mp this;have:=List.mem_range.mp h1
 omega
theorem lU {ns:List Int} (h:ns.length≠n):PySem.W.sortI ns≠(List.range n).map fun t:Nat=>(t:Int):=fun e=>h (by
 have:=congrArg List.length e
 rw [(PySem.W.sortI_perm ns).length_eq] at this;simpa using this)
theorem Ef (h:Hs W n) {m:Str} (hm:dS true (.str m) bI=some (.bool true)):gg [W,.str m]=.er "NoMark":=by
 have c:d7 [.str m]=.er "NoMark":=bV (Γ':=aq 1 [.str m]) (bJ (t:=true) (eO (s:=.leaf) (aQ (aD rfl) aX hm)) (fun _=>rfl) nofun)
 exact bV (aB (nI h) (lC (d5 (dR (aw (aD rfl) ai) c rfl))))
end
noncomputable abbrev DQ (n:Nat):D:=eQ (List.replicate n (.int 0)) (List.replicate n (.list [.str "a"])) ((List.range n).map fun r:Nat=>.list [.int (((r+1) % n:Nat):Int)])
theorem Hw {j:Nat} (hj:j<18):(∃s,bM [.int ((7+j:Nat):Int)]=.ok ⟨s,DQ (7+j)⟩)/\Hs (DQ (7+j)) (7+j):=by
 have ck:aF [DQ (7+j)]=.ok ⟨.leaf,.none⟩:=by
  rcases (by omega:j=0\/j=1\/j=2\/j=3\/j=4\/j=5\/j=6\/j=7\/j=8\/j=9\/j=10\/j=11\/j=12\/j=13\/j=14\/j=15\/j=16\/j=17) with rfl | rfl | rfl | rfl | rfl | rfl | rfl | rfl | rfl | rfl | rfl | rfl | rfl | rfl | rfl | rfl | rfl | rfl<;>kernel_rfl
 refine ⟨?_,by have:=zX ck;rwa [length_replicate] at this⟩
 rcases (by omega:j=0\/j=1\/j=2\/j=3\/j=4\/j=5\/j=6\/j=7\/j=8\/j=9\/j=10\/j=11\/j=12\/j=13\/j=14\/j=15\/j=16\/j=17) with rfl | rfl | rfl | rfl | rfl | rfl | rfl | rfl | rfl | rfl | rfl | rfl | rfl | rfl | rfl | rfl | rfl | rfl<;>exact ⟨W3,by kernel_rfl⟩
theorem pk {Γ:Ev} {fl:FL} {ps:List PV} {fb:F1} {k:Int} {j:Nat} {p:PV} (hl:fl Γ=.ok ps Γ) (hc:ps.all (coer .leaf)=true) (hn:decide (ps.length<=1000)=true) (hb:fb Γ=.ok ⟨.leaf,.int k⟩ Γ) (hk:k=(j:Int)) (hp:ps[j]?=some p):av (aG .leaf fl) fb Γ=.ok ⟨.leaf,p.d⟩ Γ:=by
 subst hk;have lt:j<ps.length:=(List.getElem?_eq_some_iff.mp hp).1
 exact wD (jA (s:=.leaf) hl rfl hc hn) hb (Iq (by simpa using lt)) (by rw [getElem?_map,hp];rfl) rfl
theorem ke {a b:Int} {r:List D} {x:Bool} (h:¬a<b):(x&&dg (.int a::.int b::r))=false:=by rw [uh h,Bool.and_false]
theorem gB {Γ:Ev} {i:Nat} {c m:Int} (h:Γ[i]?=some (some ⟨.leaf,.int c⟩)) (hm:0<m):ay bN (af i) (eK (.int m)) Γ=.ok ⟨.leaf,.int (c % m)⟩ Γ:=aQ (aD h) aX (eV hm)
noncomputable abbrev GR (k:Int) (W:D) (r c:Int) (n:Nat):Ev:=[some ⟨.leaf,.int k⟩,some ⟨.leaf,W⟩,some ⟨.leaf,.int r⟩,some ⟨.leaf,.int c⟩,some ⟨.leaf,.int (n:Int)⟩]
theorem cM {Γ:Ev} {k j:Int} {a b:FS} {o:dr} (h0:Γ[0]?=some (some ⟨.leaf,.int k⟩)) (hk:(k==j)=false) (h:b Γ=o):bO (aO ao (ay aZ (af 0) (eK (.int j)))) a b Γ=o:=
 bJ (t:=false) (by rw [<-hk];exact eO (s:=.leaf) (aQ (aD h0) aX KC.eq_int)) nofun fun _=>h
theorem sD {Γ:Ev} {k:Int} {a b:FS} {o:dr} (h0:Γ[0]?=some (some ⟨.leaf,.int k⟩)) (h:a Γ=o):bO (aO ao (ay aZ (af 0) (eK (.int k)))) a b Γ=o:=
 bJ (t:=true) (by rw [show true=(k==k) by simp];exact eO (s:=.leaf) (aQ (aD h0) aX KC.eq_int)) (fun _=>h) nofun
section
variable {w:Wd} {r c:Int}
theorem Ad {m:Nat} {x:Int}:(List.replicate m [PyData.int x]).flatten=(List.replicate m x).map .int:=by
 induction m with
 | zero=>rfl
 | succ m ih=>rw [replicate_succ,flatten_cons,ih,replicate_succ];rfl
theorem JH (ok:w.Ok) (hr:r<0\/(w.n:Int)<=r) {k:Int} (h0:0<=k) (h1:k<11):di [.int k,w.enc,.int r,.int c]=.er "NoRoom":=by
 have h:=kW ok
 have hp:=ok.h1
 have h24:=ok.h24
 have s1:aE false 4 (bW bt (ae (av (af 1) (eK (.int 0))) ah)) (aq 5 [.int k,w.enc,.int r,.int c])=.nx (GR k w.enc r c w.n):=ez (h.sz (i:=1) rfl) rfl (by simp [aq])
 refine bV (Γ':=GR k w.enc r c w.n) (aB s1 ?_)
 have m2:=gB (Γ:=GR k w.enc r c w.n) (i:=3) (m:=2) rfl (by omega)
 have c2:c % 2=0\/c % 2=1:=by omega
 have p2:∀{f0 f1:F1} {p0 p1:PV},f0 (GR k w.enc r c w.n)=.ok p0 (GR k w.enc r c w.n)->f1 (GR k w.enc r c w.n)=.ok p1 (GR k w.enc r c w.n)->coer .leaf p0=true->coer .leaf p1=true ->
   av (aG .leaf (ae f0 (ae f1 ah))) (ay bN (af 3) (eK (.int 2))) (GR k w.enc r c w.n)=.ok ⟨.leaf,if c % 2=0 then p0.d else p1.d⟩ (GR k w.enc r c w.n):=fun {f0 f1 p0 p1} e0 e1 a0 a1=>by
  rcases c2 with z | z
  ·rw [if_pos z];exact pk (j:=0) (aw e0 (aw e1 ai)) (by simp [a0,a1]) rfl m2 z rfl
  ·rw [if_neg (by omega)];exact pk (j:=1) (aw e0 (aw e1 ai)) (by simp [a0,a1]) rfl m2 z rfl
 have vr:af 2 (GR k w.enc r c w.n)=.ok ⟨.leaf,.int r⟩ (GR k w.enc r c w.n):=aD rfl
 have ow:ay aZ (ay bN (af 3) (eK (.int 2))) (eK (.int 1)) (GR k w.enc r c w.n)=.ok ⟨.leaf,.bool (c % 2==1)⟩ (GR k w.enc r c w.n):=aQ m2 aX KC.eq_int
 have v0:∀i:Int,eK (.int i) (GR k w.enc r c w.n)=.ok ⟨.leaf,.int i⟩ (GR k w.enc r c w.n):=fun i=>aX
 have q1:=p2 (v0 0) vr rfl rfl
 have q2:=p2 vr (v0 0) rfl rfl
 have mk':bx (ae (eK (.str "mark")) (ae (eK (.str "a")) ah)) (GR k w.enc r c w.n)=.ok ⟨.tup [.leaf,.leaf],.tuple [.str "mark",.str "a"]⟩ (GR k w.enc r c w.n):=bQ (aw aX (aw aX ai)) rfl rfl
 rcases (by omega:k=0\/k=1\/k=2\/k=3\/k=4\/k=5\/k=6\/k=7\/k=8\/k=9\/k=10) with rfl | rfl | rfl | rfl | rfl | rfl | rfl | rfl | rfl | rfl | rfl
 ·exact sD rfl (d5 (dR (aw (aD rfl) (aw vr ai)) (rF h hr) rfl))
 ·refine cM rfl (by decide) (sD rfl (d5 (dR (aw (aD rfl) (aw (o7 (ns:=[0,r]) (aw (jA (s:=.leaf) (aw (v0 0) (aw vr ai)) rfl rfl rfl) ai) (by simp)) ai)) (Ir h Dy ?_ (BS (i:=r) ?_ hr)) rfl)))
  ·rw [length_map,(PySem.W.sortI_perm _).length_eq];simp
  ·exact List.mem_map_of_mem ((PySem.W.sortI_perm _).mem_iff.mpr (by simp))
 ·have m3:=gB (Γ:=GR 2 w.enc r c w.n) (i:=3) (m:=3) rfl (by omega)
  have sb:ay gSub (af 4) (eK (.int 1)) (GR 2 w.enc r c w.n)=.ok ⟨.leaf,.int ((w.n:Int)-1)⟩ (GR 2 w.enc r c w.n):=aQ (aD rfl) aX sub_int'
  have l:=aw (jA (s:=.leaf) (aw (v0 0) (aw (v0 0) ai)) rfl rfl rfl) (aw (jA (s:=.leaf) ai rfl rfl rfl) (aw (jA (s:=.leaf) (aw sb (aw (v0 0) (aw sb ai))) rfl rfl rfl) ai))
  refine cM rfl (by decide) (cM rfl (by decide) (sD rfl ?_))
  rcases (by omega:c % 3=0\/c % 3=1\/c % 3=2) with z | z | z
  ·exact d5 (dR (aw (aD rfl) (aw (pk (j:=0) l rfl rfl m3 z rfl) ai)) (Ir h (Dy (ts:=[0,0])) (by simp) (ke (by omega))) rfl)
  ·exact d5 (dR (aw (aD rfl) (aw (pk (j:=1) l rfl rfl m3 z rfl) ai)) (yf ok) rfl)
  ·exact d5 (dR (aw (aD rfl) (aw (pk (j:=2) l rfl rfl m3 z rfl) ai)) (Ir h (Dy (ts:=[(w.n:Int)-1,0,(w.n:Int)-1])) (by simp) (ke (by omega))) rfl)
 ·have m4:=gB (Γ:=GR 3 w.enc r c w.n) (i:=3) (m:=4) rfl (by omega)
  have e1:kZ (aG .leaf (ae (eK (.int 0)) ah)) (ay aW (af 4) (eK (.int 1))) (GR 3 w.enc r c w.n)=.ok ⟨.lst .leaf,iZ (List.replicate (w.n+1) 0)⟩ (GR 3 w.enc r c w.n):=by
   have q:=zt (Γ:=GR 3 w.enc r c w.n) (jA (s:=.leaf) (aw (v0 0) ai) rfl rfl rfl) (aQ (aD (i:=4) rfl) (v0 1) nG) (by omega) (by omega) (by simp;omega)
   rw [show ((w.n:Int)+1).toNat=w.n+1 by omega] at q
   rw [q];show Out.ok (⟨.lst .leaf,.list (List.replicate (w.n+1) [PyData.int 0]).flatten⟩:PV) _=_
   rw [Ad]
  have e3:kZ (aG .leaf (ae (af 2) ah)) (af 4) (GR 3 w.enc r c w.n)=.ok ⟨.lst .leaf,iZ (List.replicate w.n r)⟩ (GR 3 w.enc r c w.n):=by
   have q:=zt (Γ:=GR 3 w.enc r c w.n) (jA (s:=.leaf) (aw vr ai) rfl rfl rfl) (aD (i:=4) rfl) (by omega) (by omega) (by simp;omega)
   rw [show ((w.n:Int)).toNat=w.n by omega] at q
   rw [q];show Out.ok (⟨.lst .leaf,.list (List.replicate w.n [PyData.int r]).flatten⟩:PV) _=_
   rw [Ad]
  have e2:gL (vL (ae (ay gSub (af 4) (eK (.int 1))) ah)) (aG .leaf (ae (af 2) ah)) (GR 3 w.enc r c w.n)=.ok ⟨.lst .leaf,iZ (((List.range (w.n-1)).map fun t:Nat=>(t:Int))++[r])⟩ (GR 3 w.enc r c w.n):=by
   have q:=Ao (n:=w.n-1) (Γ:=GR 3 w.enc r c w.n) (fl:=ae (ay gSub (af 4) (eK (.int 1))) ah) (s:=.leaf) (by omega) (aw (aQ (aD (i:=4) rfl) (v0 1) (by rw [show (((w.n-1:Nat)):Int)=(w.n:Int)-1 by omega];exact sub_int')) ai)
   rw [uf] at q;rw [Ex q (jA (s:=.leaf) (aw vr ai) rfl rfl rfl) rfl rfl (by simp;omega)]
   simp
  have l:=aw (jA (s:=.leaf) (Γ:=GR 3 w.enc r c w.n) ai rfl rfl rfl) (aw e1 (aw e2 (aw e3 ai)))
  refine cM rfl (by decide) (cM rfl (by decide) (cM rfl (by decide) (sD rfl ?_)))
  rcases (by omega:c % 4=0\/c % 4=1\/c % 4=2\/c % 4=3) with z | z | z | z
  ·exact d5 (dR (aw (aD rfl) (aw (pk (j:=0) l rfl rfl m4 z rfl) ai)) (pY h h24 (ns:=[]) (by simp) (lU (by simp;omega))) rfl)
  ·exact d5 (dR (aw (aD rfl) (aw (pk (j:=1) l rfl rfl m4 z rfl) ai)) (pY h h24 (by simp;omega) (lU (by simp))) rfl)
  ·exact d5 (dR (aw (aD rfl) (aw (pk (j:=2) l rfl rfl m4 z rfl) ai)) (pY h h24 (by simp;omega) (lS (r:=r) (by simp) hr)) rfl)
  ·exact d5 (dR (aw (aD rfl) (aw (pk (j:=3) l rfl rfl m4 z rfl) ai)) (pY h h24 (by simp;omega) (lS (r:=r) (by simp;omega) hr)) rfl)
 ·exact cM rfl (by decide) (cM rfl (by decide) (cM rfl (by decide) (cM rfl (by decide) (sD rfl (d5 (dR (aw (aD rfl) (aw vr (aw (v0 0) (aw ow ai)))) (pZ h (by omega) (.inl hr)) rfl))))))
 ·exact cM rfl (by decide) (cM rfl (by decide) (cM rfl (by decide) (cM rfl (by decide) (cM rfl (by decide) (sD rfl (d5 (dR (aw (aD rfl) (aw (v0 0) (aw vr (aw ow ai)))) (pZ h (by omega) (.inr ⟨rfl,hr⟩)) rfl)))))))
 ·have l:=p2 (jA (s:=.leaf) (aw (bQ (aw (v0 0) (aw (v0 0) ai)) rfl rfl) (aw (bQ (aw (v0 0) (aw vr ai)) rfl rfl) ai)) rfl rfl rfl) (jA (s:=.leaf) (aw (bQ (aw vr (aw (v0 0) ai)) rfl rfl) ai) rfl rfl rfl) rfl rfl
  refine cM rfl (by decide) (cM rfl (by decide) (cM rfl (by decide) (cM rfl (by decide) (cM rfl (by decide) (cM rfl (by decide) (sD rfl (d5 (dR (aw (aD rfl) (aw l (aw aX ai))) ?_ rfl))))))))
  rcases c2 with z | z
  ·rw [if_pos z];exact FR h (by omega) hr
  ·rw [if_neg (by omega)];exact FQ h (by omega) hr
 ·refine cM rfl (by decide) (cM rfl (by decide) (cM rfl (by decide) (cM rfl (by decide) (cM rfl (by decide) (cM rfl (by decide) (cM rfl (by decide) (sD rfl (d5 (dR (aw (aD rfl) (aw q1 (aw q2 ai))) ?_ rfl)))))))))
  rcases c2 with z | z
  ·rw [if_pos z,if_pos z];exact mM h (.inr hr)
  ·rw [if_neg (by omega),if_neg (by omega)];exact mM h (.inl hr)
 ·have st':bx (ae (eK (.str "step")) (ae (eK (.int 0)) (ae (eK (.int 0)) ah))) (GR 8 w.enc r c w.n)=.ok ⟨.tup [.leaf,.leaf,.leaf],.tuple [.str "step",.int 0,.int 0]⟩ (GR 8 w.enc r c w.n):=bQ (aw aX (aw aX (aw aX ai))) rfl rfl
  have l:=p2 (jA (s:=.leaf) (aw (bQ (aw (v0 0) (aw (v0 0) (aw mk' ai))) rfl rfl) (aw (bQ (aw vr (aw (v0 0) (aw mk' ai))) rfl rfl) ai)) rfl rfl rfl) (jA (s:=.leaf) (aw (bQ (aw (v0 0) (aw vr (aw st' ai))) rfl rfl) ai) rfl rfl rfl) rfl rfl
  refine cM rfl (by decide) (cM rfl (by decide) (cM rfl (by decide) (cM rfl (by decide) (cM rfl (by decide) (cM rfl (by decide) (cM rfl (by decide) (cM rfl (by decide) (sD rfl (d5 (dR (aw (aD rfl) (aw l ai)) ?_ rfl))))))))))
  rcases c2 with z | z
  ·rw [if_pos z];exact FP h (by omega) hr
  ·rw [if_neg (by omega)];exact FO h (by omega) hr
 ·refine cM rfl (by decide) (cM rfl (by decide) (cM rfl (by decide) (cM rfl (by decide) (cM rfl (by decide) (cM rfl (by decide) (cM rfl (by decide) (cM rfl (by decide) (cM rfl (by decide) (sD rfl (d5 (dR (aw (aD rfl) (aw q1 (aw q2 ai))) ?_ rfl)))))))))))
  rcases c2 with z | z
  ·rw [if_pos z,if_pos z];exact Ht h (.inr hr)
  ·rw [if_neg (by omega),if_neg (by omega)];exact Ht h (.inl hr)
 ·obtain ⟨⟨s,er⟩,hR⟩:=Hw (j:=0) (by omega)
  have q3:=p2 (v0 7) (KN (g:=iN) (v0 1) (d:=.int (-1)) rfl) rfl rfl
  refine cM rfl (by decide) (cM rfl (by decide) (cM rfl (by decide) (cM rfl (by decide) (cM rfl (by decide) (cM rfl (by decide) (cM rfl (by decide) (cM rfl (by decide) (cM rfl (by decide) (cM rfl (by decide) (d5 (dR (aw (df (aw (v0 7) ai) er rfl rfl) (aw (v0 0) (aw q3 ai))) ?_ rfl)))))))))))
  rcases c2 with z | z
  ·rw [if_pos z];exact Ht hR (.inr (.inr (by decide)))
  ·rw [if_neg (by omega)];exact Ht hR (.inr (.inl (by decide)))
end
theorem Ai {m:Int} (h:24<m):dh [.int m]=.er "TooGreat":=by
 have t:aO ao (ay jz (af 0) (eK cG)) (aq 1 [.int m])=.ok (decide ((24:Int)<m)) (aq 1 [.int m]):=eO (s:=.leaf) (aQ (aD rfl) aX rfl)
 rw [decide_eq_true h] at t;exact bV (bJ t (fun _=>rfl) nofun)
theorem Er {V:D} {m n:Nat} {W:D} {ds:List D} (h:Hs V n):aR (aj 1 aF (ae (af 1) ah)) (aq m (W::V::ds))=.nx (aq m (W::V::ds)):=wH (df (aw (aD rfl) ai) h.ck rfl rfl)
theorem vf {W V:D} {n m:Nat} (h:Hs W n) (g:Hs V m) (hg:24<n+m):i6 [W,V]=.er "TooGreat":=by
 have s3:aE false 2 (bW bt (ae (av (af 0) (eK (.int 0))) ah)) (aq 7 [W,V])=.nx [some ⟨.leaf,W⟩,some ⟨.leaf,V⟩,some ⟨.leaf,.int (n:Int)⟩,none,none,none,none]:=ez (h.sz (i:=0) rfl) rfl (by simp [aq])
 exact bV (aB (nI h) (aB (Er g) (aB s3 (lC (d5 (dR (aw (aQ (aD (i:=2) rfl) (g.sz (i:=1) rfl) nG) ai) (Ai (by omega)) rfl))))))
theorem oo {W V:D} {n m:Nat} (h:Hs W n) (g:Hs V m) (hm:jM (.int (n:Int)) (.int (m:Int))=some (.int ((n:Int)*(m:Int)))) (hg:(24:Int)<(n:Int)*(m:Int)):fT [W,V]=.er "TooGreat":=by
 have s3:aE false 2 (bW bt (ae (av (af 1) (eK (.int 0))) ah)) (aq 9 [W,V])=.nx [some ⟨.leaf,W⟩,some ⟨.leaf,V⟩,some ⟨.leaf,.int (m:Int)⟩,none,none,none,none,none,none]:=ez (g.sz (i:=1) rfl) rfl (by simp [aq])
 exact bV (aB (nI h) (aB (Er g) (aB s3 (lC (d5 (dR (aw (aQ (h.sz (i:=0) rfl) (aD (i:=2) rfl) hm) ai) (Ai hg) rfl))))))
theorem EO:(∃s,bM [.int 5]=.ok ⟨s,DQ 5⟩)/\Hs (DQ 5) 5:=by
 have ck:aF [DQ 5]=.ok ⟨.leaf,.none⟩:=by kernel_rfl
 exact ⟨⟨W3,by kernel_rfl⟩,by have:=zX ck;rwa [length_replicate] at this⟩
theorem Kl {c k:Int} (h0:0<=k) (h1:k<3):dj [.int k,.int c]=.er "TooGreat":=by
 refine bV (Γ':=aq 2 [.int k,.int c]) ?_
 rcases (by omega:k=0\/k=1\/k=2) with rfl | rfl | rfl
 ·obtain ⟨⟨s,e⟩,hR⟩:=Hw (j:=6) (by omega)
  obtain ⟨⟨t,f⟩,hS⟩:=Hw (j:=5) (by omega)
  exact sD rfl (d5 (dR (aw (df (aw aX ai) e rfl rfl) (aw (df (aw aX ai) f rfl rfl) ai)) (vf hR hS (by omega)) rfl))
 ·obtain ⟨⟨s,e⟩,hR⟩:=EO
  exact cM rfl (by decide) (sD rfl (d5 (dR (aw (df (aw aX ai) e rfl rfl) (aw (df (aw aX ai) e rfl rfl) ai)) (oo hR hR (by kernel_rfl) (by decide)) rfl)))
 ·obtain ⟨j,hj,ej⟩:∃j:Nat,j<18/\c % 18=(j:Int):=⟨(c % 18).toNat,by omega,by omega⟩
  obtain ⟨⟨s,e⟩,hR⟩:=Hw hj;have ea:ay aW (eK (.int 7)) (ay bN (af 1) (eK (.int 18))) (aq 2 [.int 2,.int c])=.ok ⟨.leaf,.int ((7+j:Nat):Int)⟩ (aq 2 [.int 2,.int c]):=by
   rw [show (((7+j:Nat)):Int)=7+c % 18 by omega]
   exact aQ (aX (d:=.int 7)) (gB rfl (by omega)) nG
  have eb:ay bN (ay hV (af 1) (eK (.int 7))) (eK (.int 7)) (aq 2 [.int 2,.int c])=.ok ⟨.leaf,.int (c / 7 % 7)⟩ (aq 2 [.int 2,.int c]):=aQ (aQ (aD rfl) (aX (d:=.int 7)) (qr (by omega) (by omega))) (aX (d:=.int 7)) (eV (by omega))
  exact cM rfl (by decide) (cM rfl (by decide) (d5 (dR (aw (df (aw ea ai) e rfl rfl) (aw (gB rfl (by omega)) (aw eb ai))) (vg hR (by omega) (by omega) (by omega) (by omega) (by omega)) rfl)))
noncomputable abbrev tl (b:Nat):D:=.list ((List.range 7).map fun k=>.bool (k==b||k==6))
theorem KM:me__law_which "TooGreat"=.ok ⟨.lst .leaf,tl 4⟩:=by with_unfolding_all rfl
theorem L0:me__law_which "NoRoom"=.ok ⟨.lst .leaf,tl 3⟩:=by with_unfolding_all rfl
theorem L1:me__law_which "NoMark"=.ok ⟨.lst .leaf,tl 1⟩:=by with_unfolding_all rfl
theorem Lu:b5 [tl 4,.int 4]=.ok ⟨.leaf,.bool true⟩:=by kernel_rfl
theorem Mf:b5 [tl 3,.int 3]=.ok ⟨.leaf,.bool true⟩:=by kernel_rfl
theorem Mg:b5 [tl 1,.int 1]=.ok ⟨.leaf,.bool true⟩:=by kernel_rfl
noncomputable abbrev GB (c:Int) (s:D) (x2 x3 x4:Option PV):Ev:=[some ⟨.leaf,.int c⟩,some ⟨.leaf,s⟩,x2,x3,x4,none]
noncomputable abbrev bB:FS:=(ak (aE false 4 (av (aG .leaf (ae (eK (.str "all until")) (ae (eK (.str "some until")) (ae (eK (.str "or")) (ae (eK (.str "and")) ah))))) (aj 3 az (ae (af 0) (ae (af 2) (ae (eK (.int 4)) ah))))))
  (aE false 1 (nJ (aO ao (ay aZ (aj 3 az (ae (af 0) (ae (ay aW (eK (.int 20)) (af 2)) (ae (eK (.int 2)) ah)))) (eK (.int 0)))) (bx (ae (af 4) (ae (af 1) (ae (bx (ae (eK (.str "mark")) (ae (eK (.str "b")) ah))) ah)))) (bx (ae (af 4) (ae (bx (ae (eK (.str "mark")) (ae (eK (.str "c")) ah))) (ae (af 1) ah)))))))
theorem Ez {c:Int} {s:Sn} (hs:s.ok) {k:Nat} (hk:k<7) {x3 x4:Option PV}:∃(s':Sn) (y4:Option PV),bB (GB c s.enc (some ⟨.leaf,rm k⟩) x3 x4)=.nx (GB c s'.enc (some ⟨.leaf,rm k⟩) x3 y4)/\s'.ok/\s'.dep<=s.dep+1/\s'.size=s.size+2:=by
 obtain ⟨d1,e1,a1,b1⟩:=HA (c:=c) (k:=(k:Int)) (b:=4) (by omega) (by omega) (by omega) (by omega)
 obtain ⟨d2,e2,a2,b2⟩:=HA (c:=c) (k:=20+(k:Int)) (b:=2) (by omega) (by omega) (by omega) (by omega)
 have dp:=s.dep_pos
 have c1:aj 3 az (ae (af 0) (ae (af 2) (ae (eK (.int 4)) ah))) (GB c s.enc (some ⟨.leaf,rm k⟩) x3 x4)=.ok ⟨.leaf,.int d1⟩ (GB c s.enc (some ⟨.leaf,rm k⟩) x3 x4):=df (aw (aD rfl) (aw (aD rfl) (aw aX ai))) e1 rfl rfl
 have w4:∃q:B4,av (aG .leaf (ae (eK (.str "all until")) (ae (eK (.str "some until")) (ae (eK (.str "or")) (ae (eK (.str "and")) ah))))) (aj 3 az (ae (af 0) (ae (af 2) (ae (eK (.int 4)) ah)))) (GB c s.enc (some ⟨.leaf,rm k⟩) x3 x4)=.ok ⟨.leaf,.str q.w.t⟩ (GB c s.enc (some ⟨.leaf,rm k⟩) x3 x4):=by
  have l:=aw (aX (Γ:=GB c s.enc (some ⟨.leaf,rm k⟩) x3 x4) (d:=.str "all until")) (aw (aX (d:=.str "some until")) (aw (aX (d:=.str "or")) (aw (aX (d:=.str "and")) ai)))
  rcases (by omega:d1=0\/d1=1\/d1=2\/d1=3) with z | z | z | z
  ·exact ⟨.au,pk (j:=0) l rfl rfl c1 z rfl⟩
  ·exact ⟨.su,pk (j:=1) l rfl rfl c1 z rfl⟩
  ·exact ⟨.or,pk (j:=2) l rfl rfl c1 z rfl⟩
  ·exact ⟨.and,pk (j:=3) l rfl rfl c1 z rfl⟩
 obtain ⟨q,eq⟩:=w4;have s1:=ez (i:=4) eq rfl (by simp)
 have c2:aO ao (ay aZ (aj 3 az (ae (af 0) (ae (ay aW (eK (.int 20)) (af 2)) (ae (eK (.int 2)) ah)))) (eK (.int 0))) (GB c s.enc (some ⟨.leaf,rm k⟩) x3 (some ⟨.leaf,.str q.w.t⟩))=.ok (d2==0) (GB c s.enc (some ⟨.leaf,rm k⟩) x3 (some ⟨.leaf,.str q.w.t⟩)):=
  eO (s:=.leaf) (aQ (df (aw (aD rfl) (aw (aQ aX (aD rfl) nG) (aw aX ai))) e2 rfl rfl) aX KC.eq_int)
 by_cases hz:d2=0
 ·rw [show (d2==0)=true by simpa using hz] at c2
  refine ⟨.bi q s (.mk "b"),_,aB s1 (ez (i:=1) (i8 c2 (fun _=>bQ (aw (aD rfl) (aw (aD rfl) (aw (bQ (aw aX (aw aX ai)) rfl rfl) ai))) rfl rfl) nofun) rfl (by simp)),⟨hs,by show _∈dG;decide +kernel⟩,by simp only [Sn.dep];omega,by simp only [Sn.size]⟩
 ·rw [show (d2==0)=false by simpa using hz] at c2
  refine ⟨.bi q (.mk "c") s,_,aB s1 (ez (i:=1) (i8 c2 nofun (fun _=>bQ (aw (aD rfl) (aw (bQ (aw aX (aw aX ai)) rfl rfl) (aw (aD rfl) ai))) rfl rfl)) rfl (by simp)),⟨by show _∈dG;decide +kernel,hs⟩,by simp only [Sn.dep];omega,by simp only [Sn.size];omega⟩
theorem oI {c:Int}:cF [.int c]=.ok ⟨.leaf,.bool true⟩:=by
 obtain ⟨Γ',ef,_,s,x2,x4,hs,hd,hz,rfl⟩:=IV rm (i:=2) (body:=bB) (Inv:=fun l' Γ=>(∀y∈l',y<7)/\∃(s:Sn) (x2 x4:Option PV),s.ok/\s.dep+l'.length<=8/\s.size+2*l'.length<=15/\Γ=GB c s.enc x2 none x4) (fun y bf Γ ⟨hr,s,x2,x4,h1,h2,h3,e⟩=>by
  subst e;obtain ⟨s',y4,e1,e2,e3,e4⟩:=Ez (c:=c) h1 (hr y (by simp)) (x3:=none) (x4:=x4)
  simp only [length_cons] at h2 h3
  exact ⟨by simp,_,e1,fun z hz=>hr z (by simp [hz]),s',_,y4,e2,by omega,by omega,rfl⟩) (List.range 7) (GB c (Sn.mk "a").enc none none none) ⟨fun y hy=>List.mem_range.mp hy,.mk "a",none,none,by show _∈dG;decide +kernel,by simp [Sn.dep],by simp [Sn.size],rfl⟩
 simp only [length_nil] at hd hz
 have fin:∀{Γ:Ev},Γ=GB c s.enc x2 (some ⟨.leaf,.bool true⟩) x4->aS (ay (rJ false) (af 3) (eK (.bool true))) Γ=.rt ⟨.leaf,.bool true⟩:=fun {Γ} e=>by
  subst e;exact bg (aQ (aD rfl) aX rfl) rfl
 have tr:jg xcl 5 (aE false 3 (aj 1 bj (ae (aK 1 fU (ae (af 1) ah)) ah))) (fun c=>aE false 3 (aj 2 b5 (ae (kY (me__law_which c)) (ae (eK (.int 4)) ah)))) (GB c s.enc x2 (some ⟨.leaf,.bool false⟩) x4)=.nx (GB c s.enc x2 (some ⟨.leaf,.bool true⟩) x4):=by
  rcases rT hs (by omega) (by omega) with ⟨d,e1,e2⟩ | e
  ·exact sQ (ez (df (aw (sL (aw (aD rfl) ai) e1 rfl rfl) ai) e2 rfl rfl) rfl (by simp))
  ·have er:aK 1 fU (ae (af 1) ah) (GB c s.enc x2 (some ⟨.leaf,.bool false⟩) x4)=.er "TooGreat" (GB c s.enc x2 (some ⟨.leaf,.bool false⟩) x4):=dR (aw (aD rfl) ai) e rfl
   have er2:aj 1 bj (ae (aK 1 fU (ae (af 1) ah)) ah) (GB c s.enc x2 (some ⟨.leaf,.bool false⟩) x4)=.er "TooGreat" (GB c s.enc x2 (some ⟨.leaf,.bool false⟩) x4):=by
    have ec:∀{fa:F1} {fl:FL} {Γ Γ':Ev} {x:Str},fa Γ=.er x Γ'->ae fa fl Γ=.er x Γ':=fun {fa fl Γ Γ' x} h=>by unfold ae;rw [h];rfl
    have eC:∀{fl:FL} {Γ Γ':Ev} {x:Str},fl Γ=.er x Γ'->aj 1 bj fl Γ=.er x Γ':=fun {fl Γ Γ' x} h=>by unfold aj;rw [h];rfl
    exact eC (ec er)
   exact Iw (sR er2) (by decide +kernel) rfl (ez (df (aw (v_res KM) (aw aX ai)) Lu rfl rfl) rfl (by simp)) rfl
 refine bh (aB (Γ1:=GB c (Sn.mk "a").enc none none none) (ez (bQ (aw aX (aw aX ai)) rfl rfl) rfl (by simp [aq])) (aB (iu (An (s:=.leaf) (n:=7) (by omega) (aw aX ai)) ef) (aB (Γ1:=GB c s.enc x2 (some ⟨.leaf,.bool false⟩) x4) (ez aX rfl (by simp)) (aB tr (fin rfl)))))
noncomputable abbrev GL (xs:List D) (W:D) (c:Int) (n:Nat) (r:Int) (x5 x6:Option PV):Ev:=[some ⟨.leaf,.list xs⟩,some ⟨.leaf,W⟩,some ⟨.leaf,.int c⟩,some ⟨.leaf,.int (n:Int)⟩,some ⟨.leaf,.int r⟩,x5,x6,none]
noncomputable abbrev lT:FS:=(bO (aO ao (ay iV (af 5) (eK (.int 11)))) (aR (aK 4 di (ae (af 5) (ae (af 1) (ae (af 4) (ae (aj 2 aC (ae (af 0) (ae (eK (.int 1)) ah))) ah)))))) (bO (aO ao (ay iV (af 5) (eK (.int 14)))) (aR (aK 2 dj (ae (ay gSub (af 5) (eK (.int 11))) (ae (aj 2 aC (ae (af 0) (ae (eK (.int 1)) ah))) ah)))) (aR (aK 2 gg (ae (af 1) (ae (av (aG .leaf (ae (eK (.str "g")) (ae (eK (.str "")) (ae (eK (.str "ab")) (ae (eK (.str "A")) (ae (eK (.str "yes")) ah)))))) (ay bN (aj 2 aC (ae (af 0) (ae (eK (.int 1)) ah))) (eK (.int 5)))) ah))))))
noncomputable abbrev lD:FL:=(ae (eK (.int 3)) (ae (eK (.int 3)) (ae (eK (.int 3)) (ae (eK (.int 3)) (ae (eK (.int 3)) (ae (eK (.int 3)) (ae (eK (.int 3)) (ae (eK (.int 3)) (ae (eK (.int 3)) (ae (eK (.int 3)) (ae (eK (.int 3)) (ae (eK (.int 4)) (ae (eK (.int 4)) (ae (eK (.int 4)) (ae (eK (.int 1)) ah)))))))))))))))
noncomputable abbrev lB:FS:=(ak (aE false 6 (aG .leaf ah))
  (ak (jg xcl 7 lT fun c=>aE false 6 (kY (me__law_which c)))
  (bO (cU (aO bY (aj 2 b5 (ae (af 6) (ae (av (aG .leaf lD) (af 5)) ah))))) (aS (eK (.bool false))) aP)))
noncomputable def wM (k:Nat):Nat:=if k<11 then 3 else if k<14 then 4 else 1
noncomputable def cls (k:Nat):Str:=if k<11 then "NoRoom" else if k<14 then "TooGreat" else "NoMark"
noncomputable abbrev dl:List PV:=[3,3,3,3,3,3,3,3,3,3,3,4,4,4,1].map fun i:Int=>⟨.leaf,.int i⟩
theorem Gh {Γ:Ev}:lD Γ=.ok dl Γ:=rfl
theorem Gi:∀k,k<15->dl[k]?=some ⟨.leaf,.int (wM k:Int)⟩:=fun k hk=>by
 rcases (by omega:k=0\/k=1\/k=2\/k=3\/k=4\/k=5\/k=6\/k=7\/k=8\/k=9\/k=10\/k=11\/k=12\/k=13\/k=14) with rfl | rfl | rfl | rfl | rfl | rfl | rfl | rfl | rfl | rfl | rfl | rfl | rfl | rfl | rfl<;>rfl
theorem Jv (k:Nat):me__law_which (cls k)=.ok ⟨.lst .leaf,tl (wM k)⟩/\b5 [tl (wM k),.int (wM k:Int)]=.ok ⟨.leaf,.bool true⟩/\xcl.contains (cls k)=true:=by
 unfold wM cls;split
 ·exact ⟨L0,Mf,by decide +kernel⟩
 ·split
  ·exact ⟨KM,Lu,by decide +kernel⟩
  ·exact ⟨L1,Mg,by decide +kernel⟩
section
variable {xs:List D} {w:Wd} {c r:Int}
theorem FN (hx:fA xs) (ok:w.Ok) (hr:r<0\/(w.n:Int)<=r) {k:Nat} (hk:k<15) {x6:Option PV}:lT (GL xs w.enc c w.n r (some ⟨.leaf,rm k⟩) x6)=.er (cls k) (GL xs w.enc c w.n r (some ⟨.leaf,rm k⟩) x6):=by
 obtain ⟨c1,hc1⟩:=Ee hx (k:=1) (by omega)
 have e1:aj 2 aC (ae (af 0) (ae (eK (.int 1)) ah)) (GL xs w.enc c w.n r (some ⟨.leaf,rm k⟩) x6)=.ok ⟨.leaf,.int c1⟩ (GL xs w.enc c w.n r (some ⟨.leaf,rm k⟩) x6):=df (aw (aD rfl) (aw aX ai)) hc1 rfl rfl
 have t:∀j:Int,aO ao (ay iV (af 5) (eK (.int j))) (GL xs w.enc c w.n r (some ⟨.leaf,rm k⟩) x6)=.ok (decide ((k:Int)<j)) (GL xs w.enc c w.n r (some ⟨.leaf,rm k⟩) x6):=fun j=>eO (s:=.leaf) (aQ (aD rfl) aX KC.lt_int)
 have t1:=t 11
 have t2:=t 14
 unfold cls;by_cases h1:k<11
 ·rw [if_pos h1]
  rw [decide_eq_true (by omega)] at t1
  exact bJ t1 (fun _=>d5 (dR (aw (aD rfl) (aw (aD rfl) (aw (aD rfl) (aw e1 ai)))) (JH ok hr (by omega) (by omega)) rfl)) nofun
 ·rw [if_neg h1]
  rw [decide_eq_false (by omega)] at t1
  refine bJ t1 nofun fun _=>?_
  by_cases h2:k<14
  ·rw [if_pos h2]
   rw [decide_eq_true (by omega)] at t2
   exact bJ t2 (fun _=>d5 (dR (aw (aQ (aD rfl) aX sub_int') (aw e1 ai)) (Kl (by omega) (by omega)) rfl)) nofun
  ·rw [if_neg h2]
   rw [decide_eq_false (by omega)] at t2
   refine bJ t2 nofun fun _=>?_
   have m5:ay bN (aj 2 aC (ae (af 0) (ae (eK (.int 1)) ah))) (eK (.int 5)) (GL xs w.enc c w.n r (some ⟨.leaf,rm k⟩) x6)=.ok ⟨.leaf,.int (c1 % 5)⟩ (GL xs w.enc c w.n r (some ⟨.leaf,rm k⟩) x6):=aQ e1 aX (eV (by omega))
   have l:=aw (aX (Γ:=GL xs w.enc c w.n r (some ⟨.leaf,rm k⟩) x6) (d:=.str "g")) (aw (aX (d:=.str "")) (aw (aX (d:=.str "ab")) (aw (aX (d:=.str "A")) (aw (aX (d:=.str "yes")) ai))))
   rcases (by omega:c1 % 5=0\/c1 % 5=1\/c1 % 5=2\/c1 % 5=3\/c1 % 5=4) with z | z | z | z | z
   ·exact d5 (dR (aw (aD rfl) (aw (pk (j:=0) l rfl rfl m5 z rfl) ai)) (Ef (kW ok) (by kernel_rfl)) rfl)
   ·exact d5 (dR (aw (aD rfl) (aw (pk (j:=1) l rfl rfl m5 z rfl) ai)) (Ef (kW ok) (by kernel_rfl)) rfl)
   ·exact d5 (dR (aw (aD rfl) (aw (pk (j:=2) l rfl rfl m5 z rfl) ai)) (Ef (kW ok) (by kernel_rfl)) rfl)
   ·exact d5 (dR (aw (aD rfl) (aw (pk (j:=3) l rfl rfl m5 z rfl) ai)) (Ef (kW ok) (by kernel_rfl)) rfl)
   ·exact d5 (dR (aw (aD rfl) (aw (pk (j:=4) l rfl rfl m5 z rfl) ai)) (Ef (kW ok) (by kernel_rfl)) rfl)
theorem AL (hx:fA xs) (ok:w.Ok) (hr:r<0\/(w.n:Int)<=r) {k:Nat} (hk:k<15) {x6:Option PV}:lB (GL xs w.enc c w.n r (some ⟨.leaf,rm k⟩) x6)=.nx (GL xs w.enc c w.n r (some ⟨.leaf,rm k⟩) (some ⟨.leaf,tl (wM k)⟩)):=by
 obtain ⟨w1,w2,w3⟩:=Jv k;refine aB (Γ1:=GL xs w.enc c w.n r (some ⟨.leaf,rm k⟩) (some ⟨.leaf,.list []⟩)) (ez (jA (s:=.leaf) ai rfl rfl rfl) rfl (by simp)) ?_
 refine aB (Γ1:=GL xs w.enc c w.n r (some ⟨.leaf,rm k⟩) (some ⟨.leaf,tl (wM k)⟩)) (Iw (FN hx ok hr hk) w3 rfl (ez (v_res w1) rfl (by simp)) rfl) ?_
 have q:=pk (Γ:=GL xs w.enc c w.n r (some ⟨.leaf,rm k⟩) (some ⟨.leaf,tl (wM k)⟩)) (fb:=af 5) (k:=(k:Int)) (j:=k) Gh rfl rfl (aD rfl) rfl (Gi k hk)
 exact bJ (t:=false) (jv (b:=true) (iF (s:=.leaf) (df (aw (aD rfl) (aw q ai)) w2 rfl rfl))) nofun fun _=>rfl
end
theorem vW {Γ:Ev} {c:Int} {n:Nat} (h2:Γ[2]?=some (some ⟨.leaf,.int c⟩)) (h3:Γ[3]?=some (some ⟨.leaf,.int (n:Int)⟩)):∃r:Int,(r<0\/(n:Int)<=r)/\av (aG .leaf (ae (af 3) (ae (eU iN (eK (.int 1))) (ae (ay aW (af 3) (ay bN (ay hV (af 2) (eK (.int 4))) (ay jL (eK (.int 10)) (eK (.int 50))))) (ae (ay gSub (eU iN (eK (.int 1))) (ay bN (ay hV (af 2) (eK (.int 4))) (ay jL (eK (.int 10)) (eK (.int 50))))) ah))))) (ay bN (af 2) (eK (.int 4))) Γ=.ok ⟨.leaf,.int r⟩ Γ:=by
 have pw:ay jL (eK (.int 10)) (eK (.int 50)) Γ=.ok ⟨.leaf,.int (10 ^ 50)⟩ Γ:=aQ aX aX (zK (b:=50) (by omega) (by omega))
 have dv:ay hV (af 2) (eK (.int 4)) Γ=.ok ⟨.leaf,.int (c / 4)⟩ Γ:=aQ (aD h2) (aX (d:=.int 4)) (qr (by omega) (by omega))
 generalize hB:(10 ^ 50:Int)=B at pw
 have hB0:0<B:=by rw [<-hB];decide
 have md:ay bN (ay hV (af 2) (eK (.int 4))) (ay jL (eK (.int 10)) (eK (.int 50))) Γ=.ok ⟨.leaf,.int (c / 4 % B)⟩ Γ:=aQ dv pw (eV hB0)
 have ng:eU iN (eK (.int 1)) Γ=.ok ⟨.leaf,.int (-1)⟩ Γ:=KN (g:=iN) (aX (d:=.int 1)) (d:=.int (-1)) rfl
 have n0:0<=c / 4 % B:=Int.emod_nonneg _ (by omega)
 have l:=aw (aD h3) (aw ng (aw (aQ (aD h3) md nG) (aw (aQ ng md sub_int') ai)))
 rcases (by omega:c % 4=0\/c % 4=1\/c % 4=2\/c % 4=3) with z | z | z | z
 ·exact ⟨_,.inr (Int.le_refl _),pk (j:=0) l rfl rfl (gB h2 (by omega)) z rfl⟩
 ·exact ⟨-1,.inl (by omega),pk (j:=1) l rfl rfl (gB h2 (by omega)) z rfl⟩
 ·exact ⟨_,.inr (by omega),pk (j:=2) l rfl rfl (gB h2 (by omega)) z rfl⟩
 ·exact ⟨-1-c / 4 % B,.inl (by omega),pk (j:=3) l rfl rfl (gB h2 (by omega)) z rfl⟩
theorem yG {xs:List D} (hx:fA xs):m_law [.list xs]=.ok ⟨.leaf,.bool true⟩:=by
 obtain ⟨n,os,ms,ss,e0,g,h1,h6⟩:=rU hx (at':=3) (lim:=6) (by omega) (by omega) (by omega)
 obtain ⟨w,ok,ew,rfl⟩:=EA g h1 (by omega)
 obtain ⟨c,hc⟩:=Ee hx (k:=0) (by omega)
 obtain ⟨c2,hc2⟩:=Ee hx (k:=2) (by omega)
 rw [<-ew] at e0;obtain ⟨r,hr,er⟩:=vW (Γ:=[some ⟨.leaf,.list xs⟩,some ⟨.leaf,w.enc⟩,some ⟨.leaf,.int c⟩,some ⟨.leaf,.int (w.n:Int)⟩,none,none,none,none]) (c:=c) (n:=w.n) rfl rfl
 obtain ⟨Γ',ef,_,y5,y6,rfl⟩:=IV rm (i:=5) (body:=lB) (Inv:=fun l' Γ=>(∀y∈l',y<15)/\∃x5 x6,Γ=GL xs w.enc c w.n r x5 x6) (fun y bf Γ ⟨hy,x5,x6,e⟩=>by
  subst e;exact ⟨by simp,_,AL hx ok hr (hy y (by simp)),fun z hz=>hy z (by simp [hz]),_,_,rfl⟩) (List.range 15) (GL xs w.enc c w.n r none none) ⟨fun y hy=>List.mem_range.mp hy,_,_,rfl⟩
 refine bh ?_
 refine aB (ez (df (aw (aD rfl) (aw aX (aw aX ai))) e0 rfl rfl) rfl (by simp [aq])) ?_
 refine aB (ez (df (aw (aD rfl) (aw aX ai)) hc rfl rfl) rfl (by simp [aq])) ?_
 refine aB (ez ((kW ok).sz (i:=1) rfl) rfl (by simp [aq])) ?_
 refine aB (Γ1:=GL xs w.enc c w.n r none none) (ez er rfl (by simp)) ?_
 refine aB (iu (An (s:=.leaf) (n:=15) (by omega) (aw aX ai)) ef) ?_
 exact bg (df (aw (df (aw (aD rfl) (aw aX ai)) hc2 rfl rfl) ai) oI rfl rfl) rfl
theorem law_true (ns:List Int) (hl:ns.length<=63):m_law [.list (ns.map .int)]=.ok ⟨.leaf,.bool true⟩:=yG Dy
end KC.Q5
namespace T
open PySem PySem.Spec L2
open PyProof.Rows hiding St
noncomputable def Lw (X:Cx) (W:XW):Prop:=∃E:XK,Lv X E/\(∀c σ H' C,W c σ H'->X.mg c=some (.ref C)->E (.ref C) none H')/\∀c σ σ' H',W c σ H'->W c σ' H'
theorem Md {P:Program} {w:World} {K:Fg} {mg:Str->Option Value} {base:Heap} {N:List Str} {qual:Str} {sc:Scope} {f:Addr} {cd:Value} {A:Around} {outer:List Env} {s:Shared} {H:Hp} {E:XK} :
  Lw (fg (oZ P w) P w K mg base N qual sc f cd A outer s H E) (wX mg E):=
 ⟨E,⟨rfl,rfl,rfl,fun _ _ h=>h⟩,fun c σ H' C h hC=>h C hC,fun _ _ _ _ h=>h⟩
section
variable {p:Fg->(Str->Option Value)->Prop} {P:Program} {w:World} {K:Fg} {mg:Str->Option Value} {base:Heap} {k:Nat} {y:Str} {s:Stmt} {g:FS}
theorem FJ (F:Ft K mg y s) (e:p K mg) (ps:List Str) (b:cL y s ps) (rs gl:List Str) (vs cs gs:List Nat) (hb:∀(X:Cx) (W:XW),Cp X (ps++rs) gl vs cs vs (jK vs cs) gs->In p X P w K mg base k->DV X W->GX X W->PassesOwn (model X.prog X.w) X.A X.env X.xe->Lw X W->TQ.Q (PSs X (bE s) (tS X.K W g))) (h:fB (ps++rs) gl ps vs cs gs s=true:=by kernel_rfl):DefOkX P w K mg base (k+1) y ps.length (aA (ps++rs).length g):=by
 obtain ⟨f,fd,hm,F⟩:=F;obtain ⟨h1,h2,h3⟩:=km h;exact ⟨f,fd,ps,qh F h3 fun cdv A outer s H E hr=>(hb _ _ (Cp.fnX h1 h2) ⟨rfl,rfl,rfl,rfl,rfl,hr,e⟩ EC FH PassesOwn.leaving Md).p,hm,F.kp,wQ F b⟩
end
end T
namespace KC.Q5
open PySem PySem.Spec L2 T TQ
open PyProof.Rows hiding St
open KC
noncomputable def dy (n:Nat):Stmt:=(PySem.Challenge.pw_foreseehall_k50_rooms_marks_and_greatnes.main.body)[n]!
noncomputable def lX:Stmt:=dy 12
noncomputable def me:Stmt:=dy 13
noncomputable def ma:Stmt:=dy 14
noncomputable def lZ:Stmt:=dy 15
noncomputable def nT:Stmt:=dy 16
noncomputable def jD:Stmt:=dy 17
noncomputable def kI:Stmt:=dy 18
noncomputable def kG:Stmt:=dy 19
noncomputable def jE:Stmt:=dy 20
noncomputable def qM:Stmt:=dy 21
noncomputable def uc:Stmt:=dy 22
noncomputable def nS:Stmt:=dy 27
noncomputable def lY:Stmt:=dy 28
noncomputable def jd:Stmt:=dy 29
noncomputable def lW:Stmt:=dy 30
noncomputable def jC:Stmt:=dy 31
noncomputable def gU:Stmt:=dy 32
noncomputable def gV:Stmt:=dy 33
noncomputable def jB:Stmt:=dy 39
noncomputable def dM:Stmt:=dy 40
noncomputable def iH:Stmt:=dy 41
noncomputable def qN:Stmt:=dy 42
noncomputable def ud:Stmt:=dy 44
noncomputable def lV:Stmt:=dy 45
noncomputable def AY:Stmt:=dy 43
noncomputable def kH:Stmt:=dy 57
noncomputable def ub:Stmt:=dy 58
noncomputable def iI:Stmt:=dy 60
noncomputable def xn:Stmt:=dy 64
noncomputable def kF:Stmt:=dy 66
noncomputable def ue:Stmt:=dy 68
noncomputable def nR:Stmt:=dy 70
noncomputable def AX:Stmt:=dy 73
noncomputable def qL:Stmt:=dy 74
noncomputable def xo:Stmt:=dy 84
noncomputable def je:Stmt:=dy 86
noncomputable def jf:Stmt:=dy 88
noncomputable def mh:Stmt:=dy 89
noncomputable def kJ:Stmt:=dy 90
noncomputable def qO:Stmt:=dy 92
noncomputable def mf:Stmt:=dy 93
noncomputable def kL:Stmt:=dy 94
noncomputable def kM:Stmt:=dy 95
noncomputable def gr:Stmt:=dy 96
noncomputable def EM:Stmt:=dy 97
noncomputable def kK:Stmt:=dy 91
structure Gl (K:Fg) (mg:Str->Option Value):Prop where
 n0:mg "len"=none
 n1:mg "range"=none
 n2:mg "all"=none
 n3:mg "isinstance"=none
 n4:mg "tuple"=none
 n5:mg "str"=none
 n6:mg "sorted"=none
 n7:mg "enumerate"=none
 n8:mg "list"=none
 n9:mg "int"=none
 n10:mg "ValueError"=none
 h0:fC K mg "LETTERS" bI
 h1:fC K mg "MOST_ROOMS" cG
 h2:fC K mg "PLAYERS" cR
 h3:fC K mg "MOST_WORDS" cb
 h4:fC K mg "MOST_DEPTH" cf
 h5:fC K mg "NEVER" cz
 h6:fC K mg "YES" gF
 h7:fC K mg "OF_OPPOSITES" bS
 h8:fC K mg "TURNED" gG
 h9:fC K mg "MOST_ROOMS_APART" cA
 t0:qA K mg "PARTS" dB
 xt:ExT K mg xcl KY
structure Al (K:Fg) (mg:Str->Option Value):Prop where
 g:Gl K mg
 f0:Ft K mg "is_rising" lX
 f1:Ft K mg "are_marks" me
 f2:Ft K mg "are_rooms" ma
 f3:Ft K mg "are_steps" lZ
 f4:Ft K mg "is_world" nT
 f5:Ft K mg "check_world" jD
 f6:Ft K mg "check_mark" kI
 f7:Ft K mg "check_room" kG
 f8:Ft K mg "check_rooms" jE
 f9:Ft K mg "reached" qM
 f10:Ft K mg "marked" uc
 f11:Ft K mg "parts_of" nS
 f12:Ft K mg "is_formed" lY
 f13:Ft K mg "parts_of_all" jd
 f14:Ft K mg "layers_of" lW
 f15:Ft K mg "is_sentence" jC
 f16:Ft K mg "checked_layers" gU
 f17:Ft K mg "check_sentence" gV
 f18:Ft K mg "opposite_of" jB
 f19:Ft K mg "all_until_of_opposites" dM
 f20:Ft K mg "base_of_parts" iH
 f21:Ft K mg "base_of" qN
 f22:Ft K mg "joined" ud
 f23:Ft K mg "shortened" lV
 f24:Ft K mg "base" AY
 f25:Ft K mg "check_pair" kH
 f26:Ft K mg "unlike" ub
 f27:Ft K mg "are_unlike_by" iI
 f28:Ft K mg "apart" xn
 f29:Ft K mg "check_size" kF
 f30:Ft K mg "beside" ue
 f31:Ft K mg "together" nR
 f32:Ft K mg "places_of" cY
 f33:Ft K mg "placed" eT
 f34:Ft K mg "part" AX
 f35:Ft K mg "renamed" qL
 f36:Ft K mg "alike" xo
 f37:Ft K mg "are_alike_by" je
 f38:Ft K mg "_law_cell_at" jf
 f39:Ft K mg "_law_draw" mh
 f40:Ft K mg "_law_world" kJ
 f41:Ft K mg "_law_is" qO
 f42:Ft K mg "_law_ring" mf
 f43:Ft K mg "_law_rooms" kL
 f44:Ft K mg "_law_great" kM
 f45:Ft K mg "_law_base_right" gr
 f46:Ft K mg "law" EM
 f47:Ft K mg "_law_which" kK
section
variable {P:Program} {w:World} {K:Fg} {mg:Str->Option Value} {base:Heap} (A:Al K mg) (B:K.In base/\base.Ns mainGlobals mg)
include A B
theorem fJ:jx P w K mg base 1 "_law_which" xcl me__law_which:=Mb (p:=Gl) A.f47 A.g "e" ky ["told"] F6 [0,1] [] [0,1,2,3,4,5,6,7] fun X a C c hc hC S I hx=>
 TQ.Q.p (AF S (I.xt A.g.xt) hx hc (I.gm hC) (I.gm A.g.n3) (I.gm A.g.n10))
theorem iA:DefOk P w K mg base 2 "is_rising" 1 dD:=mk A.f0 A.g ["entries"] ky ["k"] ["len", "range", "all"] [0] [0] [0,1,2] fun X S I hp=>
 (dm (AA S 2 rfl rfl I.e.n2 (aJ (sI [0,1] [0] [] S 1 (Et S 1 rfl rfl I.e.n1 (aU w_de_int (aJ (jy S 0 I.e.n0 (aJ (ax S 0))))) (tX rfl rfl) (iG rfl)) (fun _ _ _=>w_df_nil) (fun Y1 S1 F1=>have I:=F1.i I;(i9 (nV I.r) (cg (ax S1 0) (DD (ax S1 1) w_de_int)) (cg (ax S1 0) (ax S1 1)))))) (fv rfl) rfl))
theorem mC:DefOk P w K mg base 3 "are_marks" 1 dF:=mk A.f1 A.g ["entries"] ky ["entry"] ["LETTERS", "all", "is_rising"] [0] [] [1,2] fun X S I hp=>
 (dm (DB (AA S 1 rfl rfl I.e.n2 (aJ (sI [1] [] [0] S 1 (w_di_seq (ax S 0)) (fun _ _ _=>w_df_nil) (fun Y1 S1 F1=>have I:=F1.i I;(i9 (uD I.r) (ax S1 1) (dz S1 0 rfl rfl I.e.h0))))) (fv rfl) rfl) (wW (cn S 2 (I.c (iA A B)) (aJ (ax S 0))))))
theorem iB:DefOk P w K mg base 3 "are_rooms" 2 cZ:=mk A.f2 A.g ["entries", "size"] j3 ["entry"] ["all", "is_rising"] [0,1] [1] [0,1] fun X S I hp=>
 (dm (DB (AA S 0 rfl rfl I.e.n2 (aJ (sI [1,2] [1] [] S 2 (w_di_seq (ax S 0)) (fun _ _ _=>w_df_nil) (fun Y1 S1 F1=>have I:=F1.i I;(Eu (Fd I.r) (nV I.r) w_de_int (ax S1 2) (ax S1 1) (by with_unfolding_all rfl))))) (fv rfl) rfl) (wW (cn S 1 (I.c (iA A B)) (aJ (ax S 0))))))
theorem mB:DefOk P w K mg base 4 "are_steps" 2 dE:=mk A.f3 A.g ["entries", "size"] j3 [] ["len", "are_rooms"] [0,1] [] [0,1] fun X S I hp=>
 (dm (DB (i9 (qW I.r) (jy S 0 I.e.n0 (aJ (ax S 0))) w_de_int) (wW (cn S 1 (I.c (iB A B)) (aU (ax S 0) (aJ (ax S 1)))))))
theorem oi:DefOk P w K mg base 5 "is_world" 3 d9:=mk A.f4 A.g ["owners", "marks", "steps"] C8 ["size", "owner", "row"] ["len", "MOST_ROOMS", "PLAYERS", "all", "are_marks", "are_steps"] [0,1,2,3] [3] [0,1,3] fun X S I hp=>
 (br (eD S false 3 (jy S 0 I.e.n0 (aJ (ax S 0)))) (br (du (zm (qB (cO (nV I.r) (ax S 3) w_de_int) (qB (cO (qW I.r) (ax S 3) (dz S 1 rfl rfl I.e.h1)) (qB (cO (Bz I.r) (jy S 0 I.e.n0 (aJ (ax S 1))) (ax S 3)) (zj (cO (Bz I.r) (jy S 0 I.e.n0 (aJ (ax S 2))) (ax S 3))))))) (dm zk) fE) (br (du (wI (sN (AA S 3 rfl rfl I.e.n2 (aJ (sI [4] [] [2] S 4 (w_di_seq (ax S 0)) (fun _ _ _=>w_df_nil) (fun Y1 S1 F1=>have I:=F1.i I;(i9 (uD I.r) (ax S1 4) (dz S1 2 rfl rfl I.e.h2))))) (fv rfl) rfl) (fun _=>rfl))) (dm zk) fE) (dm (DB (AA S 3 rfl rfl I.e.n2 (aJ (sI [5] [] [4] S 5 (w_di_seq (ax S 1)) (fun _ _ _=>w_df_nil) (fun Y2 S2 F2=>have I:=F2.i I;(cn S2 4 (I.c (mC A B)) (aJ (ax S2 5)))))) (fv rfl) rfl) (wW (AA S 3 rfl rfl I.e.n2 (aJ (sI [3,5] [3] [5] S 5 (w_di_seq (ax S 2)) (fun _ _ _=>w_df_nil) (fun Y3 S3 F3=>have I:=F3.i I;(cn S3 5 (I.c (mB A B)) (aU (ax S3 5) (aJ (ax S3 3))))))) (fv rfl) rfl)))))))
theorem qC:DefOk P w K mg base 6 "check_world" 1 aF:=mk A.f5 A.g ["world"] ky [] ["is_world"] [0] [] [0] fun X S I hp=>
 (w_ds_one (du (wI (sN (cn S 0 (I.c (oi A B)) (aU (cg (ax S 0) w_de_int) (aU (cg (ax S 0) w_de_int) (aJ (cg (ax S 0) w_de_int))))) (fun _=>rfl))) (w_ds_one w_ds_no) fE))
theorem jH:DefOkX P w K mg base 2 "check_mark" 1 d7:=mG (p:=Gl) A.f6 A.g ["mark"] ky [] ["LETTERS", "NoMark"] [0] [] [0,1] fun X W S I th mk=>
 (w_ds_one (du (cO (pI I.r) (ax S 0) (dz S 0 rfl rfl I.e.h0)) (w_ds_one (zl S mk 1 (I.ra (A.g.xt.rais B.1 B.2)))) fE))
theorem AC:DefOkX P w K mg base 2 "check_room" 2 bo:=mG (p:=Gl) A.f7 A.g ["world", "room"] j3 [] ["len", "NoRoom"] [0,1] [] [0,1] fun X W S I th mk=>
 (w_ds_one (du (wI (Es (Fd I.r) (nV I.r) w_de_int (ax S 1) (jy S 0 I.e.n0 (aJ (cg (ax S 0) w_de_int))) (by with_unfolding_all rfl))) (w_ds_one (zl S mk 1 (I.ra (A.g.xt.rais B.1 B.2)))) fE))
theorem ji:DefOkX P w K mg base 4 "check_rooms" 2 cX:=mG (p:=Gl) A.f8 A.g ["world", "rooms"] j3 [] ["len", "are_rooms", "NoRoom"] [0,1] [] [0,1,2] fun X W S I th mk=>
 (w_ds_one (du (wI (sN (cn S 1 (I.c (iB A B)) (aU (ax S 1) (aJ (jy S 0 I.e.n0 (aJ (cg (ax S 0) w_de_int)))))) (fun _=>rfl))) (w_ds_one (zl S mk 2 (I.ra (A.g.xt.rais B.1 B.2)))) fE))
theorem nZ:DefOkX P w K mg base 7 "reached" 2 gR:=mG (p:=Gl) A.f9 A.g ["world", "room"] j3 ["found", "waiting", "here", "there"] ["check_world", "check_room"] [0,1,2,3,4,5] [] [0,1] fun X W S I th mk=>
 (br (dA (cn S 0 (I.c (qC A B)) (aJ (ax S 0))) rfl) (br (dA (fD S th 1 (I.x (AC A B)) (aU (ax S 0) (aJ (ax S 1)))) rfl) (br w_ds_no (br w_ds_no (br w_ds_no (w_ds_one w_ds_no))))))
theorem rg:DefOkX P w K mg base 7 "marked" 2 gg:=mG (p:=Gl) A.f10 A.g ["world", "mark"] j3 ["room", "row"] ["check_world", "check_mark"] [0,1] [1] [0,1] fun X W S I th mk=>
 (br (dA (cn S 0 (I.c (qC A B)) (aJ (ax S 0))) rfl) (br (dA (fD S th 1 (I.x (jH A B)) (aJ (ax S 1))) rfl) (w_ds_one w_ds_no)))
theorem Jc:DefOk P w K mg base 2 "parts_of" 1 aT:=mk A.f11 A.g ["sentence"] ky [] [] [0] [] [] fun X S I hp=>
 (dm (Ax (cO (bu I.r) (cg (ax S 0) w_de_int) dw) (fS sG) (sZ (ax S 0) w_de_int)))
theorem mz:DefOk P w K mg base 2 "is_formed" 1 aL:=mk A.f12 A.g ["some"] ky [] ["isinstance", "tuple", "len", "str", "LETTERS", "PARTS"] [0] [] [0,1,2,3,4,5] fun X S I hp=>
 (br (du (zm (qB (wI (sN (lJ S 0 1 rfl rfl rfl rfl rfl qv I.e.n3 I.e.n4 (ax S 0) (fv rfl) (fv rfl) rfl) (fun _=>rfl))) (qB (cO (bu I.r) (jy S 2 I.e.n0 (aJ (ax S 0))) w_de_int) (zj (wI (sN (lJ S 0 3 rfl rfl rfl rfl rfl GD I.e.n3 I.e.n5 (cg (ax S 0) w_de_int) (fv rfl) (fv rfl) rfl) (fun _=>rfl))))))) (dm zk) fE) (br (du (cO (bu I.r) (cg (ax S 0) w_de_int) dw) (dm (DB (i9 (bu I.r) (jy S 2 I.e.n0 (aJ (ax S 0))) w_de_int) (wW (i9 (uD I.r) (cg (ax S 0) w_de_int) (dz S 4 rfl rfl I.e.h0))))) fE) (dm (DB (i7 S 5 rfl rfl I.e.t0 (cg (ax S 0) w_de_int)) (wW (i9 (bu I.r) (jy S 2 I.e.n0 (aJ (ax S 0))) (ly w_de_int (qE S 5 rfl rfl I.e.t0 (cg (ax S 0) w_de_int) (fun _ _=>rfl)))))))))
theorem jj:DefOk P w K mg base 3 "parts_of_all" 1 bR:=mk A.f13 A.g ["sentences"] ky ["found", "sentence"] ["parts_of"] [0,1,2] [] [0] fun X S I hp=>
 (br (eD S true 1 (eA .leaf sG)) (br (DA S 2 rfl rfl hp (w_di_seq (ax S 0)) (w_ds_one (lI S 1 rfl rfl (cn S 0 (I.c (Jc A B)) (aJ (ax S 2))) (iG rfl) rfl rfl rfl rfl)) (fun _=>rfl)) (dm (sY S 1 rfl rfl))))
theorem iz:DefOk P w K mg base 4 "layers_of" 1 cC:=mk A.f14 A.g ["some"] ky ["layers", "layer", "many", "each"] ["len", "MOST_WORDS", "MOST_DEPTH", "is_formed", "all", "parts_of_all"] [0,1,2,3] [] [0,1,2,4,5] fun X S I hp=>
 (br (eD S true 1 (eA .leaf sG)) (br (eD S false 2 (eA .leaf (aJ (ax S 0)))) (br (eD S false 3 w_de_int) (br (nL 1000 hp (sN (ax S 2) (fun _=>rfl)) (br (sX S 3 rfl rfl (jy S 0 I.e.n0 (aJ (ax S 2)))) (br (du (zm (qB (cO (qW I.r) (ax S 3) (dz S 1 rfl rfl I.e.h3)) (qB (cO (bu I.r) (jy S 0 I.e.n0 (aJ (ax S 1))) (dz S 2 rfl rfl I.e.h4)) (zj (wI (sN (AA S 4 rfl rfl I.e.n2 (aJ (sI [4] [] [3] S 4 (w_di_seq (ax S 2)) (fun _ _ _=>w_df_nil) (fun Y1 S1 F1=>have I:=F1.i I;(cn S1 3 (I.c (mz A B)) (aJ (ax S1 4)))))) (fv rfl) rfl) (fun _=>rfl))))))) (dm I0) fE) (br (HK S 1 rfl rfl (ax S 2) (iG rfl) rfl rfl rfl rfl) (w_ds_one (eD S false 2 (cn S 5 (I.c (jj A B)) (aJ (ax S 2))))))))) (dm (sY S 1 rfl rfl))))))
theorem fL:DefOk P w K mg base 5 "is_sentence" 1 bj:=mk A.f15 A.g ["some"] ky [] ["layers_of"] [0] [] [0] fun X S I hp=>
 (dm (i9 (xG I.r) (cn S 0 (I.c (iz A B)) (aJ (ax S 0))) I0))
theorem gZ:DefOk P w K mg base 5 "checked_layers" 1 cQ:=mk A.f16 A.g ["sentence"] ky ["layers"] ["layers_of"] [0,1] [] [0] fun X S I hp=>
 (br (eD S false 1 (cn S 0 (I.c (iz A B)) (aJ (ax S 0)))) (br (du (cO (Kb I.r) (ax S 1) I0) (w_ds_one w_ds_no) fE) (dm (ax S 1))))
theorem g0:DefOk P w K mg base 6 "check_sentence" 1 bG:=mk A.f17 A.g ["sentence"] ky [] ["checked_layers"] [0] [] [0] fun X S I hp=>
 (w_ds_one (dA (cn S 0 (I.c (gZ A B)) (aJ (ax S 0))) rfl))
theorem fK:DefOk P w K mg base 2 "opposite_of" 1 b4:=mk A.f18 A.g ["sentence"] ky [] [] [0] [] [] fun X S I hp=>
 (dm (Ax (cO (bu I.r) (cg (ax S 0) w_de_int) dw) (cg (ax S 0) w_de_int) (fS (aU dw (aJ (ax S 0))))))
theorem dO:DefOk P w K mg base 2 "all_until_of_opposites" 2 bP:=mk A.f19 A.g ["first", "second"] j3 ["comes"] ["NEVER"] [0,1,2] [] [0] fun X S I hp=>
 (br (eD S false 2 (fS (aU dw (aJ (fS (aU dw (aJ (ax S 1)))))))) (br (du (cO (bu I.r) (ax S 0) (dz S 0 rfl rfl I.e.h5)) (dm (ax S 2)) fE) (dm (fS (aU dw (aU (ax S 2) (aJ (fS (aU dw (aJ (fS (aU dw (aU (ax S 1) (aJ (fS (aU dw (aU (ax S 0) (aJ (ax S 1)))))))))))))))))))
theorem iK:DefOk P w K mg base 3 "base_of_parts" 2 b3:=mk A.f20 A.g ["sentence", "parts"] j3 ["word"] ["YES", "all_until_of_opposites", "tuple"] [0,1,2] [] [0,1,2] fun X S I hp=>
 (br (eD S false 2 (cg (ax S 0) w_de_int)) (br (du (cO (bu I.r) (ax S 2) dw) (dm (fS (aU dw (aU (cg (ax S 1) w_de_int) (aJ (cg (ax S 1) w_de_int)))))) fE) (br (du (cO (bu I.r) (ax S 2) dw) (dm (fS (aU dw (aJ (cg (ax S 1) w_de_int))))) fE) (br (du (cO (bu I.r) (ax S 2) dw) (dm (fS (aU dw (aU (dz S 0 rfl rfl I.e.h6) (aJ (cg (ax S 1) w_de_int)))))) fE) (br (du (cO (bu I.r) (ax S 2) dw) (dm (cn S 1 (I.c (dO A B)) (aU (cg (ax S 1) w_de_int) (aJ (cg (ax S 1) w_de_int))))) fE) (dm (Ax (cO (bu I.r) (ax S 2) dw) (ax S 0) (qF (fS (aJ (ax S 2))) (nM S 2 rfl rfl I.e.n4 (ax S 1) (iG rfl))))))))))
theorem og (n:Nat):DefOk P w K mg base (3+n) "base_of" 2 (bH n):=by
 induction n with
 | zero=>exact Lq A.f21 j3
 | succ n ih=>exact mk (k:=3+n) A.f21 A.g ["sentence", "is_so"] j3 ["word", "told", "part"] ["base_of", "parts_of", "OF_OPPOSITES", "base_of_parts", "TURNED", "opposite_of"] [0,1,2,3] [2] [0,1,3,4,5] fun X S I hp=>
  (br (eD S false 2 (cg (ax S 0) w_de_int)) (br (du (cO (bu I.r) (ax S 2) dw) (dm (cn S 0 (I.c ih) (aU (cg (ax S 0) w_de_int) (aJ (sV (ax S 1)))))) fE) (br (eD S false 3 (cn S 3 (I.c (iK A B)) (aU (ax S 0) (aJ (sI [2,4] [2] [0,2] S 4 (lG (cn S 1 (I.c (Jc A B)) (aJ (ax S 0)))) (fun _ _ _=>w_df_nil) (fun Y1 S1 F1=>have I:=F1.i I;(cn S1 0 (I.c ih) (aU (ax S1 4) (aJ (i9 (pI I.r) (ax S1 2) (dz S1 2 rfl rfl I.e.h7))))))))))) (dm (Ax (cO (bu I.r) (ax S 1) (i9 (uD I.r) (ax S 2) (dz S 4 rfl rfl I.e.h8))) (cn S 5 (I.c (fK A B)) (aJ (ax S 3))) (ax S 3))))))
theorem rA:DefOk P w K mg base 23 "base_of" 2 fo:=og A B 20
theorem my:DefOk P w K mg base 2 "joined" 5 gC:=mk A.f22 A.g ["word", "one", "other", "idle", "ruling"] Mo [] [] [0,1,2,3,4] [] [] fun X S I hp=>
 (br (du (zm (qB (cO (bu I.r) (ax S 1) (ax S 4)) (qB (cO (bu I.r) (ax S 2) (ax S 3)) (zj (cO (bu I.r) (ax S 1) (ax S 2)))))) (dm (ax S 1)) fE) (br (du (zm (qB (cO (bu I.r) (ax S 2) (ax S 4)) (zj (cO (bu I.r) (ax S 1) (ax S 3))))) (dm (ax S 2)) fE) (dm (fS (aU (ax S 0) (aU (ax S 1) (aJ (ax S 2))))))))
theorem kO (n:Nat):DefOk P w K mg base (2+n) "shortened" 1 (ba n):=by
 induction n with
 | zero=>exact Lq A.f23 ky
 | succ n ih=>exact mk (k:=2+n) A.f23 A.g ["sentence"] ky ["word", "parts", "is_settled", "part"] ["parts_of", "shortened", "opposite_of", "YES", "NEVER", "joined", "len"] [0,1,2,3] [] [0,2,3,4,5,6] fun X S I hp=>
  (br (eD S false 1 (cg (ax S 0) w_de_int)) (br (gh (vs':=[4]) (cs':=[]) (lo':=[]) (gs':=[1]) S false 2 .leaf 4 rfl rfl rfl rfl (by kernel_rfl) (by kernel_rfl) (by kernel_rfl) (lG (cn S 0 (I.c (Jc A B)) (aJ (ax S 0)))) (fun _ _ _=>w_df_nil) (fun Y1 S1 F1=>have I:=F1.i I;(cn S1 1 (I.c ih) (aJ (ax S1 4)))) (fun _=>rfl)) (br (du (zm (qB (cO (bu I.r) (ax S 1) dw) (zj (cO (bu I.r) (ax S 1) dw)))) (dm (ax S 0)) fE) (br (du (cO (bu I.r) (ax S 1) dw) (dm (cn S 2 (I.c (fK A B)) (aJ (cg (ax S 2) w_de_int)))) fE) (br (du (cO (bu I.r) (ax S 1) dw) (dm (cn S 5 (I.c (my A B)) (aU (ax S 1) (aU (cg (ax S 2) w_de_int) (aU (cg (ax S 2) w_de_int) (aU (dz S 3 rfl rfl I.e.h6) (aJ (dz S 4 rfl rfl I.e.h5)))))))) fE) (br (du (cO (bu I.r) (ax S 1) dw) (dm (cn S 5 (I.c (my A B)) (aU (ax S 1) (aU (cg (ax S 2) w_de_int) (aU (cg (ax S 2) w_de_int) (aU (dz S 4 rfl rfl I.e.h5) (aJ (dz S 3 rfl rfl I.e.h6)))))))) fE) (br (du (cO (bu I.r) (jy S 6 I.e.n0 (aJ (ax S 2))) w_de_int) (br (eD S false 3 (Hy (i9 (bu I.r) (cg (ax S 2) w_de_int) (dz S 4 rfl rfl I.e.h5)) (Hy (i9 (bu I.r) (cg (ax S 2) w_de_int) (dz S 3 rfl rfl I.e.h6)) (wW (i9 (bu I.r) (cg (ax S 2) w_de_int) (dz S 4 rfl rfl I.e.h5)))))) (dm (Ax (sN (ax S 3) (fun _=>rfl)) (cg (ax S 2) w_de_int) (fS (aU (ax S 1) (aU (cg (ax S 2) w_de_int) (aJ (cg (ax S 2) w_de_int)))))))) fE) (dm (Ax (zm (qB (cO (bu I.r) (cg (ax S 2) w_de_int) (dz S 3 rfl rfl I.e.h6)) (zj (cO (bu I.r) (cg (ax S 2) w_de_int) (dz S 4 rfl rfl I.e.h5))))) (cg (ax S 2) w_de_int) (fS (aU (ax S 1) (aJ (cg (ax S 2) w_de_int)))))))))))))
theorem mw:DefOk P w K mg base 22 "shortened" 1 dC:=kO A B 20
theorem xT:DefOkX P w K mg base 24 "base" 1 fU:=mG (p:=Gl) A.f24 A.g ["sentence"] ky ["told"] ["check_sentence", "shortened", "base_of", "is_sentence", "TooGreat"] [0,1] [] [0,1,2,3,4] fun X W S I th mk=>
 (br (dA (cn S 0 (I.c (g0 A B)) (aJ (ax S 0))) rfl) (br (eD S false 1 (cn S 2 (I.c (rA A B)) (aU (cn S 1 (I.c (mw A B)) (aJ (ax S 0))) (aJ zk)))) (br (du (wI (sN (cn S 3 (I.c (fL A B)) (aJ (ax S 1))) (fun _=>rfl))) (w_ds_one (zl S mk 4 (I.ra (A.g.xt.rais B.1 B.2)))) fE) (dm (ax S 1)))))
theorem Jr:DefOkX P w K mg base 3 "check_pair" 3 bX:=mG (p:=Gl) A.f25 A.g ["world", "one", "other"] C8 [] ["check_room"] [0,1,2] [] [0] fun X W S I th mk=>
 (br (dA (fD S th 0 (I.x (AC A B)) (aU (ax S 0) (aJ (ax S 1)))) rfl) (w_ds_one (dA (fD S th 0 (I.x (AC A B)) (aU (ax S 0) (aJ (ax S 2)))) rfl)))
theorem rf:DefOkX P w K mg base 7 "unlike" 3 i4:=mG (p:=Gl) A.f26 A.g ["world", "one", "other"] C8 [] ["check_world", "check_pair"] [0,1,2] [] [0,1] fun X W S I th mk=>
 (br (dA (cn S 0 (I.c (qC A B)) (aJ (ax S 0))) rfl) (br (dA (fD S th 1 (I.x (Jr A B)) (aU (ax S 0) (aU (ax S 1) (aJ (ax S 2))))) rfl) (w_ds_one w_ds_no)))
theorem gY:DefOkX P w K mg base 7 "are_unlike_by" 2 cy:=FJ (p:=Gl) A.f27 A.g ["world", "rows"] j3 ["row", "known"] ["check_world", "check_pair"] [0,1,2,3] [] [0,1] fun X W S I th mk hp lw=>
 (br (dA (cn S 0 (I.c (qC A B)) (aJ (ax S 0))) rfl) (br (DA S 2 rfl rfl hp (w_di_seq (ax S 1)) (w_ds_one (dA (fD S th 1 (I.x (Jr A B)) (aU (ax S 0) (aU (cg (ax S 2) w_de_int) (aJ (cg (ax S 2) w_de_int))))) rfl)) (fun _=>rfl)) (br w_ds_no (br w_ds_no (w_ds_one w_ds_no)))))
theorem IE:DefOkX P w K mg base 7 "apart" 3 fj:=mG (p:=Gl) A.f28 A.g ["world", "one", "other"] C8 ["rows", "told", "row"] ["check_world", "check_pair", "len", "MOST_ROOMS_APART", "TooGreat"] [0,1,2,3,4,5] [] [0,1,2,3,4] fun X W S I th mk=>
 (br (dA (cn S 0 (I.c (qC A B)) (aJ (ax S 0))) rfl) (br (dA (fD S th 1 (I.x (Jr A B)) (aU (ax S 0) (aU (ax S 1) (aJ (ax S 2))))) rfl) (br (du (cO (qW I.r) (jy S 2 I.e.n0 (aJ (cg (ax S 0) w_de_int))) (dz S 3 rfl rfl I.e.h9)) (w_ds_one (zl S mk 4 (I.ra (A.g.xt.rais B.1 B.2)))) fE) (br w_ds_no (br w_ds_no (br w_ds_no (br w_ds_no (w_ds_one w_ds_no))))))))
theorem fI:DefOkX P w K mg base 2 "check_size" 1 dh:=mG (p:=Gl) A.f29 A.g ["size"] ky [] ["MOST_ROOMS", "TooGreat"] [0] [] [0,1] fun X W S I th mk=>
 (w_ds_one (du (cO (qW I.r) (ax S 0) (dz S 0 rfl rfl I.e.h1)) (w_ds_one (zl S mk 1 (I.ra (A.g.xt.rais B.1 B.2)))) fE))
theorem rh:DefOkX P w K mg base 7 "beside" 2 i6:=mG (p:=Gl) A.f30 A.g ["one", "other"] j3 ["size", "owners", "marks", "steps", "row"] ["check_world", "len", "check_size"] [0,1,2,3,4,5] [2] [0,1,2] fun X W S I th mk=>
 (br (dA (cn S 0 (I.c (qC A B)) (aJ (ax S 0))) rfl) (br (dA (cn S 0 (I.c (qC A B)) (aJ (ax S 1))) rfl) (br (eD S false 2 (jy S 1 I.e.n0 (aJ (cg (ax S 0) w_de_int)))) (br (dA (fD S th 2 (I.x (fI A B)) (aJ (ly (ax S 2) (jy S 1 I.e.n0 (aJ (cg (ax S 1) w_de_int)))))) rfl) (br w_ds_no (br w_ds_no (br w_ds_no (w_ds_one w_ds_no))))))))
theorem mr:DefOkX P w K mg base 7 "together" 2 fT:=mG (p:=Gl) A.f31 A.g ["one", "other"] j3 ["width", "owners", "marks", "steps", "first", "owner", "second"] ["check_world", "len", "check_size"] [0,1,2,3,4,5,6,7,8] [] [0,1,2] fun X W S I th mk=>
 (br (dA (cn S 0 (I.c (qC A B)) (aJ (ax S 0))) rfl) (br (dA (cn S 0 (I.c (qC A B)) (aJ (ax S 1))) rfl) (br (eD S false 2 (jy S 1 I.e.n0 (aJ (cg (ax S 1) w_de_int)))) (br (dA (fD S th 2 (I.x (fI A B)) (aJ (DC (jy S 1 I.e.n0 (aJ (cg (ax S 0) w_de_int))) (ax S 2)))) rfl) (br w_ds_no (br w_ds_no (br w_ds_no (br w_ds_no (w_ds_one w_ds_no)))))))))
theorem mx:wz P w K mg base 2:=match A.f32 with | ⟨_,_,hm,F⟩=>kP F hm (wQ F j3) A.g.n6
theorem u6:DefOk P w K mg base 3 "placed" 2 cw:=match A.f33 with | ⟨_,_,hm,F⟩=>ro F hm (wQ F j3) A.g.n7 A.g.n8 (mx A B) rfl
theorem pQ:DefOkX P w K mg base 7 "part" 2 i5:=mG (p:=Gl) A.f34 A.g ["world", "rooms"] j3 ["told"] ["check_world", "check_rooms", "placed", "NoRoom"] [0,1,2] [] [0,1,2,3] fun X W S I th mk=>
 (br (dA (cn S 0 (I.c (qC A B)) (aJ (ax S 0))) rfl) (br (dA (fD S th 1 (I.x (ji A B)) (aU (ax S 0) (aJ (ax S 1)))) rfl) (br (eD S false 2 (cn S 2 (I.c (u6 A B)) (aU (ax S 0) (aJ (ax S 1))))) (br (du (zm (qB (wI (sN (ax S 1) (fun _=>rfl))) (zj (cO (uD I.r) (eA .leaf sG) (cg (ax S 2) w_de_int))))) (w_ds_one (zl S mk 3 (I.ra (A.g.xt.rais B.1 B.2)))) fE) (dm (ax S 2))))))
theorem nY:DefOkX P w K mg base 7 "renamed" 2 gQ:=mG (p:=Gl) A.f35 A.g ["world", "order"] j3 [] ["check_world", "sorted", "len", "list", "range", "NoRoom"] [0,1] [] [0,1,2,3,4,5] fun X W S I th mk=>
 (br (dA (cn S 0 (I.c (qC A B)) (aJ (ax S 0))) rfl) (br (du (cO (Bz I.r) (iw S 1 rfl rfl I.e.n6 (aJ (ax S 1)) (fv rfl) rfl) (eP S 3 4 rfl rfl I.e.n8 rfl rfl I.e.n1 (aJ (jy S 2 I.e.n0 (aJ (cg (ax S 0) w_de_int)))) (iG rfl) (iG rfl))) (w_ds_one (zl S mk 5 (I.ra (A.g.xt.rais B.1 B.2)))) fE) (w_ds_one w_ds_no)))
theorem mv:DefOkX P w K mg base 7 "alike" 4 iT:=mG (p:=Gl) A.f36 A.g ["world", "one", "other", "owned"] LJ ["numbers", "pairs", "waiting", "pair", "needed"] ["check_world", "check_room"] [0,1,2,3,4,5,6,7,8] [] [0,1] fun X W S I th mk=>
 (br (dA (cn S 0 (I.c (qC A B)) (aJ (ax S 0))) rfl) (br (dA (fD S th 1 (I.x (AC A B)) (aU (ax S 0) (aJ (ax S 1)))) rfl) (br (dA (fD S th 1 (I.x (AC A B)) (aU (ax S 0) (aJ (ax S 2)))) rfl) (br w_ds_no (br w_ds_no (br w_ds_no (br w_ds_no (br w_ds_no (w_ds_one w_ds_no)))))))))
theorem iJ:DefOkX P w K mg base 7 "are_alike_by" 3 cE:=FJ (p:=Gl) A.f37 A.g ["world", "pairs", "owned"] C8 ["known", "pair"] ["check_world", "check_room"] [0,1,2,3,4] [0,2,3] [0,1] fun X W S I th mk hp lw=>
 (br (dA (cn S 0 (I.c (qC A B)) (aJ (ax S 0))) rfl) (w6 S I.r hp 4 3 1 rfl rfl rfl rfl rfl rfl rfl rfl (by decide) (by decide) (by decide) (fD S th 1 (I.x (AC A B)) (aU (ax S 0) (aJ (cg (ax S 4) w_de_int)))) (fD S th 1 (I.x (AC A B)) (aU (ax S 0) (aJ (cg (ax S 4) w_de_int)))) rfl rfl (fun _=>rfl) rfl rfl (hno (W:=W))))
theorem AB:DefOk P w K mg base 2 "_law_cell_at" 2 aC:=mk A.f38 A.g ["script", "k"] j3 [] ["len"] [0,1] [] [0] fun X S I hp=>
 (br (du (cO (nV I.r) (ax S 1) (jy S 0 I.e.n0 (aJ (ax S 0)))) (dm (cg (ax S 0) (ax S 1))) fE) (dm w_de_int))
theorem DH:DefOk P w K mg base 2 "_law_draw" 3 az:=mk A.f39 A.g ["cell", "k", "bound"] C8 ["stir", "left", "j"] ["range"] [0,1,2,3,4,5] [] [0] fun X S I hp=>
 (br (du (cO (Kc I.r) (ax S 0) (IK w_de_int w_de_int)) (br (eD S false 4 (ax S 0)) (br (DA S 5 rfl rfl hp (gj S 0 rfl rfl I.e.n1 (aJ (ax S 1)) (iG rfl)) (w_ds_one (eD S false 4 (Ed (ax S 4) (ax S 2)))) (fun _=>rfl)) (dm (iq (ax S 4) (ax S 2))))) fE) (br (eD S false 3 (iq (DC (ly (ly (iq (ax S 0) w_de_int) (DC w_de_int (ax S 1))) w_de_int) w_de_int) w_de_int)) (br (eD S false 3 (iq (ly (ly (DC (ax S 3) (ax S 3)) (DC w_de_int (ax S 1))) w_de_int) w_de_int)) (dm (iq (Ed (iq (DC (ax S 3) w_de_int) w_de_int) w_de_int) (ax S 2))))))
theorem kQ:DefOk P w K mg base 3 "_law_world" 3 m__law_world:=mk A.f40 A.g ["script", "at", "limit"] C8 ["many", "owners", "marks", "steps", "room", "cell", "row", "there", "k"] ["_law_cell_at", "range", "_law_draw", "int"] [0,1,2,3,4,5,6,7,8,9] [3,8] [0,1,2] fun X S I hp=>
 (br (eD S false 3 (ly w_de_int (iq (cn S 0 (I.c (AB A B)) (aU (ax S 0) (aJ (ax S 1)))) (ax S 2)))) (br (eD S true 4 (eA .leaf sG)) (br (eD S true 5 (eA .leaf sG)) (br (eD S true 6 (eA .leaf sG)) (br (DA S 7 rfl rfl hp (gj S 1 rfl rfl I.e.n1 (aJ (ax S 3)) (iG rfl)) (br (eD S false 8 (cn S 0 (I.c (AB A B)) (aU (ax S 0) (aJ (ly (ly (ax S 1) w_de_int) (ax S 7)))))) (br (HK S 4 rfl rfl (cn S 2 (I.c (DH A B)) (aU (ax S 8) (aU w_de_int (aJ w_de_int)))) (iG rfl) rfl rfl rfl rfl) (br (HK S 5 rfl rfl (sI [8,11] [8] [2] S 11 (gj S 1 rfl rfl I.e.n1 (aJ w_de_int) (iG rfl)) (fun Y1 S1 F1=>have I:=F1.i I;lH (cO (bu I.r) (cn S1 2 (I.c (DH A B)) (aU (ax S1 8) (aU (ly w_de_int (ax S1 11)) (aJ w_de_int)))) w_de_int)) (fun Y1 S1 F1=>have I:=F1.i I;(cg dw (ax S1 11)))) (iG rfl) rfl rfl rfl rfl) (br (gh (vs':=[3,8,10]) (cs':=[3,8]) (lo':=[]) (gs':=[2,3]) S false 9 .leaf 10 rfl rfl rfl rfl (by kernel_rfl) (by kernel_rfl) (by kernel_rfl) (gj S 1 rfl rfl I.e.n1 (aJ (ax S 3)) (iG rfl)) (fun Y2 S2 F2=>have I:=F2.i I;lH (cO (bu I.r) (cn S2 2 (I.c (DH A B)) (aU (ax S2 8) (aU (ly w_de_int (ax S2 10)) (aJ (ly w_de_int (tm S2 3 rfl rfl I.e.n9 (aJ (i9 (qW I.r) (ax S2 3) w_de_int)) (fv rfl) rfl)))))) w_de_int)) (fun Y2 S2 F2=>have I:=F2.i I;(ax S2 10)) (fun _=>rfl)) (br (du (cO (bu I.r) (ax S 9) (eA .leaf sG)) (w_ds_one (eD S false 9 (eA .leaf (aJ (cn S 2 (I.c (DH A B)) (aU (ax S 8) (aU (ly w_de_int (ax S 3)) (aJ (ax S 3))))))))) fE) (w_ds_one (HK S 6 rfl rfl (ax S 9) (iG rfl) rfl rfl rfl rfl))))))) (fun _=>rfl)) (dm (fS (aU (sY S 4 rfl rfl) (aU (sY S 5 rfl rfl) (aJ (sY S 6 rfl rfl)))))))))))
theorem oh:ik P w K mg base 1 "_law_is" 2 b5:=Ma (p:=Gl) A.f41 A.g ["told", "due"] j3 ["k"] ["range"] [0,1] [1] [0] fun X a S I hh hot=>
 (dm (i9 (bu I.r) (lE S 0) (Ju [1,2] [1] [] S hh hot 2 (Jt S 0 (I.gm A.g.n1) (aJ w_de_int) (iG rfl)) (fun _ _ _=>w_df_nil) (fun Y1 S1 F1=>have I:=F1.ih I;(Hy (i9 (bu I.r) (lE S1 2) (lE S1 1)) (wW (i9 (bu I.r) (lE S1 2) w_de_int)))))))
theorem rB:DefOk P w K mg base 2 "_law_is" 2 b5:=mk A.f41 A.g ["told", "due"] j3 ["k"] ["range"] [0,1] [1] [0] fun X S I hp=>
 (dm (i9 (bu I.r) (ax S 0) (sI [1,2] [1] [] S 2 (gj S 0 rfl rfl I.e.n1 (aJ w_de_int) (iG rfl)) (fun _ _ _=>w_df_nil) (fun Y1 S1 F1=>have I:=F1.i I;(Hy (i9 (bu I.r) (ax S1 2) (ax S1 1)) (wW (i9 (bu I.r) (ax S1 2) w_de_int)))))))
theorem DI:DefOk P w K mg base 2 "_law_ring" 1 bM:=mk A.f42 A.g ["many"] ky ["room"] ["range"] [0] [0] [0] fun X S I hp=>
 (dm (fS (aU (IJ (eA .leaf (aJ w_de_int)) (ax S 0)) (aU (sI [1] [] [] S 1 (gj S 0 rfl rfl I.e.n1 (aJ (ax S 0)) (iG rfl)) (fun _ _ _=>w_df_nil) (fun Y1 S1 F1=>(eA .leaf (aJ dw)))) (aJ (sI [0,1] [0] [] S 1 (gj S 0 rfl rfl I.e.n1 (aJ (ax S 0)) (iG rfl)) (fun _ _ _=>w_df_nil) (fun Y2 S2 F2=>(eA .leaf (aJ (iq (ly (ax S2 1) w_de_int) (ax S2 0)))))))))))
theorem jI:DefOkX P w K mg base 8 "_law_rooms" 4 di:=mG (p:=Gl) A.f43 A.g ["way", "world", "room", "cell"] LJ ["many"] ["len", "reached", "sorted", "part", "list", "range", "renamed", "alike", "are_alike_by", "unlike", "are_unlike_by", "apart", "_law_ring"] [0,1,2,3,4] [] [0,1,2,3,4,5,6,7,8,9,10,11,12] fun X W S I th mk=>
 (br (eD S false 4 (jy S 0 I.e.n0 (aJ (cg (ax S 1) w_de_int)))) (w_ds_one (du (cO (bu I.r) (ax S 0) w_de_int) (w_ds_one (dA (fD S th 1 (I.x (nZ A B)) (aU (ax S 1) (aJ (ax S 2)))) rfl)) (w_ds_one (du (cO (bu I.r) (ax S 0) w_de_int) (w_ds_one (dA (fD S th 3 (I.x (pQ A B)) (aU (ax S 1) (aJ (iw S 2 rfl rfl I.e.n6 (aJ (eA .leaf (aU w_de_int (aJ (ax S 2))))) (fv rfl) rfl)))) rfl)) (w_ds_one (du (cO (bu I.r) (ax S 0) w_de_int) (w_ds_one (dA (fD S th 3 (I.x (pQ A B)) (aU (ax S 1) (aJ (cg (eA .leaf (aU (eA .leaf (aU w_de_int (aJ w_de_int))) (aU (eA .leaf sG) (aJ (eA .leaf (aU (DD (ax S 4) w_de_int) (aU w_de_int (aJ (DD (ax S 4) w_de_int))))))))) (iq (ax S 3) w_de_int))))) rfl)) (w_ds_one (du (cO (bu I.r) (ax S 0) w_de_int) (w_ds_one (dA (fD S th 6 (I.x (nY A B)) (aU (ax S 1) (aJ (cg (eA .leaf (aU (eA .leaf sG) (aU (IJ (eA .leaf (aJ w_de_int)) (ly (ax S 4) w_de_int)) (aU (tf (eP S 4 5 rfl rfl I.e.n8 rfl rfl I.e.n1 (aJ (DD (ax S 4) w_de_int)) (iG rfl) (iG rfl)) (eA .leaf (aJ (ax S 2)))) (aJ (IJ (eA .leaf (aJ (ax S 2))) (ax S 4))))))) (iq (ax S 3) w_de_int))))) rfl)) (w_ds_one (du (cO (bu I.r) (ax S 0) w_de_int) (w_ds_one (dA (fD S th 7 (I.x (mv A B)) (aU (ax S 1) (aU (ax S 2) (aU w_de_int (aJ (i9 (bu I.r) (iq (ax S 3) w_de_int) w_de_int)))))) rfl)) (w_ds_one (du (cO (bu I.r) (ax S 0) w_de_int) (w_ds_one (dA (fD S th 7 (I.x (mv A B)) (aU (ax S 1) (aU w_de_int (aU (ax S 2) (aJ (i9 (bu I.r) (iq (ax S 3) w_de_int) w_de_int)))))) rfl)) (w_ds_one (du (cO (bu I.r) (ax S 0) w_de_int) (w_ds_one (dA (fD S th 8 (I.x (iJ A B)) (aU (ax S 1) (aU (cg (eA .leaf (aU (eA .leaf (aU (fS (aU w_de_int (aJ w_de_int))) (aJ (fS (aU w_de_int (aJ (ax S 2))))))) (aJ (eA .leaf (aJ (fS (aU (ax S 2) (aJ w_de_int)))))))) (iq (ax S 3) w_de_int)) (aJ zk)))) rfl)) (w_ds_one (du (cO (bu I.r) (ax S 0) w_de_int) (w_ds_one (dA (fD S th 9 (I.x (rf A B)) (aU (ax S 1) (aU (cg (eA .leaf (aU w_de_int (aJ (ax S 2)))) (iq (ax S 3) w_de_int)) (aJ (cg (eA .leaf (aU (ax S 2) (aJ w_de_int))) (iq (ax S 3) w_de_int)))))) rfl)) (w_ds_one (du (cO (bu I.r) (ax S 0) w_de_int) (w_ds_one (dA (fD S th 10 (I.x (gY A B)) (aU (ax S 1) (aJ (cg (eA .leaf (aU (eA .leaf (aU (fS (aU w_de_int (aU w_de_int (aJ (fS (aU dw (aJ dw))))))) (aJ (fS (aU (ax S 2) (aU w_de_int (aJ (fS (aU dw (aJ dw)))))))))) (aJ (eA .leaf (aJ (fS (aU w_de_int (aU (ax S 2) (aJ (fS (aU dw (aU w_de_int (aJ w_de_int))))))))))))) (iq (ax S 3) w_de_int))))) rfl)) (w_ds_one (du (cO (bu I.r) (ax S 0) w_de_int) (w_ds_one (dA (fD S th 11 (I.x (IE A B)) (aU (ax S 1) (aU (cg (eA .leaf (aU w_de_int (aJ (ax S 2)))) (iq (ax S 3) w_de_int)) (aJ (cg (eA .leaf (aU (ax S 2) (aJ w_de_int))) (iq (ax S 3) w_de_int)))))) rfl)) (w_ds_one (dA (fD S th 11 (I.x (IE A B)) (aU (cn S 12 (I.c (DI A B)) (aJ w_de_int)) (aU w_de_int (aJ (cg (eA .leaf (aU w_de_int (aJ (II w_de_int)))) (iq (ax S 3) w_de_int)))))) rfl)))))))))))))))))))))))
theorem jJ:DefOkX P w K mg base 8 "_law_great" 2 dj:=mG (p:=Gl) A.f44 A.g ["way", "cell"] j3 [] ["_law_ring", "beside", "together", "apart"] [0,1] [] [0,1,2,3] fun X W S I th mk=>
 (w_ds_one (du (cO (bu I.r) (ax S 0) w_de_int) (w_ds_one (dA (fD S th 1 (I.x (rh A B)) (aU (cn S 0 (I.c (DI A B)) (aJ w_de_int)) (aJ (cn S 0 (I.c (DI A B)) (aJ w_de_int))))) rfl)) (w_ds_one (du (cO (bu I.r) (ax S 0) w_de_int) (w_ds_one (dA (fD S th 2 (I.x (mr A B)) (aU (cn S 0 (I.c (DI A B)) (aJ w_de_int)) (aJ (cn S 0 (I.c (DI A B)) (aJ w_de_int))))) rfl)) (w_ds_one (dA (fD S th 3 (I.x (IE A B)) (aU (cn S 0 (I.c (DI A B)) (aJ (ly w_de_int (iq (ax S 1) w_de_int)))) (aU (iq (ax S 1) w_de_int) (aJ (iq (Ed (ax S 1) w_de_int) w_de_int))))) rfl))))))
theorem gw:DefOk P w K mg base 25 "_law_base_right" 1 cF:=L9 (p:=Gl) A.f45 A.g ["cell"] ky ["some", "k", "told", "word", "e"] ["range", "_law_draw", "base", "is_sentence", "HallError", "_law_which", "_law_is"] [0,1,2,3,4,5] [] [0,1,2,3,4,5,6] fun X S I st hp=>
 (br (eD S false 1 (fS (aU dw (aJ dw)))) (br (DA S 2 rfl rfl hp (gj S 0 rfl rfl I.e.n1 (aJ w_de_int) (iG rfl)) (br (eD S false 4 (cg (eA .leaf (aU dw (aU dw (aU dw (aJ dw))))) (cn S 1 (I.c (DH A B)) (aU (ax S 0) (aU (ax S 2) (aJ w_de_int)))))) (w_ds_one (eD S false 1 (Ax (cO (bu I.r) (cn S 1 (I.c (DH A B)) (aU (ax S 0) (aU (ly w_de_int (ax S 2)) (aJ w_de_int)))) w_de_int) (fS (aU (ax S 4) (aU (ax S 1) (aJ (fS (aU dw (aJ dw))))))) (fS (aU (ax S 4) (aU (fS (aU dw (aJ dw))) (aJ (ax S 1))))))))) (fun _=>rfl)) (br (eD S false 3 zk) (br (zr S st 5 4 (I.xt A.g.xt) (fun pins W=>have th:=EB (X:=X) (pins:=pins) (W:=W) ;have S:=S.try;have I:=I.try;(w_ds_one (eD S false 3 (cn S 3 (I.c (fL A B)) (aJ (fD S th 2 (I.x (xT A B)) (aJ (ax S 1)))))))) fun pins a C oe c hc hC hcl hd=>vv S.hand rfl rfl (yx S st.1 st.2 (I.eH (oh A B)) I.rm rfl hcl hd (Ip (vy S st.1 st.2 (I.eE (fJ A B)) I.rm rfl hc hC hcl hd rfl rfl 5 rfl rfl) (Ip (gu (TQ.Q.p w_de_int)) zY)) 6 rfl rfl (fv rfl) rfl)) (dm (i9 (Fe I.r) (ax S 3) zk))))))
end
section
variable {P:Program} {w:World} {K:Fg} {mg:Str->Option Value} (A:Al K mg)
include A
theorem o_law {fa:Addr} (hfa:mg "law"=some (.ref fa)):∃fd:FuncData,(∀(s:Shared) (v:Value),BindsTo s fd ⟨[v],[]⟩ [("script",v)])/\∀base:Heap,K.In base->base.Ns mainGlobals mg->dk P w K mg base iY 26 fa fd ["script"] (lR K 1 m_law):=Kf (p:=Gl) A.f46 A.g "script" ky hfa ["world", "cell", "many", "room", "way", "told", "e"] ["_law_world", "_law_cell_at", "len", "range", "_law_rooms", "_law_great", "marked", "HallError", "_law_which", "_law_is", "_law_base_right"] [0,1,2,3,4,5,6,7] [] [0,1,2,3,4,5,6,7,8,9,10] fun base B X S I st hp=>
 (br (eD S false 1 (cn S 0 (I.c (kQ A B)) (aU (ax S 0) (aU w_de_int (aJ w_de_int))))) (br (eD S false 2 (cn S 1 (I.c (AB A B)) (aU (ax S 0) (aJ w_de_int)))) (br (eD S false 3 (jy S 2 I.e.n0 (aJ (cg (ax S 1) w_de_int)))) (br (eD S false 4 (cg (eA .leaf (aU (ax S 3) (aU (II w_de_int) (aU (ly (ax S 3) (iq (Ed (ax S 2) w_de_int) (IK w_de_int w_de_int))) (aJ (DD (II w_de_int) (iq (Ed (ax S 2) w_de_int) (IK w_de_int w_de_int)))))))) (iq (ax S 2) w_de_int))) (br (DA S 5 rfl rfl hp (gj S 3 rfl rfl I.e.n1 (aJ w_de_int) (iG rfl)) (br (eD S false 6 (eA .leaf sG)) (br (zr S st 7 7 (I.xt A.g.xt) (fun pins W=>have th:=EB (X:=X) (pins:=pins) (W:=W) ;have S:=S.try;have I:=I.try;(w_ds_one (du (cO (nV I.r) (ax S 5) w_de_int) (w_ds_one (dA (fD S th 4 (I.x (jI A B)) (aU (ax S 5) (aU (ax S 1) (aU (ax S 4) (aJ (cn S 1 (I.c (AB A B)) (aU (ax S 0) (aJ w_de_int)))))))) rfl)) (w_ds_one (du (cO (nV I.r) (ax S 5) w_de_int) (w_ds_one (dA (fD S th 5 (I.x (jJ A B)) (aU (DD (ax S 5) w_de_int) (aJ (cn S 1 (I.c (AB A B)) (aU (ax S 0) (aJ w_de_int)))))) rfl)) (w_ds_one (dA (fD S th 6 (I.x (rg A B)) (aU (ax S 1) (aJ (cg (eA .leaf (aU dw (aU dw (aU dw (aU dw (aJ dw)))))) (iq (cn S 1 (I.c (AB A B)) (aU (ax S 0) (aJ w_de_int))) w_de_int))))) rfl))))))) fun pins a C oe c hc hC hcl hd=>vv S.hand rfl rfl (vy S st.1 st.2 (I.eE (fJ A B)) I.rm rfl hc hC hcl hd rfl rfl 8 rfl rfl)) (w_ds_one (du (wI (sN (cn S 9 (I.c (rB A B)) (aU (ax S 6) (aJ (cg (eA .leaf (aU w_de_int (aU w_de_int (aU w_de_int (aU w_de_int (aU w_de_int (aU w_de_int (aU w_de_int (aU w_de_int (aU w_de_int (aU w_de_int (aU w_de_int (aU w_de_int (aU w_de_int (aU w_de_int (aJ w_de_int)))))))))))))))) (ax S 5))))) (fun _=>rfl))) (dm zk) fE)))) (fun _=>rfl)) (dm (cn S 10 (I.c (gw A B)) (aJ (cn S 1 (I.c (AB A B)) (aU (ax S 0) (aJ w_de_int)))))))))))
end
end KC.Q5
open PySem PySem.W PyProof.Rows
def PySem.W.Fast.tw495488913772711014:=0
def PySem.W.Fast.tw11518568471394657321:=0
def PySem.W.Fast.tw5401527332413589897:=0
def PySem.W.Fast.tw7395687108193393420:=0
def PySem.W.Fast.tw674274393593526092:=0
def PySem.W.Fast.tw15201552814110531565:=0
def PySem.W.Fast.tw5036234344667011439:=0
def PySem.W.Fast.tw9191460663129163119:=0
def PySem.W.Fast.tw1958027665276744339:=0
def PySem.W.Fast.tw14637459794672832660:=0
def PySem.W.Fast.tw9140930624469189781:=0
def PySem.W.Fast.tw9182369630672252023:=0
def PySem.W.Fast.tw5905638794067090008:=0
def PySem.W.Fast.tw3338473460752699161:=0
def PySem.W.Fast.tw15425067104707431706:=0
def PySem.W.Fast.tw2645549261375942651:=0
def PySem.W.Fast.tw3370164819905327453:=0
def PySem.W.Fast.tw954591928170045342:=0
def PySem.W.Fast.tw448045446933273409:=0
def PySem.W.Fast.tw5161905908493629282:=0
def PySem.W.Fast.tw4094221607504763106:=0
def PySem.W.Fast.tw10446090942686884947:=0
def PySem.W.Fast.tw7325884455317630447:=0
set_option maxRecDepth 100000 in
set_option maxHeartbeats 0 in
theorem PySem.Challenge.cw_foreseehall_k50_rooms_marks_and_greatnes_holds : PySem.Challenge.rw_foreseehall_k50_rooms_marks_and_greatnes.Holds := by
 w_on;o_law;k_head;(case hw=>w_witness2)
 k_fill
 refine T.walkG (j:=26) (l:=PySem.Challenge.rw_foreseehall_k50_rooms_marks_and_greatnes) KC.Q5.law_true ⟨rfl,by decide,by decide,rfl⟩ rfl rfl (fun w h Y=>PySem.W.kIn_of Y) ?F
 case F=>
  intro w mg fa h KX G hmg;refine' KC.Q5.o_law (.mk (.mk (T.gn KX G ?z0) (T.gn KX G ?z1) (T.gn KX G ?z2) (T.gn KX G ?z3) (T.gn KX G ?z4) (T.gn KX G ?z5) (T.gn KX G ?z6) (T.gn KX G ?z7) (T.gn KX G ?z8) (T.gn KX G ?z9) (T.gn KX G ?z10) (T.gt KX G ?e0 ?q0 ?v0) (T.gi KX G ?e1) (T.gt KX G ?e2 ?q2 ?v2) (T.gi KX G ?e3) (T.gi KX G ?e4) (T.g2 KX G ?e5 ?q5 ?u5 ?r5 ?v5) (T.gt KX G ?e6 ?q6 ?v6) (T.gt KX G ?e7 ?q7 ?v7) (T.gt KX G ?e8 ?q8 ?v8) (T.gi KX G ?e9) (T.gd KX G ?x0 ?y0 ?w0) (T.gx KX G ?xt)) (T.ft KX G ?a0 ?l0 ?c0 ?k0) (T.ft KX G ?a1 ?l1 ?c1 ?k1) (T.ft KX G ?a2 ?l2 ?c2 ?k2) (T.ft KX G ?a3 ?l3 ?c3 ?k3) (T.ft KX G ?a4 ?l4 ?c4 ?k4) (T.ft KX G ?a5 ?l5 ?c5 ?k5) (T.ft KX G ?a6 ?l6 ?c6 ?k6) (T.ft KX G ?a7 ?l7 ?c7 ?k7) (T.ft KX G ?a8 ?l8 ?c8 ?k8) (T.ft KX G ?a9 ?l9 ?c9 ?k9) (T.ft KX G ?a10 ?l10 ?c10 ?k10) (T.ft KX G ?a11 ?l11 ?c11 ?k11) (T.ft KX G ?a12 ?l12 ?c12 ?k12) (T.ft KX G ?a13 ?l13 ?c13 ?k13) (T.ft KX G ?a14 ?l14 ?c14 ?k14) (T.ft KX G ?a15 ?l15 ?c15 ?k15) (T.ft KX G ?a16 ?l16 ?c16 ?k16) (T.ft KX G ?a17 ?l17 ?c17 ?k17) (T.ft KX G ?a18 ?l18 ?c18 ?k18) (T.ft KX G ?a19 ?l19 ?c19 ?k19) (T.ft KX G ?a20 ?l20 ?c20 ?k20) (T.ft KX G ?a21 ?l21 ?c21 ?k21) (T.ft KX G ?a22 ?l22 ?c22 ?k22) (T.ft KX G ?a23 ?l23 ?c23 ?k23) (T.ft KX G ?a24 ?l24 ?c24 ?k24) (T.ft KX G ?a25 ?l25 ?c25 ?k25) (T.ft KX G ?a26 ?l26 ?c26 ?k26) (T.ft KX G ?a27 ?l27 ?c27 ?k27) (T.ft KX G ?a28 ?l28 ?c28 ?k28) (T.ft KX G ?a29 ?l29 ?c29 ?k29) (T.ft KX G ?a30 ?l30 ?c30 ?k30) (T.ft KX G ?a31 ?l31 ?c31 ?k31) (T.ft KX G ?a32 ?l32 ?c32 ?k32) (T.ft KX G ?a33 ?l33 ?c33 ?k33) (T.ft KX G ?a34 ?l34 ?c34 ?k34) (T.ft KX G ?a35 ?l35 ?c35 ?k35) (T.ft KX G ?a36 ?l36 ?c36 ?k36) (T.ft KX G ?a37 ?l37 ?c37 ?k37) (T.ft KX G ?a38 ?l38 ?c38 ?k38) (T.ft KX G ?a39 ?l39 ?c39 ?k39) (T.ft KX G ?a40 ?l40 ?c40 ?k40) (T.ft KX G ?a41 ?l41 ?c41 ?k41) (T.ft KX G ?a42 ?l42 ?c42 ?k42) (T.ft KX G ?a43 ?l43 ?c43 ?k43) (T.ft KX G ?a44 ?l44 ?c44 ?k44) (T.ft KX G ?a45 ?l45 ?c45 ?k45) (T.ft KX G ?a46 ?l46 ?c46 ?k46) (T.ft KX G ?a47 ?l47 ?c47 ?k47)) hmg
  case a0|l0|c0|k0|a1|l1|c1|k1|a2|l2|c2|k2|a3|l3|c3|k3|a4|l4|c4|k4|a5|l5|c5|k5|a6|l6|c6|k6|a7|l7|c7|k7|a8|l8|c8|k8|a9|l9|c9|k9|a10|l10|c10|k10|a11|l11|c11|k11|a12|l12|c12|k12|a13|l13|c13|k13|a14|l14|c14|k14|a15|l15|c15|k15|a16|l16|c16|k16|a17|l17|c17|k17|a18|l18|c18|k18|a19|l19|c19|k19|a20|l20|c20|k20|a21|l21|c21|k21|a22|l22|c22|k22|a23|l23|c23|k23|a24|l24|c24|k24|a25|l25|c25|k25|a26|l26|c26|k26|a27|l27|c27|k27|a28|l28|c28|k28|a29|l29|c29|k29|a30|l30|c30|k30|a31|l31|c31|k31|a32|l32|c32|k32|a33|l33|c33|k33|a34|l34|c34|k34|a35|l35|c35|k35|a36|l36|c36|k36|a37|l37|c37|k37|a38|l38|c38|k38|a39|l39|c39|k39|a40|l40|c40|k40|a41|l41|c41|k41|a42|l42|c42|k42|a43|l43|c43|k43|a44|l44|c44|k44|a45|l45|c45|k45|a46|l46|c46|k46|a47|l47|c47|k47|z0|z1|z2|z3|z4|z5|z6|z7|z8|z9|z10|e0|q0=>k_is
  case v0=>kernel_rfl
  case e1|e2|q2=>k_is
  case v2=>kernel_rfl
  case e3|e4|e5|q5=>k_is
  case u5=>rfl
  case r5=>k_is
  case v5=>kernel_rfl
  case e6|q6=>k_is
  case v6=>kernel_rfl
  case e7|q7=>k_is
  case v7=>kernel_rfl
  case e8|q8=>k_is
  case v8=>kernel_rfl
  case e9|x0|y0=>k_is
  case w0|xt=>kernel_rfl
