import PyProof.Rows.All
import Wide.All
import OpenK.AllK
import Wide.FinOn
import PyProof.EqAt
import PyProof.EqKinds
import PyProof.TupleCall
import PyProof.StrBlockH
import PyProof.StrWalks
import PyProof.StrCalls
import PyProof.SetRoads
import PyProof.DictRoadsH
import Lean
import PySem.Challenge.RW_foreseehall_k92_whole_from_keeping_to_fa
open List (mem_append_right getElem?_eq_getElem mem_append_left length_map getD_eq_getElem?_getD getElem?_map mem_cons_of_mem mem_cons_self append_assoc length_set mem_of_getElem? size_toArray getElem?_set_ne map_map map_cons length_append getElem?_set_self set_set length_cons getElem_mem getElem?_append_left lookup_cons nodup_nil length_filter_le getElem?_append_right nil_append all_eq_true mem_cons not_mem_nil contains_iff_mem append_nil exists_mem_of_ne_nil length_take flatten_cons any_eq_true length_range getElem?_eq_none length_singleton mem_range perm_append_comm find?_cons length_nil mem_map pairwise_map mem_of_getLast? getElem?_replicate ext_getElem? getElem_of_mem getElem?_range take_of_length_le filter_sublist map_inj_right length_drop map_nil drop_eq_nil_of_le drop_eq_getElem_cons mem_filter filter_cons ne_nil_of_mem nodup_range length_pos_of_mem map_append)
set_option Elab.async false
set_option linter.all false
set_option maxRecDepth 100000
set_option maxHeartbeats 4000000
set_option maxRecDepth 10000
abbrev Fg:=PySem.W.Frag
abbrev HV (i:Nat):PySem.Stmt:=(PySem.Challenge.pw_foreseehall_k92_whole_from_keeping_to_fa.main.body)[i]!
namespace L2
open PySem PySem.Spec PyProof.Rows
abbrev bR:=Sum Int Str
def iL:bR->Value->Bool
 | .inl k,v=>Value.isInt k v
 | .inr x,v=>Value.isStrOf x v
def BA (w:World):bR->Int
 | .inl k=>hashInt k
 | .inr x=>hashStr w x
theorem vS:∀{k:bR} {v:Value},iL k v=true->(∃i t,k=Sum.inl i/\v=Value.int i t)\/(∃x t,k=Sum.inr x/\v=Value.str x t)
 | .inl i,v,h=>by
  obtain ⟨t,e⟩:=Value.isInt_shape (k:=i) (v:=v) h
  exact .inl ⟨i,t,rfl,e⟩
 | .inr x,v,h=>by
  obtain ⟨t,e⟩:=Value.isStrOf_shape (x:=x) (v:=v) h
  exact .inr ⟨x,t,rfl,e⟩
theorem rq (i:Int) (t:Tok):iL (.inl i) (.int i t)=true:=by simp [iL,Value.isInt]
theorem rn (x:Str) (t:Tok):iL (.inr x) (.str x t)=true:=by simp [iL,Value.isStrOf]
theorem Bz (a b:Int):decide ((Sum.inl a:bR)=Sum.inl b)=(a==b):=by
 by_cases e:a=b
 ·subst e;simp
 ·have h:¬(Sum.inl a:bR)=Sum.inl b:=fun q=>e (Sum.inl.inj q)
  rw [decide_eq_false h];exact (beq_eq_false_iff_ne.mpr e).symm
theorem Bw (a b:Str):decide ((Sum.inr a:bR)=Sum.inr b)=decide (a=b):=by
 by_cases e:a=b
 ·subst e;simp
 ·have h:¬(Sum.inr a:bR)=Sum.inr b:=fun q=>e (Sum.inr.inj q)
  rw [decide_eq_false h,decide_eq_false e]
theorem By (a:Int) (b:Str):decide ((Sum.inl a:bR)=Sum.inr b)=false:=decide_eq_false (fun q=>nomatch q)
theorem Bx (a:Str) (b:Int):decide ((Sum.inr a:bR)=Sum.inl b)=false:=decide_eq_false (fun q=>nomatch q)
def jD (prog:Program) (w:World):PySem.KeyKind prog w bR where
 is:=iL
 hash:=BA w
 inj:=fun v a b ha hb=>by
  rcases vS ha with ⟨i,t,rfl,rfl⟩ | ⟨x,t,rfl,rfl⟩
  ·rcases vS hb with ⟨j,u,rfl,e⟩ | ⟨y,u,rfl,e⟩
   ·injection e with e1 _;rw [e1]
   ·exact nomatch e
  ·rcases vS hb with ⟨j,u,rfl,e⟩ | ⟨y,u,rfl,e⟩
   ·exact nomatch e
   ·injection e with e1 _;rw [e1]
 byValue:=fun k v h=>by
  rcases vS h with ⟨i,t,rfl,rfl⟩ | ⟨x,t,rfl,rfl⟩<;>rfl
 pyHash:=fun hv h=>by
  rcases vS hv with ⟨i,t,rfl,rfl⟩ | ⟨x,t,rfl,rfl⟩
  ·exact wpAny_pyHash_int h
  ·exact wpAny_pyHash_str h
 eqBool:=fun hu hv h=>by
  rcases vS hu with ⟨i,t,rfl,rfl⟩ | ⟨x,t,rfl,rfl⟩
  ·rcases vS hv with ⟨j,u,rfl,rfl⟩ | ⟨y,u,rfl,rfl⟩
   ·rw [Bz] at h;exact wpAny_eqBool_int h
   ·rw [By] at h;exact SeqAt.EqAt.int_str i t y u _ _ _ _ h
  ·rcases vS hv with ⟨j,u,rfl,rfl⟩ | ⟨y,u,rfl,rfl⟩
   ·rw [Bx] at h;exact SeqAt.EqAt.str_int x t j u _ _ _ _ h
   ·rw [Bw] at h;exact wpAny_eqBool_str h
 «strs»:=fun k x t v h=>by
  rcases vS h with ⟨i,u,rfl,e⟩ | ⟨y,u,rfl,e⟩
  ·exact nomatch e
  ·injection e with e1 _
   subst e1
   cases v<;>rfl
theorem mH (prog:Program) (w:World) (i:Int) (t:Tok):(jD prog w).is (.inl i) (.int i t)=true:=rq i t
theorem mG (prog:Program) (w:World) (x:Str) (t:Tok):(jD prog w).is (.inr x) (.str x t)=true:=rn x t
inductive V where
 | non | bl (b:Bool) | int (i:Int) | str (x:Str) | byt (b:Array UInt8) | flt (b:UInt64) | ref (a:Addr) | ty (n:String)
 deriving DecidableEq
def RelV:V->Value->Prop
 | .non,u=>u=Value.none
 | .bl b,u=>u=Value.bool b
 | .int i,u=>∃t,u=Value.int i t
 | .str x,u=>∃t,u=Value.str x t
 | .byt b,u=>∃t,u=Value.bytes b t
 | .flt b,u=>∃t,u=Value.float b t
 | .ref a,u=>u=Value.ref a
 | .ty n,u=>u=Value.type n
abbrev Vals:List V->List Value->Prop:=Paired RelV
theorem Vals.length {xs:List V} {us:List Value} (r:Vals xs us):xs.length=us.length:=Paired.length r
theorem Vals.get:∀{xs:List V} {us:List Value} {i:Nat} {x:V},Vals xs us->xs[i]?=some x->∃u,us[i]?=some u/\RelV x u
 | _,_,_,_,.nil,e=>by simp at e
 | _,_,0,_,.cons r _,e=>by simp at e;subst e;exact ⟨_,rfl,r⟩
 | _,_,i+1,x,.cons _ t,e=>by
  obtain ⟨u,h1,h2⟩:=Vals.get (i:=i) (x:=x) t (by simpa using e)
  exact ⟨u,by simpa using h1,h2⟩
theorem Vals.set {x:V} {u:Value} (r:RelV x u):∀{xs:List V} {us:List Value} (i:Nat),Vals xs us->Vals (xs.set i x) (us.set i u)
 | _,_,_,.nil=>.nil
 | _,_,0,.cons _ t=>.cons r t
 | _,_,i+1,.cons q t=>.cons q (Vals.set r i t)
theorem Vals.append:∀{xs ys:List V} {us ws:List Value},Vals xs us->Vals ys ws->Vals (xs++ys) (us++ws)
 | _,_,_,_,.nil,s=>s
 | _,_,_,_,.cons r t,s=>.cons r (Vals.append t s)
theorem Vals.take:∀{xs:List V} {us:List Value} (n:Nat),Vals xs us->Vals (xs.take n) (us.take n)
 | _,_,0,_=>.nil
 | _,_,_+1,.nil=>.nil
 | _,_,n+1,.cons r t=>.cons r (Vals.take n t)
theorem Vals.drop:∀{xs:List V} {us:List Value} (n:Nat),Vals xs us->Vals (xs.drop n) (us.drop n)
 | _,_,0,r=>r
 | _,_,_+1,.nil=>.nil
 | _,_,n+1,.cons _ t=>Vals.drop n t
def RelO:Option V->Option Value->Prop
 | some v,some u=>RelV v u
 | none,none=>True
 | _,_=>False
def KV {κ:Type}:List (κ×V)->List (κ×Value)->Prop:=Paired fun (p:κ×V) (q:κ×Value)=>p.1=q.1/\RelV p.2 q.2
def kV:bR->V
 | .inl i=>.int i
 | .inr x=>.str x
inductive HO where
 | lst (xs:List V)
 | tup (xs:List V)
 | dK (kvs:List (bR×V)) | dT (kvs:List (List bR×V))
 | set (S:Int->Bool) (n:Nat)
 | ins (C dx:Addr) (fs:List (Str×V))
 | own (x:Addr)
 | xd (fs:List (Str×V))
 | met (f x:Addr)
 | rng (lo hi:Int)
 | frz (o:Obj) (u:HO)
 | tbl (ps:Array Value)
 | ext (φ:Heap->Prop)
abbrev Hp:=Addr->Option HO
def bA (H:Hp) (a:Addr) (o:HO):Hp:=fun b=>if b=a then some o else H b
theorem dI {H:Hp} {a:Addr} {o:HO}:bA H a o a=some o:=by unfold bA;rw [if_pos rfl]
theorem cS {H:Hp} {a b:Addr} {o:HO} (h:b≠a):bA H a o b=H b:=by unfold bA;rw [if_neg h]
theorem DF {H:Hp} {a b:Addr} {o u:HO} (h:H a=some o) (h':H b=some u) (d:o≠u):a≠b:=by
 intro e;subst e;rw [h] at h';exact d (Option.some.inj h')
theorem kj {H:Hp} {a b:Addr} {o:HO} (h:H a=some o) (h':H b=none):a≠b:=by
 intro e;subst e;rw [h] at h';cases h'
section
variable (P:Program) (w:World)
def ObjOk (H:Hp) (h:Heap) (a:Addr):HO->Prop
 | .lst xs=>xs.length<=sizeLine/\∃(its:List Value) (n:Nat),Vals xs its/\h.get? a=some { cls:=.type "list",data:=.seq its.toArray n }
 | .tup xs=>xs.length<=sizeLine/\∃its:List Value,Vals xs its/\IsTup h a its.toArray
 | .dK kvs=>kvs.length<=sizeLine/\(a==sysModules)=false/\∃vs,KV kvs vs/\h.DictOf (jD P w) a vs
 | .dT kvs=>kvs.length<=sizeLine/\(a==sysModules)=false/\∃xs:List (List bR×Addr×Value),
   Paired (fun (p:List bR×V) (q:List bR×Addr×Value)=>p.1=q.1/\H q.2.1=some (.tup (p.1.map kV))/\RelV p.2 q.2.2) kvs xs /\
   ∃o es ep,h.get? a=some o/\o.ExactDict/\o.data=.dict es ep/\es.toList=xs.map (entryOfKey (tupleKind (jD P w)))/\(xs.map (·.1)).Nodup
 | .set S n=>h.SetOf (intKind P w) a S n
 | .ins C dx fs=>H dx=some (.own a)/\fs.length<=1000/\dx≠a/\h.get? a=some (PySem.W.instObj C dx) /\
   ∃mA,h.Ns1 dx mA/\(∀f,RelO (fs.lookup f) (mA f))/\PySem.Within mA (fs.map (·.1))
 | .own _=>∃o,h.get? a=some o
 | .xd fs=>∃mA,h.Ns1 a mA/\∀f,RelO (fs.lookup f) (mA f)
 | .rng lo hi=>∃t u v,h.get? a=some { cls:=.type "range",data:=.fields #[.int lo t,.int hi u,.int 1 v] }
 | .frz o u=>h.get? a=some o/\ObjOk H h a u
 | .tbl ps=>h.get? a=some { cls:=.none,data:=.fields ps }
 | .met f x=>h.get? a=some (PySem.W.methodObj (.ref f) (.ref x))
 | .ext φ=>φ h/\(∃o,h.get? a=some o)/\∀h1 h2:Heap,φ h1->(∀o,h1.get? a=some o->h2.get? a=some o)->φ h2
def HOk (H:Hp) (h:Heap):Prop:=∀a o,H a=some o->ObjOk P w H h a o
end
section
variable {P:Program} {w:World} {H H':Hp} {h h':Heap} {a:Addr} {o:HO}
theorem ObjOk.lt (x:ObjOk P w H h a o):a<h.objs.size:=by
 cases o with
 | lst xs=>obtain ⟨_,_,_,_,e⟩:=x;exact Heap.lt_size e
 | tup xs=>obtain ⟨_,_,_,p⟩:=x;exact p.lt
 | dK kvs=>obtain ⟨_,_,_,_,o,_,_,e,_⟩:=x;exact Heap.lt_size e
 | dT kvs=>obtain ⟨_,_,_,_,o,_,_,e,_⟩:=x;exact Heap.lt_size e
 | set S n=>obtain ⟨o,_,_,_,e,_⟩:=x;exact Heap.lt_size e
 | ins C dx fs=>obtain ⟨_,_,_,e,_⟩:=x;exact Heap.lt_size e
 | own y=>obtain ⟨_,e⟩:=x;exact Heap.lt_size e
 | xd fs=>obtain ⟨_,⟨_,_,_,e,_⟩,_⟩:=x;exact Heap.lt_size e
 | rng lo hi=>obtain ⟨_,_,_,e⟩:=x;exact Heap.lt_size e
 | frz ob u=>obtain ⟨e,_⟩:=x;exact Heap.lt_size e
 | tbl ps=>exact Heap.lt_size (show h.get? a=some _ from x)
 | met f y=>exact Heap.lt_size (show h.get? a=some _ from x)
 | ext φ=>obtain ⟨_,⟨_,e⟩,_⟩:=x;exact Heap.lt_size e
theorem Paired.mapP {α β:Type} {F G:α->β->Prop}:∀{l₁:List α} {l₂:List β},Paired F l₁ l₂->(∀a b,F a b->G a b)->Paired G l₁ l₂
 | _,_,.nil,_=>.nil
 | _,_,.cons r t,f=>.cons (f _ _ r) (Paired.mapP t f)
theorem ObjOk.stay (x:ObjOk P w H h a o) (k:∀b u,(b=a\/H b=some (.own a))->h.get? b=some u->h'.get? b=some u)
  (ho:∀b,H b=some (.own a)->H' b=some (.own a)) (ht:∀b xs,H b=some (.tup xs)->H' b=some (.tup xs)):ObjOk P w H' h' a o:=by
 induction o with
 | lst xs=>obtain ⟨z,its,n,r,e⟩:=x;exact ⟨z,its,n,r,k _ _ (.inl rfl) e⟩
 | tup xs=>obtain ⟨z,its,r,ob,e,c⟩:=x;exact ⟨z,its,r,ob,k _ _ (.inl rfl) e,c⟩
 | dK kvs=>obtain ⟨z,y,vs,r,ob,es,ep,e,c⟩:=x;exact ⟨z,y,vs,r,ob,es,ep,k _ _ (.inl rfl) e,c⟩
 | dT kvs=>
  obtain ⟨z,y,xs,r,ob,es,ep,e,c⟩:=x;exact ⟨z,y,xs,Paired.mapP r fun p q z=>⟨z.1,ht _ _ z.2.1,z.2.2⟩,ob,es,ep,k _ _ (.inl rfl) e,c⟩
 | set S n=>obtain ⟨ob,es,ep,t,e,c⟩:=x;exact ⟨ob,es,ep,t,k _ _ (.inl rfl) e,c⟩
 | ins C dx fs=>
  obtain ⟨d,z,ne,e,mA,⟨od,es,ep,e2,c⟩,r⟩:=x;exact ⟨ho _ d,z,ne,k _ _ (.inl rfl) e,mA,⟨od,es,ep,k _ _ (.inr d) e2,c⟩,r⟩
 | own y=>obtain ⟨ob,e⟩:=x;exact ⟨ob,k _ _ (.inl rfl) e⟩
 | xd fs=>obtain ⟨mA,⟨od,es,ep,e,c⟩,r⟩:=x;exact ⟨mA,⟨od,es,ep,k _ _ (.inl rfl) e,c⟩,r⟩
 | rng lo hi=>obtain ⟨t,u,v,e⟩:=x;exact ⟨t,u,v,k _ _ (.inl rfl) e⟩
 | frz ob u ih=>obtain ⟨e,q⟩:=x;exact ⟨k _ _ (.inl rfl) e,ih q⟩
 | tbl ps=>
  have e:h.get? a=some { cls:=.none,data:=.fields ps }:=x
  show h'.get? a=some { cls:=.none,data:=.fields ps }
  exact k a _ (.inl rfl) e
 | met f y=>
  have e:h.get? a=some (PySem.W.methodObj (.ref f) (.ref y)):=x
  show h'.get? a=some (PySem.W.methodObj (.ref f) (.ref y))
  exact k a _ (.inl rfl) e
 | ext φ=>obtain ⟨p,⟨o,e⟩,st⟩:=x;exact ⟨st _ _ p fun o q=>k _ _ (.inl rfl) q,⟨o,k _ _ (.inl rfl) e⟩,st⟩
theorem HOk.lt (x:HOk P w H h) (e:H a=some o):a<h.objs.size:=(x a o e).lt
theorem HOk.fresh (x:HOk P w H h) (e:h.objs.size<=a):H a=none:=by
 cases q:H a with
 | none=>rfl
 | some u=>exact absurd (Nat.lt_of_lt_of_le (x.lt q) e) (Nat.lt_irrefl _)
theorem HOk.kept (x:HOk P w H h) (k:∀b u,h.get? b=some u->h'.get? b=some u):HOk P w H h':=fun a o e=>
 (x a o e).stay (fun b u _ q=>k b u q) (fun _ q=>q) fun _ _ q=>q
theorem HOk.laid (x:HOk P w H h) (k:∀b u,h.get? b=some u->h'.get? b=some u) (hp:h.objs.size<=a) (new:ObjOk P w (bA H a o) h' a o):HOk P w (bA H a o) h':=fun b u e=>by
 have hn:=x.fresh hp
 by_cases hb:b=a
 ·subst hb;rw [dI] at e;cases e;exact new
 ·rw [cS hb] at e
  exact (x b u e).stay (fun c v _ q=>k c v q) (fun c q=>by rw [cS (kj q hn)];exact q) fun c xs q=>by rw [cS (kj q hn)];exact q
end
def Rd (H:Hp) (a:Addr) (u:HO):Prop:=H a=some u\/∃o,H a=some (.frz o u)
theorem Rd.ok {P:Program} {w:World} {H:Hp} {h:Heap} {a:Addr} {u:HO} (r:Rd H a u) (x:HOk P w H h):ObjOk P w H h a u:=by
 rcases r with r | ⟨o,r⟩
 ·exact x a u r
 ·obtain ⟨_,q⟩:=x a _ r
  exact q
def Eb:Option HO->Prop
 | some (.lst _)=>True
 | some (.dK _)=>True
 | some (.dT _)=>True
 | some (.set _ _)=>True
 | some (.ins _ _ _)=>True
 | some (.ext _)=>True
 | _=>False
section
variable {P:Program} {w:World} {H:Hp} {h h':Heap} {x e:Addr} {o':HO}
theorem HOk.write (ok:HOk P w H h) (mu:Eb (H x)) (he:e=x\/H e=some (.own x)) (k:∀b u,b≠e->h.get? b=some u->h'.get? b=some u) (heo:∃u,h'.get? e=some u)
  (new:ObjOk P w (bA H x o') h' x o'):HOk P w (bA H x o') h':=fun b u q=>by
 have nown:∀c y,H c=some (.own y)->c≠x:=fun c y r z=>by subst z;rw [r] at mu;exact mu
 have ntup:∀c xs,H c=some (.tup xs)->c≠x:=fun c xs r z=>by subst z;rw [r] at mu;exact mu
 by_cases hb:b=x
 ·subst hb;rw [dI] at q;cases q;exact new
 ·rw [cS hb] at q
  by_cases hbe:b=e
  ·have q':H b=some (.own x):=by
    rcases he with z | z
    ·exact absurd (hbe.trans z) hb
    ·rw [hbe];exact z
   rw [q] at q';cases q'
   obtain ⟨v,hv⟩:=heo;exact ⟨v,by rw [hbe];exact hv⟩
  ·refine (ok b u q).stay (fun c v hc r=>k c v ?_ r) (fun c r=>by rw [cS (nown c b r)];exact r) fun c xs r=>by rw [cS (ntup c xs r)];exact r
   rcases hc with rfl | hc
   ·exact hbe
   ·rintro rfl
    rcases he with z | z
    ·exact nown c b hc z
    ·rw [hc] at z;cases z;exact hb rfl
end
structure Un (fs ex:List Addr) (H H':Hp) (h h':Heap):Prop where
 keep:∀b o,h.get? b=some o->H b=none->b∉fs->b∉ex->h'.get? b=some o
 slot:∀b o,h.get? b=some o->H b=none->b∈fs->b∉ex->∃sl,h'.get? b=some { o with slots:=sl }
 free:∀b o,h.get? b=some o->H b=none->b∉ex->H' b=none
 there:∀b o,h.get? b=some o->b∉ex->∃o',h'.get? b=some o'
 tups:∀b xs,H b=some (.tup xs)->H' b=some (.tup xs)
 frzs:∀b o u,H b=some (.frz o u)->H' b=some (.frz o u)
 tbls:∀b ps,H b=some (.tbl ps)->∃more,H' b=some (.tbl (ps++more))
section
variable {fs fs' ex ex':List Addr} {H H1 H2:Hp} {h h1 h2 h':Heap} {a x e:Addr} {o:HO}
theorem Un.any (u:Un fs ex H H1 h h1) {b:Addr} {ob:Obj} (q:h.get? b=some ob) (n:H b=none) (hx:b∉ex):∃sl,h1.get? b=some { ob with slots:=sl }:=by
 by_cases hb:b∈fs
 ·exact u.slot b ob q n hb hx
 ·exact ⟨ob.slots,u.keep b ob q n hb hx⟩
theorem Un.kept (k:∀b u,h.get? b=some u->h'.get? b=some u):Un fs ex H H h h':=
 ⟨fun b ob q _ _ _=>k b ob q,fun b ob q _ _ _=>⟨ob.slots,k b ob q⟩,fun _ _ _ n _=>n,fun b ob q _=>⟨ob,k b ob q⟩,fun _ _ q=>q,fun _ _ _ q=>q,fun _ ps q=>⟨#[],by rw [q];simp⟩⟩
theorem Un.refl:Un fs ex H H h h:=Un.kept fun _ _ q=>q
theorem Un.laid (k:∀b u,h.get? b=some u->h'.get? b=some u) (hp:h.objs.size<=a) (hn:H a=none):Un fs ex H (bA H a o) h h' where
 keep:=fun b u q _ _ _=>k b u q
 slot:=fun b u q _ _ _=>⟨u.slots,k b u q⟩
 free:=fun b u q n _=>by rw [cS (Nat.ne_of_lt (Nat.lt_of_lt_of_le (Heap.lt_size q) hp))];exact n
 there:=fun b u q _=>⟨u,k b u q⟩
 tups:=fun b xs q=>by rw [cS (kj q hn)];exact q
 frzs:=fun b u xs q=>by rw [cS (kj q hn)];exact q
 tbls:=fun b ps q=>⟨#[],by rw [cS (kj q hn),q];simp⟩
theorem Un.write (mu:Eb (H x)) (he:e=x\/H e=some (.own x)) (k:∀b u,b≠e->h.get? b=some u->h'.get? b=some u) (heo:∃u,h'.get? e=some u):Un fs ex H (bA H x o) h h':=by
 have hx:∀b,H b=none->b≠x:=fun b n z=>by subst z;rw [n] at mu;exact mu
 have hb:∀b,H b=none->b≠e:=fun b n z=>by
  subst z;rcases he with r | r
  ·exact hx b n r
  ·rw [n] at r;cases r
 have hm:∀b u,H b=some u->¬Eb (some u)->b≠x:=fun b u q nm z=>by subst z;rw [q] at mu;exact nm mu
 refine ⟨fun b u q n _ _=>k b u (hb b n) q,fun b u q n _ _=>⟨u.slots,k b u (hb b n) q⟩,fun b u q n _=>by rw [cS (hx b n)];exact n,fun b u q _=>?_,
  fun b xs q=>by rw [cS (hm b _ q fun z=>z)];exact q,fun b u xs q=>by rw [cS (hm b _ q fun z=>z)];exact q,fun b ps q=>⟨#[],by rw [cS (hm b _ q fun z=>z),q];simp⟩⟩
 by_cases hbe:b=e
 ·subst hbe;exact heo
 ·exact ⟨u,k b u hbe q⟩
end
def Fo (h:Heap) (H:Hp):List Addr:=(List.range h.objs.size).filter fun a=>(H a).isSome
def kS (h:Heap) (H:Hp):Heap:=PySem.W.hideAll h (Fo h H)
theorem rE (h:Heap) (H:Hp):(kS h H).objs.size=h.objs.size:=PySem.W.hideAll_size _ _
theorem u3 {h:Heap} {H:Hp} {b:Addr} {o:Obj} (e:h.get? b=some o) (n:H b=none):(kS h H).get? b=some o:=
 PySem.W.hideAll_get _ e fun hm=>by
  have q:(H b).isSome=true:=(List.mem_filter.mp hm).2
  rw [n] at q;simp at q
theorem xE {h:Heap} {H:Hp} {b:Addr} {o:Obj} (e:(kS h H).get? b=some o):h.get? b=some o/\H b=none:=by
 have e':h.get? b=some o:=PySem.W.of_hideAll (Fo h H) e
 refine ⟨e',?_⟩
 cases q:H b with
 | none=>rfl
 | some x=>
  have hm:b∈Fo h H:=List.mem_filter.mpr ⟨List.mem_range.mpr (Heap.lt_size e'),by simp [q]⟩
  have z:(kS h H).get? b=none:=PySem.W.hideAll_none (Fo h H) hm
  rw [z] at e;cases e
def yx (g h:Heap) (L:Addr):List (Addr×Obj):=(List.range h.objs.size).filterMap fun a=>if a=L\/(g.get? a).isSome=true then none else (h.get? a).map fun o=>(a,o)
def rest (g h:Heap) (L d:Addr):List (Addr×Obj):=(yx g h L).filter fun p=>decide (p.1≠d)
structure Mod (K:Fg) (mg:Str->Option Value) (base:Heap):Prop where
 kin:K.In base
 glob:base.Ns mainGlobals mg
 blt:∃mb,base.Ns builtinsNs mb/\∀x:Str,x ≠ "__name__"->mb x=bootBuiltins x
 nolimit:base.NoLimit
structure Cx where
 prog:Program
 w:World
 K:Fg
 mg:Str->Option Value
 base:Heap
 A:Around
 N:List Str
 s₀:Shared
 H₀:Hp
 env:Env
 outer:List Env
 stack:List Env
 ex:List Addr
 fn:Str->Bool
 calm:Bool
 pn:List (Addr×Obj)
 xe:Value->Shared->Prop
def ve (l:List Env):List Addr:=l.filterMap (·.frame)
abbrev Cx.fs (X:Cx):List Addr:=ve X.outer
def Cd (sc:Scope) (x:Str):Prop:=sc.names.lookup x=some .local\/sc.names.lookup x=some .cell\/sc.names.lookup x=some .free
def Loc (sc:Scope) (x:Str):Prop:=sc.names.lookup x=some .local\/sc.names.lookup x=some .cell
def Look (env:Env) (h:Heap) (m:Str->Option Value) (x:Str) (u:Value):Prop:=
 (env.kindOf x=some .local/\m x=some u)\/((env.kindOf x=some .cell\/env.kindOf x=some .free)/\∃c,env.cells.lookup x=some c/\h.IsCell c (some u))
structure Cx.Ok (X:Cx):Prop where
 mod:Mod X.K X.mg X.base
 kind:X.env.scope.kind=.function
 glob:X.env.globals=mainGlobals
 blt:X.env.builtins=builtinsNs
 above:X.s₀.heap.objs.size<=X.env.locals
 inj:∀x y c,X.env.cells.lookup x=some c->X.env.cells.lookup y=some c->x=y
 has:∀x,(X.env.kindOf x=some .cell\/X.env.kindOf x=some .free)->∃c,X.env.cells.lookup x=some c
 cab:∀x c,X.fn x=true->X.env.cells.lookup x=some c->X.s₀.heap.objs.size<=c
 hd:X.calm=true->X.A.handled=none
 frames:X.A.frames=some X.stack
 stk:X.stack=X.outer\/(X.stack=X.env::X.outer/\X.env.frame=some X.env.locals)
 exf:∀b∈X.ex,b≠X.env.locals/\∀x c,X.env.cells.lookup x=some c->c≠b
 bs:∀b o,X.base.get? b=some o->X.s₀.heap.get? b=some o/\X.H₀ b=none
 bsz:X.base.objs.size<=X.s₀.heap.objs.size
 noex:∀b o,X.base.get? b=some o->b∉X.ex
 exfs:∀b∈X.ex,b∉X.fs
 funs:X.s₀.heap.FunFrames X.base X.outer
 frf:∀b∈X.fs,X.H₀ b=none
structure Inv (X:Cx) (pins:List (Addr×Obj)) (σ:List (Option V)) (H:Hp) (s:Shared):Prop where
 ok:X.Ok
 os:s.os=X.s₀.os
 bare:AllBare s.gens
 base:Un X.fs X.ex X.H₀ H X.s₀.heap s.heap
 loc:∃m,s.heap.Ns X.env.locals m/\∀(i:Nat) (x:Str) (v:V),X.N[i]?=some x->σ[i]?=some (some v)->Cd X.env.scope x->∃u,RelV v u/\Look X.env s.heap m x u
 cell:∀x c,X.env.cells.lookup x=some c->∃v,s.heap.IsCell c v
 free:H X.env.locals=none
 freeC:∀x c,X.env.cells.lookup x=some c->H c=none
 pin:∀p∈X.pn++pins,s.heap.get? p.1=some p.2/\H p.1=none/\p.1≠X.env.locals/\p.1∉X.fs/\∀v,p.2.data≠.cell v
 hok:HOk X.prog X.w H s.heap
 len:σ.length=X.N.length
section
variable {X:Cx} {pins:List (Addr×Obj)} {σ:List (Option V)} {H H':Hp} {s:Shared} {h':Heap}
theorem Cx.Ok.nofr (ok:X.Ok) {b:Addr} {o:Obj} (e:X.base.get? b=some o):b∉X.fs:=fun hb=>by
 have:=(ok.funs.mem hb).1
 rw [e] at this;cases this
theorem Inv.bs (I:Inv X pins σ H s):∀b o,X.base.get? b=some o->s.heap.get? b=some o/\H b=none:=fun b o e=>
 ⟨I.base.keep b o (I.ok.bs b o e).1 (I.ok.bs b o e).2 (I.ok.nofr e) (I.ok.noex b o e),I.base.free b o (I.ok.bs b o e).1 (I.ok.bs b o e).2 (I.ok.noex b o e)⟩
theorem Inv.bk (I:Inv X pins σ H s):∀b o,X.base.get? b=some o->s.heap.get? b=some o:=fun b o e=>(I.bs b o e).1
theorem Inv.mod (I:Inv X pins σ H s):Mod X.K X.mg X.base:=I.ok.mod
theorem Inv.kIn (I:Inv X pins σ H s):X.K.In s.heap:=I.ok.mod.kin.keeps I.bk
theorem Inv.lt (I:Inv X pins σ H s):X.env.locals<s.heap.objs.size:=let ⟨_,hn,_⟩:=I.loc;hn.lt
theorem Inv.sz (I:Inv X pins σ H s):X.s₀.heap.objs.size<=s.heap.objs.size:=Nat.le_trans I.ok.above (Nat.le_of_lt I.lt)
theorem Inv.nofs (I:Inv X pins σ H s) {a:Addr} (h:s.heap.objs.size<=a):a∉X.fs:=fun hb=>by
 obtain ⟨_,o,ho,_⟩:=I.ok.funs.mem hb;exact absurd (Nat.lt_of_lt_of_le (Heap.lt_size ho) (Nat.le_trans I.sz h)) (Nat.lt_irrefl _)
theorem Inv.cne (I:Inv X pins σ H s):∀x c,X.env.cells.lookup x=some c->c≠X.env.locals:=fun x c e z=>by
 obtain ⟨v,o,ho,hd⟩:=I.cell x c e;obtain ⟨m,⟨o',es,ep,ho',hd',_⟩,_⟩:=I.loc;rw [z,ho'] at ho;cases ho;rw [hd'] at hd;cases hd
theorem Inv.funs (I:Inv X pins σ H s):s.heap.FunFrames X.base X.outer:=by
 have all:∀(l:List Env),(∀b∈ve l,b∈X.fs)->X.s₀.heap.FunFrames X.base l->s.heap.FunFrames X.base l:=by
  intro l;induction l with
  | nil=>intro _ _;trivial
  | cons env r ih=>
   intro hs hl;obtain ⟨hk,⟨L,o,hf,hn,ho,hd⟩,hr⟩:=hl;have hL:L∈X.fs:=hs L (by unfold ve;rw [List.filterMap_cons,hf];exact mem_cons_self)
   obtain ⟨sl,e⟩:=I.base.slot L o ho (I.ok.frf L hL) hL fun z=>I.ok.exfs L z hL
   exact ⟨hk,⟨L,_,hf,hn,e,hd⟩,ih (fun b hb=>hs b (by unfold ve;rw [List.filterMap_cons,hf];exact mem_cons_of_mem _ hb)) hr⟩
 exact all X.outer (fun _ hb=>hb) I.ok.funs
theorem Inv.stack (I:Inv X pins σ H s):s.heap.FunFrames X.base X.stack:=by
 rcases I.ok.stk with e | ⟨e,hf⟩
 ·rw [e];exact I.funs
 ·rw [e]
  obtain ⟨m,hn,_⟩:=I.loc;refine .cons (by rw [I.ok.kind];decide) hf hn ?_ I.funs
  exact Heap.get?_none_of_le (Nat.le_trans I.ok.bsz I.ok.above)
theorem Inv.stkSub (I:Inv X pins σ H s):∀b∈ve X.stack,b∈X.env.locals::X.fs:=fun b hb=>by
 rcases I.ok.stk with e | ⟨e,hf⟩
 ·rw [e] at hb;exact mem_cons_of_mem _ hb
 ·rw [e] at hb
  unfold ve at hb;rw [List.filterMap_cons,hf] at hb;exact hb
theorem Inv.stkFree (I:Inv X pins σ H s):∀b∈ve X.stack,H b=none:=fun b hb=>by
 rcases List.mem_cons.mp (I.stkSub b hb) with e | hb
 ·rw [e];exact I.free
 ·obtain ⟨_,o,ho,_⟩:=I.ok.funs.mem hb
  exact I.base.free b o ho (I.ok.frf b hb) fun z=>I.ok.exfs b z hb
theorem Inv.step {g':Array GenState} {t':Nat} {d':Drawn} {ch:List Addr} (I:Inv X pins σ H s)
  (hch:∀b∈ch,(b∈X.ex\/X.s₀.heap.objs.size<=b)/\b≠X.env.locals/\(∀x c,X.env.cells.lookup x=some c->c≠b)/\∀p∈X.pn++pins,p.1≠b)
  (keep:∀b o,b≠X.env.locals->b∉X.fs->b∉ch->s.heap.get? b=some o->H b=none->h'.get? b=some o)
  (slot:∀b o,b≠X.env.locals->b∈X.fs->b∉ch->s.heap.get? b=some o->H b=none->∃sl,h'.get? b=some { o with slots:=sl }) (free:∀b o,b∉ch->s.heap.get? b=some o->H b=none->H' b=none)
  (there:∀b o,b∉ch->s.heap.get? b=some o->∃o',h'.get? b=some o')
  (tups:∀b xs,H b=some (.tup xs)->H' b=some (.tup xs)) (frzs:∀b o u,H b=some (.frz o u)->H' b=some (.frz o u)) (tbls:∀b ps,H b=some (.tbl ps)->∃more,H' b=some (.tbl (ps++more)))
  (ns:∀m,s.heap.Ns X.env.locals m->h'.Ns X.env.locals m) (hok:HOk X.prog X.w H' h') (hg:AllBare g') :
  Inv X pins σ H' { s with heap:=h',gens:=g',drawn:=d',toks:=t' }:=by
 have neL:∀b o,X.s₀.heap.get? b=some o->b≠X.env.locals:=fun b o e=>Nat.ne_of_lt (Nat.lt_of_lt_of_le (Heap.lt_size e) I.ok.above)
 have neC:∀b o,X.s₀.heap.get? b=some o->b∉X.ex->b∉ch:=fun b o e hx hb=>by
  rcases (hch b hb).1 with z | z
  ·exact hx z
  ·exact absurd (Nat.lt_of_lt_of_le (Heap.lt_size e) z) (Nat.lt_irrefl _)
 have cellK:∀x c,X.env.cells.lookup x=some c->∀v,s.heap.IsCell c v->h'.IsCell c v:=fun x c e v ⟨o,ho,hd⟩=>by
  have nch:c∉ch:=fun z=>(hch c z).2.2.1 x c e rfl
  by_cases hc:c∈X.fs
  ·obtain ⟨sl,q⟩:=slot c o (I.cne x c e) hc nch ho (I.freeC x c e)
   exact ⟨_,q,hd⟩
  ·exact ⟨o,keep c o (I.cne x c e) hc nch ho (I.freeC x c e),hd⟩
 refine ⟨I.ok,I.os,hg,⟨fun b o e n hb hx=>?_,fun b o e n hb hx=>?_,fun b o e n hx=>?_,fun b o e hx=>?_,fun b xs e=>tups b xs (I.base.tups b xs e),fun b o xs e=>frzs b o xs (I.base.frzs b o xs e),fun b ps e=>?_⟩,?_,fun x c e=>?_,?_,fun x c e=>?_,fun p hp=>?_,hok,I.len⟩
 ·exact keep b o (neL b o e) hb (neC b o e hx) (I.base.keep b o e n hb hx) (I.base.free b o e n hx)
 ·obtain ⟨sl,e1⟩:=I.base.slot b o e n hb hx
  obtain ⟨sl',e2⟩:=slot b _ (neL b o e) hb (neC b o e hx) e1 (I.base.free b o e n hx);exact ⟨sl',e2⟩
 ·obtain ⟨o',e1⟩:=I.base.there b o e hx
  exact free b o' (neC b o e hx) e1 (I.base.free b o e n hx)
 ·obtain ⟨o',e1⟩:=I.base.there b o e hx
  exact there b o' (neC b o e hx) e1
 ·obtain ⟨m1,e1⟩:=I.base.tbls b ps e
  obtain ⟨m2,e2⟩:=tbls b _ e1;exact ⟨m1++m2,by rw [e2,Array.append_assoc]⟩
 ·obtain ⟨m,hn,hl⟩:=I.loc
  refine ⟨m,ns m hn,fun i x v e1 e2 e3=>?_⟩
  obtain ⟨u,r,l⟩:=hl i x v e1 e2 e3;refine ⟨u,r,?_⟩
  rcases l with l | ⟨k,c,e,z⟩
  ·exact .inl l
  ·exact .inr ⟨k,c,e,cellK x c e _ z⟩
 ·obtain ⟨v,z⟩:=I.cell x c e
  exact ⟨v,cellK x c e v z⟩
 ·obtain ⟨m,⟨o,_,_,ho,_⟩,_⟩:=I.loc
  exact free _ o (fun z=>(hch _ z).2.1 rfl) ho I.free
 ·obtain ⟨v,o,ho,hd⟩:=I.cell x c e
  exact free c o (fun z=>(hch c z).2.2.1 x c e rfl) ho (I.freeC x c e)
 ·obtain ⟨e,n,ne,nf,d⟩:=I.pin p hp
  have nch:p.1∉ch:=fun z=>(hch p.1 z).2.2.2 p hp rfl
  exact ⟨keep p.1 p.2 ne nf nch e n,free p.1 p.2 nch e n,ne,nf,d⟩
theorem Inv.un {t':Nat} (I:Inv X pins σ H s) (u:Un X.fs [] H H' s.heap h') (hok:HOk X.prog X.w H' h'):Inv X pins σ H' { s with heap:=h',toks:=t' }:=by
 obtain ⟨m,⟨o,es,ep,ho,r⟩,_⟩:=id I.loc;obtain ⟨sl,hL⟩:=u.any ho I.free (by simp)
 exact I.step (g':=s.gens) (d':=s.drawn) (ch:=[]) (fun _ z=>nomatch z) (fun b o _ hb _ e n=>u.keep b o e n hb (by simp)) (fun b o _ hb _ e n=>u.slot b o e n hb (by simp)) (fun b o _ e n=>u.free b o e n (by simp)) (fun b o _ e=>u.there b o e (by simp)) u.tups u.frzs u.tbls (fun m' hm=>by
  obtain ⟨o',es',ep',ho',r'⟩:=hm;rw [ho] at ho';cases ho'
  exact ⟨_,es',ep',hL,r'⟩) hok I.bare
theorem Inv.call {g':Array GenState} {t':Nat} {d':Drawn} {ch:List Addr} (I:Inv X pins σ H s) (u:Un (ve X.stack) ch H H' s.heap h') (hok:HOk X.prog X.w H' h') (hg:AllBare g')
  (hch:∀b∈ch,(b∈X.ex\/X.s₀.heap.objs.size<=b)/\b≠X.env.locals/\(∀x c,X.env.cells.lookup x=some c->c≠b)/\∀p∈X.pn++pins,p.1≠b) :
  Inv X pins σ H' { s with heap:=h',gens:=g',drawn:=d',toks:=t' }:=by
 obtain ⟨m,⟨o,es,ep,ho,r⟩,_⟩:=id I.loc;obtain ⟨sl,hL⟩:=u.any ho I.free fun z=>(hch _ z).2.1 rfl
 exact I.step (ch:=ch) hch (fun b o hL hb hc e n=>u.keep b o e n (fun z=>(List.mem_cons.mp (I.stkSub b z)).elim hL hb) hc) (fun b o _ _ hc e n=>u.any e n hc) (fun b o hc e n=>u.free b o e n hc) (fun b o hc e=>u.there b o e hc) u.tups u.frzs u.tbls (fun m' hm=>by
  obtain ⟨o',es',ep',ho',r'⟩:=hm;rw [ho] at ho';cases ho'
  exact ⟨_,es',ep',hL,r'⟩) hok hg
theorem Inv.turned {t':Nat} {it:Addr} (I:Inv X pins σ H s) (k:∀b o,b≠it->s.heap.get? b=some o->h'.get? b=some o) (hn:H it=none) (hL:it≠X.env.locals)
  (h1:it∈X.ex\/X.s₀.heap.objs.size<=it) (h2:∀x c,X.env.cells.lookup x=some c->c≠it) (h3:∀p∈X.pn++pins,p.1≠it):Inv X pins σ H { s with heap:=h',toks:=t' }:=by
 have nit:∀b u,H b=some u->b≠it:=fun b u e z=>by rw [z,hn] at e;cases e
 refine I.step (g':=s.gens) (d':=s.drawn) (ch:=[it]) (fun b hb=>?_) (fun b o _ _ hc e _=>k b o (fun z=>hc (by simp [z])) e) (fun b o _ _ hc e _=>⟨o.slots,k b o (fun z=>hc (by simp [z])) e⟩) (fun _ _ _ _ n=>n)
  (fun b o hc e=>⟨o,k b o (fun z=>hc (by simp [z])) e⟩) (fun _ _ e=>e) (fun _ _ _ e=>e) (fun b ps e=>⟨#[],by rw [e];simp⟩) (fun m hm=>?_) (fun b u e=>?_) I.bare
 ·have e:b=it:=by simpa using hb
  subst e;exact ⟨h1,hL,h2,h3⟩
 ·obtain ⟨o,es,ep,ho,r⟩:=hm
  exact ⟨o,es,ep,k _ o (Ne.symm hL) ho,r⟩
 ·refine (I.hok b u e).stay (fun c v hc q=>k c v ?_ q) (fun _ q=>q) fun _ _ q=>q
  rcases hc with z | z
  ·rw [z];exact nit b u e
  ·exact nit c _ z
theorem Inv.tok (I:Inv X pins σ H s) (t:Nat):Inv X pins σ H { s with toks:=t }:=I.un (h':=s.heap) (t':=t) Un.refl I.hok
theorem Inv.kept {t':Nat} (I:Inv X pins σ H s) (k:∀b u,s.heap.get? b=some u->h'.get? b=some u):Inv X pins σ H { s with heap:=h',toks:=t' }:=I.un (Un.kept k) (I.hok.kept k)
theorem Inv.laid {a:Addr} {o:HO} {t':Nat} (I:Inv X pins σ H s) (k:∀b u,s.heap.get? b=some u->h'.get? b=some u) (hp:s.heap.objs.size<=a) (new:ObjOk X.prog X.w (bA H a o) h' a o) :
  Inv X pins σ (bA H a o) { s with heap:=h',toks:=t' }:=I.un (Un.laid k hp (I.hok.fresh hp)) (I.hok.laid k hp new)
theorem Inv.write {x e:Addr} {o:HO} {t':Nat} (I:Inv X pins σ H s) (mu:Eb (H x)) (he:e=x\/H e=some (.own x)) (k:∀b u,b≠e->s.heap.get? b=some u->h'.get? b=some u) (heo:∃u,h'.get? e=some u)
  (new:ObjOk X.prog X.w (bA H x o) h' x o):Inv X pins σ (bA H x o) { s with heap:=h',toks:=t' }:=I.un (Un.write mu he k heo) (I.hok.write mu he k heo new)
theorem Inv.weak {σ':List (Option V)} (I:Inv X pins σ H s) (hl:σ'.length=σ.length) (w:∀(i:Nat) v,σ'[i]?=some (some v)->σ[i]?=some (some v)):Inv X pins σ' H s:=
 ⟨I.ok,I.os,I.bare,I.base,let ⟨m,hn,hl'⟩:=I.loc;⟨m,hn,fun i x v e1 e2 e3=>hl' i x v e1 (w i v e2) e3⟩,I.cell,I.free,I.freeC,I.pin,I.hok,hl.trans I.len⟩
theorem Inv.pins_of {pins':List (Addr×Obj)} (I:Inv X pins σ H s) (h:∀p∈pins',s.heap.get? p.1=some p.2/\H p.1=none/\p.1≠X.env.locals/\p.1∉X.fs/\∀v,p.2.data≠.cell v):Inv X pins' σ H s:=
 ⟨I.ok,I.os,I.bare,I.base,I.loc,I.cell,I.free,I.freeC,fun p hp=>(List.mem_append.mp hp).elim (fun z=>I.pin p (mem_append_left _ z)) (h p),I.hok,I.len⟩
theorem mF {N:List Str} (hN:N.Nodup) {i j:Nat} {x:Str} (a:N[i]?=some x) (b:N[j]?=some x):i=j:=by
 obtain ⟨h1,e1⟩:=List.getElem?_eq_some_iff.mp a
 obtain ⟨h2,e2⟩:=List.getElem?_eq_some_iff.mp b
 exact (List.getElem_inj hN).mp (e1.trans e2.symm)
theorem jJ {M:Model} {A:Around} {E:Value->Shared->Prop} {i:Nat} {x:Str} {v:V} {u:Value} {Q:Unit->Shared->Prop} (I:Inv X pins σ H s) (hN:X.N.Nodup) (hi:X.N[i]?=some x) (hx:Loc X.env.scope x) (r:RelV v u)
  (h:∀s',Inv X pins (σ.set i (some v)) H s'->(∃a,Heap.SameBut a s.heap s'.heap/\(a=X.env.locals\/X.env.cells.lookup x=some a))->Q () s') (hf:X.fn x=true\/X.env.scope.names.lookup x=some .local:=by first | exact .inl rfl | exact .inr rfl | assumption):wpAny M A (storeName X.env x u) Q E s:=by
 obtain ⟨m,hn,hl⟩:=id I.loc;have hcls:(X.env.scope.kind==.class||(X.env.scope.kind==.module&&X.env.locals != X.env.globals))=false:=by rw [I.ok.kind];rfl
 have hiσ:i<σ.length:=by rw [I.len];exact (List.getElem?_eq_some_iff.mp hi).1
 have cne:=I.cne
 have tracked:∀{a:Addr} {h':Heap},(∃o,s.heap.get? a=some o/\H a=none)->Heap.SameBut a s.heap h'->HOk X.prog X.w H h':=fun {a h'} ha hs b ob e=>by
  obtain ⟨_,_,hfree⟩:=ha;refine (I.hok b ob e).stay (fun c w' hc q=>(hs.2 c ?_).trans q) (fun _ q=>q) fun _ _ q=>q
  rintro rfl
  rcases hc with rfl | hc
  ·rw [hfree] at e;cases e
  ·rw [hfree] at hc;cases hc
 rcases hx with hk | hk
 ·refine wpAny_storeName_local hk hn (fun h' hn' hs=>?_) hcls
  obtain ⟨oL,_,_,hoL,_⟩:=id hn;refine h _ ⟨I.ok,I.os,I.bare,⟨fun b o e n hb hx=>?_,fun b o e n hb hx=>?_,I.base.free,fun b o e hx=>?_,I.base.tups,I.base.frzs,I.base.tbls⟩,⟨_,hn',fun j y v' e1 e2 e3=>?_⟩,fun y c e=>?_,I.free,I.freeC,fun p hp=>?_,tracked ⟨oL,hoL,I.free⟩ hs,by simpa using I.len⟩ ⟨_,hs,.inl rfl⟩
  ·exact (hs.2 b (Nat.ne_of_lt (Nat.lt_of_lt_of_le (Heap.lt_size e) I.ok.above))).trans (I.base.keep b o e n hb hx)
  ·obtain ⟨sl,e1⟩:=I.base.slot b o e n hb hx
   exact ⟨sl,(hs.2 b (Nat.ne_of_lt (Nat.lt_of_lt_of_le (Heap.lt_size e) I.ok.above))).trans e1⟩
  ·obtain ⟨o',e1⟩:=I.base.there b o e hx
   exact ⟨o',(hs.2 b (Nat.ne_of_lt (Nat.lt_of_lt_of_le (Heap.lt_size e) I.ok.above))).trans e1⟩
  ·by_cases hj:j=i
   ·subst hj
    rw [hi] at e1;cases e1;rw [getElem?_set_self hiσ] at e2
    cases e2;exact ⟨u,r,.inl ⟨hk,by simp⟩⟩
   ·rw [getElem?_set_ne (Ne.symm hj)] at e2
    obtain ⟨u',r',q⟩:=hl j y v' e1 e2 e3
    refine ⟨u',r',?_⟩
    rcases q with ⟨k,e⟩ | ⟨k,c,e,z⟩
    ·refine .inl ⟨k,?_⟩
     have:y≠x:=fun e=>hj (mF hN e1 (e▸hi))
     simp [this,e]
    ·exact .inr ⟨k,c,e,z.sameBut hs (cne y c e)⟩
  ·obtain ⟨w',z⟩:=I.cell y c e
   exact ⟨w',z.sameBut hs (cne y c e)⟩
  ·obtain ⟨e,n,ne,nf,d⟩:=I.pin p hp
   exact ⟨(hs.2 p.1 ne).trans e,n,ne,nf,d⟩
 ·have hfn:X.fn x=true:=by
   rcases hf with z | z
   ·exact z
   ·rw [z] at hk;cases hk
  obtain ⟨c,hc⟩:=I.ok.has x (.inl hk);obtain ⟨w',z⟩:=I.cell x c hc;refine wpAny_storeName_cell I.ok.kind hk hc z (fun h' hc' hs=>?_)
  obtain ⟨oc,hoc,hocd⟩:=id z;refine h { s with heap:=h' } ⟨I.ok,I.os,I.bare,⟨fun b o e n hb hx=>?_,fun b o e n hb hx=>?_,I.base.free,fun b o e hx=>?_,I.base.tups,I.base.frzs,I.base.tbls⟩,⟨m,hn.sameBut hs (Ne.symm (cne x c hc)),fun j y v' e1 e2 e3=>?_⟩,fun y c' e=>?_,I.free,I.freeC,fun p hp=>?_,tracked ⟨oc,hoc,I.freeC x c hc⟩ hs,by simpa using I.len⟩ ⟨c,hs,.inr hc⟩
  ·exact (hs.2 b (Nat.ne_of_lt (Nat.lt_of_lt_of_le (Heap.lt_size e) (I.ok.cab x c hfn hc)))).trans (I.base.keep b o e n hb hx)
  ·obtain ⟨sl,e1⟩:=I.base.slot b o e n hb hx
   exact ⟨sl,(hs.2 b (Nat.ne_of_lt (Nat.lt_of_lt_of_le (Heap.lt_size e) (I.ok.cab x c hfn hc)))).trans e1⟩
  ·obtain ⟨o',e1⟩:=I.base.there b o e hx
   exact ⟨o',(hs.2 b (Nat.ne_of_lt (Nat.lt_of_lt_of_le (Heap.lt_size e) (I.ok.cab x c hfn hc)))).trans e1⟩
  ·by_cases hj:j=i
   ·subst hj
    rw [hi] at e1;cases e1;rw [getElem?_set_self hiσ] at e2
    cases e2;exact ⟨u,r,.inr ⟨.inl hk,c,hc,hc'⟩⟩
   ·rw [getElem?_set_ne (Ne.symm hj)] at e2
    obtain ⟨u',r',q⟩:=hl j y v' e1 e2 e3
    refine ⟨u',r',?_⟩
    rcases q with q | ⟨k,c',e,z'⟩
    ·exact .inl q
    ·refine .inr ⟨k,c',e,z'.sameBut hs ?_⟩
     rintro rfl
     exact hj (mF hN e1 (I.ok.inj _ _ _ e hc▸hi))
  ·by_cases hcc:c'=c
   ·subst hcc;exact ⟨_,hc'⟩
   ·obtain ⟨w2,z2⟩:=I.cell y c' e
    exact ⟨w2,z2.sameBut hs hcc⟩
  ·obtain ⟨e,n,ne,nf,d⟩:=I.pin p hp
   refine ⟨(hs.2 p.1 ?_).trans e,n,ne,nf,d⟩
   intro q;rw [q,hoc] at e;have q':oc=p.2:=Option.some.inj e
   exact d w' (by rw [<-q'];exact hocd)
theorem Hd {M:Model} {A:Around} {E:Value->Shared->Prop} {i:Nat} {x:Str} {v:V} {u:Value} {Q:Unit->Shared->Prop} (I:Inv X pins σ H s) (hN:X.N.Nodup) (hi:X.N[i]?=some x) (hx:Loc X.env.scope x) (r:RelV v u)
  (h:∀s',Inv X pins (σ.set i (some v)) H s'->Q () s') (hf:X.fn x=true\/X.env.scope.names.lookup x=some .local:=by first | exact .inl rfl | exact .inr rfl | assumption):wpAny M A (storeName X.env x u) Q E s:=
 jJ I hN hi hx r (fun s' I' _=>h s' I') hf
theorem Inv.call' {s':Shared} {ch:List Addr} (I:Inv X pins σ H s) (ho:s'.os=s.os) (u:Un (ve X.stack) ch H H' s.heap s'.heap) (hok:HOk X.prog X.w H' s'.heap) (hg:AllBare s'.gens)
  (hch:∀b∈ch,(b∈X.ex\/X.s₀.heap.objs.size<=b)/\b≠X.env.locals/\(∀x c,X.env.cells.lookup x=some c->c≠b)/\∀p∈X.pn++pins,p.1≠b):Inv X pins σ H' s':=by
 obtain ⟨h',g',d',t',o'⟩:=s'
 have e:o'=s.os:=ho
 subst e;exact I.call (g':=g') (t':=t') (d':=d') u hok hg hch
end
abbrev XK:=Value->Option Addr->Hp->Prop
abbrev St:=List (Option V)
abbrev VK:=V->Hp->Prop
abbrev TE:=St->Hp->VK->Prop
abbrev TT:=St->Hp->(Bool->Hp->Prop)->Prop
abbrev TA:=St->Hp->(List V->Hp->Prop)->Prop
structure fL where
 nx:St->Hp->Prop
 rt:VK
 bk:St->Hp->Prop:=fun _ _=>False
 ct:St->Hp->Prop:=fun _ _=>False
abbrev TS:=fL->St->Hp->Prop
def EP (X:Cx) (pins:List (Addr×Obj)) (σ:St) (Q:VK) (u:Value) (s':Shared):Prop:=∃v H',Inv X pins σ H' s'/\RelV v u/\Q v H'
def TP (X:Cx) (pins:List (Addr×Obj)) (σ:St) (Q:Bool->Hp->Prop) (b:Bool) (s':Shared):Prop:=∃H',Inv X pins σ H' s'/\Q b H'
def AP (X:Cx) (pins:List (Addr×Obj)) (σ:St) (Q:List V->Hp->Prop) (us:List Value) (s':Shared):Prop:=∃vs H',Inv X pins σ H' s'/\Vals vs us/\Q vs H'
def SP (X:Cx) (pins:List (Addr×Obj)) (D:fL) (f:Flow) (s':Shared):Prop:=
 match f with
 | .next=>∃σ' H',Inv X pins σ' H' s'/\D.nx σ' H'
 | .brk=>∃σ' H',Inv X pins σ' H' s'/\D.bk σ' H'
 | .cont=>∃σ' H',Inv X pins σ' H' s'/\D.ct σ' H'
 | .ret u=>∃v σ' H',Inv X pins σ' H' s'/\RelV v u/\D.rt v H'
def PE (X:Cx) (e:Expr) (t:TE):Prop:=
 ∀(pins:List (Addr×Obj)) (s:Shared) (σ:St) (H:Hp) (Q:VK),Inv X pins σ H s->t σ H Q->wpAny (model X.prog X.w) X.A (eval e X.env) (EP X pins σ Q) X.xe s
def PT (X:Cx) (e:Expr) (t:TT):Prop:=
 ∀(pins:List (Addr×Obj)) (s:Shared) (σ:St) (H:Hp) (Q:Bool->Hp->Prop),Inv X pins σ H s->t σ H Q->wpAny (model X.prog X.w) X.A (isTrue e X.env (eval e X.env)) (TP X pins σ Q) X.xe s
def PW (X:Cx) (e:Expr) (t:TT):Prop:=
 ∀(whole:Sem Value) (pins:List (Addr×Obj)) (s:Shared) (σ:St) (H:Hp) (Q:Bool->Hp->Prop),Inv X pins σ H s->t σ H Q->wpAny (model X.prog X.w) X.A (isTrue e X.env whole) (TP X pins σ Q) X.xe s
theorem PW.pt {X:Cx} {e:Expr} {t:TT} (h:PW X e t):PT X e t:=h _
def PA (X:Cx) (es:List Expr) (t:TA):Prop:=
 ∀(pos:Pos) (pins:List (Addr×Obj)) (s:Shared) (σ:St) (H:Hp) (Q:List V->Hp->Prop),Inv X pins σ H s->t σ H Q->wpAny (model X.prog X.w) X.A (spliced (backTo pos (starEach es X.env))) (AP X pins σ Q) X.xe s
def PS (X:Cx) (st:Stmt) (t:TS):Prop:=
 ∀(pins:List (Addr×Obj)) (s:Shared) (σ:St) (H:Hp) (D:fL),Inv X pins σ H s->t D σ H->wpAny (model X.prog X.w) X.A (exec st X.env) (SP X pins D) X.xe s
def PSs (X:Cx) (st:List Stmt) (t:TS):Prop:=
 ∀(pins:List (Addr×Obj)) (s:Shared) (σ:St) (H:Hp) (D:fL),Inv X pins σ H s->t D σ H->wpAny (model X.prog X.w) X.A (execs st X.env) (SP X pins D) X.xe s
theorem bB {α:Type} {t:Sem α} {Q Q':α->Shared->Prop} {M:Model} {A:Around} {E:Value->Shared->Prop} {s:Shared} (h:wpAny M A t Q E s) (hQ:∀a s,Q a s->Q' a s):wpAny M A t Q' E s:=wpAny_mono h hQ fun _ _ x=>x
section
variable {X:Cx}
def br (i:Nat):TE:=fun σ H Q=>∃v,σ[i]?=some (some v)/\Q v H
def tC (v:V):TE:=fun _ H Q=>Q v H
theorem wb {i:Nat} {x:Str} {pos:Pos} (hN:X.N[i]?=some x) (hv:Cd X.env.scope x) (hd:(x==("__debug__":Str))=false:=by decide) (hcd:(x==("__classdict__":Str))=false:=by decide):PE X (.Name x pos) (br i):=by
 intro pins s σ H Q I h;obtain ⟨v,e,h⟩:=h;obtain ⟨m,hn,hl⟩:=I.loc;obtain ⟨u,r,l⟩:=hl i x v hN e hv;have fin:EP X pins σ Q u s:=⟨v,H,I,r,h⟩
 rcases l with ⟨hk,hm⟩ | ⟨hk,c,hc,hcell⟩
 ·exact wpAny_Name (wpAny_loadName_local I.ok.kind hk hn hm fin) hd
 ·rcases hk with hk | hk
  ·exact wpAny_Name (wpAny_loadName_cell I.ok.kind hk hc hcell fin) hd
  ·exact wpAny_Name (wpAny_loadName_free I.ok.kind hk hc hcell fin hcd) hd
theorem uy {i j pos}:PE X (.Constant (.int i) j pos) (tC (.int i)):=fun _ _ _ H _ I h=>wpAny_Constant_int ⟨.int i,H,I.tok _,⟨_,rfl⟩,h⟩
theorem uC {b j pos}:PE X (.Constant (.bool b) j pos) (tC (.bl b)):=fun _ _ _ H _ I h=>Constant_bool ⟨.bl b,H,I,rfl,h⟩
theorem A7 {j pos}:PE X (.Constant .none j pos) (tC .non):=fun _ _ _ H _ I h=>Constant_none ⟨.non,H,I,rfl,h⟩
theorem uw {x j pos}:PE X (.Constant (.str x) j pos) (tC (.str x)):=fun _ _ _ H _ I h=>Calls.Constant_str ⟨.str x,H,I.tok _,⟨_,rfl⟩,h⟩
def Gl (X:Cx) (x:Str):Prop:=X.env.kindOf x=some .globalImplicit
theorem pT {E:Value->Shared->Prop} {pins:List (Addr×Obj)} {s:Shared} {σ:St} {H:Hp} {x:Str} {u:Value} {pos:Pos} {Q:Value->Shared->Prop} (I:Inv X pins σ H s) (hg:Gl X x) (hm:X.mg x=some u) (h:Q u s)
  (hd:(x==("__debug__":Str))=false:=by decide):wpAny (model X.prog X.w) X.A (eval (.Name x pos) X.env) Q E s:=
 Calls.Name_function_global I.ok.kind hg (Calls.loadGlobal_global (by rw [I.ok.glob];exact I.mod.glob.keeps I.bk) hm h) hd
theorem v9 {E:Value->Shared->Prop} {pins:List (Addr×Obj)} {s:Shared} {σ:St} {H:Hp} {x:Str} {u:Value} {pos:Pos} {Q:Value->Shared->Prop} (I:Inv X pins σ H s) (hg:Gl X x) (hm:X.mg x=none) (hv:bootBuiltins x=some u) (h:Q u s)
  (hn:x ≠ "__name__":=by decide) (hd:(x==("__debug__":Str))=false:=by decide):wpAny (model X.prog X.w) X.A (eval (.Name x pos) X.env) Q E s:=by
 obtain ⟨mb,h1,h2⟩:=I.mod.blt;exact Calls.Name_function_global I.ok.kind hg (Calls.loadGlobal_builtin (by rw [I.ok.glob];exact I.mod.glob.keeps I.bk) hm (by rw [I.ok.blt];exact h1.keeps I.bk) ((h2 x hn).trans hv) h) hd
theorem xt {x:Str} {v:V} {u:Value} {pos:Pos} (hg:Gl X x) (hm:X.mg x=some u) (r:RelV v u) (hd:(x==("__debug__":Str))=false:=by decide):PE X (.Name x pos) (tC v):=
 fun _ _ _ H _ I h=>pT I hg hm ⟨v,H,I,r,h⟩ hd
variable {a b:Expr} {ta tb:TE} {pos:Pos}
def PC (X:Cx) (op:CmpOp) (a b:Expr) (t:TE):Prop:=
 ∀(pins:List (Addr×Obj)) (s:Shared) (σ:St) (H:Hp) (Q:VK),Inv X pins σ H s->t σ H Q ->
  wpAny (model X.prog X.w) X.A (eval a X.env) (fun v s₁=>wpAny (model X.prog X.w) X.A (eval b X.env) (fun u s₂=>wpAny (model X.prog X.w) X.A (compareOp op v u) (EP X pins σ Q) X.xe s₂) X.xe s₁) X.xe s
def tB (t:TE):TT:=fun σ H Q=>t σ H fun x H1=>∃c,x=.bl c/\Q c H1
theorem ug {op:CmpOp} {t:TE} (h:PC X op a b t) (h1:behindInMarks op b=false:=by first | exact nobehind _ (by decide) (by decide) | rfl):PT X (.Compare a [op] [b] pos) (tB t):=by
 intro pins s σ H Q I hw;refine wpAny_isTrue_Compare1 (bB (h pins s σ H _ I hw) fun v s1 h1=>bB h1 fun u s2 h2=>bB h2 fun c s3 ⟨x,H1,I1,r1,q1⟩=>?_) h1
 obtain ⟨d,rfl,q⟩:=q1
 cases r1;exact wpAny_truthy_bool ⟨H1,I1,q⟩
variable {tA tB':TT} {rest:List Expr}
def C8 (t u:TT):TT:=fun σ H Q=>t σ H fun c H1=>if c=true then u σ H1 Q else Q false H1
def Jv (t u:TT):TT:=fun σ H Q=>t σ H fun c H1=>if c=true then Q true H1 else u σ H1 Q
def C5 (t:TT):TT:=fun σ H Q=>t σ H fun c H1=>Q (!c) H1
theorem xj (ha:PT X a tA):PW X (.BoolOp .And [a] pos) tA:=by
 intro wh pins s σ H Q I h;refine isTrue_and (bB (ha pins s σ H Q I h) fun c s1 e=>?_)
 cases c with
 | true=>exact isTrue_and_nil e
 | false=>exact e
theorem AW (ha:PT X a tA):PW X (.BoolOp .Or [a] pos) tA:=by
 intro wh pins s σ H Q I h;refine isTrue_or (bB (ha pins s σ H Q I h) fun c s1 e=>?_)
 cases c with
 | false=>exact isTrue_or_nil e
 | true=>exact e
theorem AX (ha:PT X a tA) (hb:PW X (.BoolOp .And (b::rest) pos) tB'):PW X (.BoolOp .And (a::b::rest) pos) (C8 tA tB'):=by
 intro wh pins s σ H Q I h;refine isTrue_and (bB (ha pins s σ H _ I h) fun c s1 ⟨H1,I1,q1⟩=>?_)
 cases c with
 | true=>exact hb wh pins s1 σ H1 Q I1 q1
 | false=>exact ⟨H1,I1,q1⟩
theorem Dr (ha:PT X a tA) (hb:PW X (.BoolOp .Or (b::rest) pos) tB'):PW X (.BoolOp .Or (a::b::rest) pos) (Jv tA tB'):=by
 intro wh pins s σ H Q I h;refine isTrue_or (bB (ha pins s σ H _ I h) fun c s1 ⟨H1,I1,q1⟩=>?_)
 cases c with
 | true=>exact ⟨H1,I1,q1⟩
 | false=>exact hb wh pins s1 σ H1 Q I1 q1
theorem AY (ha:PT X a tA):PT X (.UnaryOp .Not a pos) (C5 tA):=by
 intro pins s σ H Q I h;exact isTrue_not (ha pins s σ H (fun c H1=>Q (!c) H1) I h)
def y0 (ta tb:TE):TE:=fun σ H Q=>ta σ H fun x H1=>∃c,x=.bl c/\if c=true then tb σ H1 Q else Q (.bl false) H1
def C4 (ta tb:TE):TE:=fun σ H Q=>ta σ H fun x H1=>∃c,x=.bl c/\if c=true then Q (.bl true) H1 else tb σ H1 Q
theorem pe_one {op} {t:TE} (h:PE X a t):PE X (.BoolOp op [a] pos) t:=fun pins s σ H Q I hw=>BoolOp_one (h pins s σ H Q I hw)
theorem A9 (ha:PE X a ta) (hb:PE X (.BoolOp .And (b::rest) pos) tb):PE X (.BoolOp .And (a::b::rest) pos) (y0 ta tb):=by
 intro pins s σ H Q I h;refine BoolOp_and (bB (ha pins s σ H _ I h) fun v s1 ⟨x,H1,I1,r1,q1⟩=>?_)
 obtain ⟨c,rfl,q1⟩:=q1
 cases r1;refine wpAny_truthy_bool ?_
 cases c with
 | true=>exact hb pins s1 σ H1 Q I1 q1
 | false=>exact ⟨.bl false,H1,I1,rfl,q1⟩
theorem Dv (ha:PE X a ta) (hb:PE X (.BoolOp .Or (b::rest) pos) tb):PE X (.BoolOp .Or (a::b::rest) pos) (C4 ta tb):=by
 intro pins s σ H Q I h;refine BoolOp_or (bB (ha pins s σ H _ I h) fun v s1 ⟨x,H1,I1,r1,q1⟩=>?_)
 obtain ⟨c,rfl,q1⟩:=q1
 cases r1;refine wpAny_truthy_bool ?_
 cases c with
 | false=>exact hb pins s1 σ H1 Q I1 q1
 | true=>exact ⟨.bl true,H1,I1,rfl,q1⟩
def Jx (t:TT) (ta tb:TE):TE:=fun σ H Q=>t σ H fun c H1=>if c=true then ta σ H1 Q else tb σ H1 Q
theorem uz {c:Expr} (hc:PT X c tA) (ha:PE X a ta) (hb:PE X b tb):PE X (.IfExp c a b pos) (Jx tA ta tb):=by
 intro pins s σ H Q I h;refine wpAny_IfExp (bB (hc pins s σ H _ I h) fun d s1 ⟨H1,I1,q1⟩=>?_)
 cases d with
 | true=>exact ha pins s1 σ H1 Q I1 q1
 | false=>exact hb pins s1 σ H1 Q I1 q1
end
def SqL (K:Fg) (H:Hp) (a:Addr) (xs:List V):Prop:=
 Rd H a (.lst xs) \/
  ∃(o:Obj) (its:Array Value) (n:Nat),K.lookup a=some o/\o.cls=.type "list"/\o.dict=none/\o.data=.seq its n/\its.size<=sizeLine/\Vals xs its.toList
def SqT (K:Fg) (H:Hp) (a:Addr) (xs:List V):Prop:=
 Rd H a (.tup xs) \/
  ∃(o:Obj) (its:Array Value) (n:Nat),K.lookup a=some o/\o.cls=.type "tuple"/\o.data=.seq its n/\its.size<=sizeLine/\Vals xs its.toList
def Jd:Value->Option V
 | .none=>some .non
 | .bool b=>some (.bl b)
 | .int i _=>some (.int i)
 | .str x _=>some (.str x)
 | .bytes b _=>some (.byt b)
 | .float b _=>some (.flt b)
 | .ref a=>some (.ref a)
 | .type n=>some (.ty n)
 | _=>none
theorem RelV.abs {x:V} {u:Value} (r:RelV x u):Jd u=some x:=by
 cases x with
 | non=>cases r;rfl
 | bl _=>cases r;rfl
 | int _=>obtain ⟨t,rfl⟩:=r;rfl
 | str _=>obtain ⟨t,rfl⟩:=r;rfl
 | byt _=>obtain ⟨t,rfl⟩:=r;rfl
 | flt _=>obtain ⟨t,rfl⟩:=r;rfl
 | ref _=>cases r;rfl
 | ty _=>cases r;rfl
theorem RelV.inj {x y:V} {u:Value} (r:RelV x u) (q:RelV y u):x=y:=Option.some.inj (r.abs.symm.trans q.abs)
theorem Vals.inj:∀{xs ys:List V} {us:List Value},Vals xs us->Vals ys us->xs=ys
 | _,_,_,.nil,.nil=>rfl
 | _,_,_,.cons r t,.cons r' t'=>by rw [r.inj r',Vals.inj t t']
section
variable {X:Cx} {pins:List (Addr×Obj)} {σ:St} {H:Hp} {s:Shared} {a:Addr} {xs ys:List V}
theorem SqL.of {K:Fg} (h:H a=some (.lst xs)):SqL K H a xs:=.inl (.inl h)
theorem SqT.of {K:Fg} (h:H a=some (.tup xs)):SqT K H a xs:=.inl (.inl h)
theorem Inv.list (I:Inv X pins σ H s) (h:SqL X.K H a xs):∃its:List Value,Vals xs its/\PlainL s.heap a its.toArray/\xs.length<=sizeLine:=by
 rcases h with h | ⟨o,its,n,hk,hc,hd,hs,hz,r⟩
 ·obtain ⟨z,its,n,r,e⟩:=h.ok I.hok
  exact ⟨its,r,⟨_,n,e,rfl,rfl,rfl⟩,z⟩
 ·refine ⟨its.toList,r,⟨o,n,I.kIn a o hk,hc,hd,by simpa using hs⟩,?_⟩
  have e:=r.length
  simp only [Array.length_toList] at e
  omega
theorem Inv.tuple (I:Inv X pins σ H s) (h:SqT X.K H a xs):∃its:List Value,Vals xs its/\IsTup s.heap a its.toArray/\xs.length<=sizeLine:=by
 rcases h with h | ⟨o,its,n,hk,hc,hs,hz,r⟩
 ·obtain ⟨z,its,r,p⟩:=h.ok I.hok
  exact ⟨its,r,p,z⟩
 ·refine ⟨its.toList,r,⟨o,I.kIn a o hk,hc,n,by simpa using hs⟩,?_⟩
  have e:=r.length
  simp only [Array.length_toList] at e
  omega
theorem Inv.list_inj (I:Inv X pins σ H s) (h:SqL X.K H a xs) (h':SqL X.K H a ys):xs=ys:=by
 obtain ⟨its,r,⟨o,n,e,_,_,d⟩,_⟩:=I.list h;obtain ⟨its',r',⟨o',n',e',_,_,d'⟩,_⟩:=I.list h'
 rw [e] at e';cases e'
 rw [d] at d';injection d' with d1 _
 have:its=its':=by simpa using congrArg Array.toList d1
 subst this;exact r.inj r'
end
abbrev Cx.wish (X:Cx) (E:Value->Shared->Prop):Cx:={ X with xe:=E }
abbrev Cx.nox (X:Cx):Cx:=X.wish fun _ _=>False
theorem Cx.Ok.wish {X:Cx} (ok:X.Ok) (E:Value->Shared->Prop):(X.wish E).Ok:=
 ⟨ok.mod,ok.kind,ok.glob,ok.blt,ok.above,ok.inj,ok.has,ok.cab,ok.hd,ok.frames,ok.stk,ok.exf,ok.bs,ok.bsz,ok.noex,ok.exfs,ok.funs,ok.frf⟩
theorem Cx.Ok.unwish {X:Cx} {E:Value->Shared->Prop} (ok:(X.wish E).Ok):X.Ok:=
 ⟨ok.mod,ok.kind,ok.glob,ok.blt,ok.above,ok.inj,ok.has,ok.cab,ok.hd,ok.frames,ok.stk,ok.exf,ok.bs,ok.bsz,ok.noex,ok.exfs,ok.funs,ok.frf⟩
section
variable {X:Cx} {pins:List (Addr×Obj)} {σ:St} {H:Hp} {s:Shared} {E:Value->Shared->Prop}
theorem Inv.wish (I:Inv X pins σ H s) (E:Value->Shared->Prop):Inv (X.wish E) pins σ H s:=⟨I.ok.wish E,I.os,I.bare,I.base,I.loc,I.cell,I.free,I.freeC,I.pin,I.hok,I.len⟩
theorem Inv.unwish (I:Inv (X.wish E) pins σ H s):Inv X pins σ H s:=⟨I.ok.unwish,I.os,I.bare,I.base,I.loc,I.cell,I.free,I.freeC,I.pin,I.hok,I.len⟩
theorem SP.unwish {D:fL} {f:Flow} {s':Shared} (h:SP (X.wish E) pins D f s'):SP X pins D f s':=by
 cases f with
 | next=>obtain ⟨σ',H',I,q⟩:=h;exact ⟨σ',H',I.unwish,q⟩
 | brk=>obtain ⟨σ',H',I,q⟩:=h;exact ⟨σ',H',I.unwish,q⟩
 | cont=>obtain ⟨σ',H',I,q⟩:=h;exact ⟨σ',H',I.unwish,q⟩
 | ret u=>obtain ⟨v,σ',H',I,r,q⟩:=h;exact ⟨v,σ',H',I.unwish,r,q⟩
theorem PSs.nox {st:List Stmt} {t:TS} (h:PSs X.nox st t):PSs X st t:=fun pins s σ H D I hw=>
 wpAny_mono (h pins s σ H D (I.wish _) hw) (fun _ _ q=>q.unwish) fun _ _ z=>False.elim z
end
section
variable {X:Cx} {st:Stmt} {rest:List Stmt} {t u:TS} {e:Expr} {te:TE} {pos:Pos}
def pq:TS:=fun D σ H=>D.nx σ H
def fF (t u:TS):TS:=fun D σ H=>t { D with nx:=u D } σ H
theorem pL:PSs X [] pq:=fun _ _ σ H _ I h=>wpAny_execs_nil ⟨σ,H,I,h⟩
theorem qo (h1:PS X st t) (h2:PSs X rest u):PSs X (st::rest) (fF t u):=by
 intro pins s σ H D I h;refine wpAny_execs_cons (bB (h1 pins s σ H { D with nx:=u D } I h) fun f s1 q=>?_)
 cases f with
 | next=>
  obtain ⟨σ',H',I',q⟩:=q;exact h2 pins s1 σ' H' D I' q
 | ret v=>exact q
 | brk=>exact q
 | cont=>exact q
theorem yQ (h1:PS X st t):PSs X [st] t:=by
 intro pins s σ H D I h;refine wpAny_execs_cons (bB (h1 pins s σ H D I h) fun f s1 q=>?_)
 cases f with
 | next=>exact wpAny_execs_nil q
 | ret v=>exact q
 | brk=>exact q
 | cont=>exact q
theorem Inv.quiet {pins:List (Addr×Obj)} {σ:St} {H:Hp} {s:Shared} (I:Inv X pins σ H s):interactive X.env=false:=by simp [interactive,I.ok.kind]
def jI (te:TE):TS:=fun D σ H=>te σ H fun _ H1=>D.nx σ H1
theorem Eu (he:PE X e te) (hs:swapsWith e none pos.line X.env=pure false:=by rfl):PS X (.Expr e pos) (jI te):=by
 intro pins s σ H D I h;exact wpAny_Expr_any (bB (he pins s σ H _ I h) fun v s1 ⟨x,H1,I1,r1,q1⟩=>⟨σ,H1,I1,q1⟩) I.quiet hs
def tj (te:TE):TS:=fun D σ H=>te σ H D.rt
theorem En (he:PE X e te):PS X (.Return (some e) pos) (tj te):=by
 intro pins s σ H D I h;exact wpAny_Return_some (bB (he pins s σ H _ I h) fun v s1 ⟨x,H1,I1,r1,q1⟩=>⟨x,σ,H1,I1,r1,q1⟩)
def wB (c:TT) (t u:TS):TS:=fun D σ H=>c σ H fun b H1=>if b=true then t D σ H1 else u D σ H1
theorem zd {c:Expr} {a b:List Stmt} {tc:TT} (hc:PT X c tc) (ha:PSs X a t) (hb:PSs X b u):PS X (.If c a b pos) (wB tc t u):=by
 intro pins s σ H D I h;refine wpAny_If (bB (hc pins s σ H _ I h) fun d s1 ⟨H1,I1,q1⟩=>?_)
 cases d with
 | true=>exact ha pins s1 σ H1 D I1 q1
 | false=>exact hb pins s1 σ H1 D I1 q1
end
abbrev TG:=V->St->Hp->(St->Hp->Prop)->Prop
abbrev zz:=List V->St->Hp->(St->Hp->Prop)->Prop
def PG (X:Cx) (target:Expr) (t:TG):Prop:=
 ∀(pins:List (Addr×Obj)) (s:Shared) (σ:St) (H:Hp) (v:V) (u:Value) (Q:St->Hp->Prop),Inv X pins σ H s->RelV v u->t v σ H Q ->
  wpAny (model X.prog X.w) X.A (assign target X.env u) (fun _ s'=>∃σ' H',Inv X pins σ' H' s'/\Q σ' H') X.xe s
def FZ (X:Cx) (ts:List Expr) (t:zz):Prop:=
 ∀(pins:List (Addr×Obj)) (s:Shared) (σ:St) (H:Hp) (vs:List V) (us:List Value) (Q:St->Hp->Prop),Inv X pins σ H s->Vals vs us->t vs σ H Q ->
  wpAny (model X.prog X.w) X.A (assignInOrder ((assignEach ts X.env).map (·.2)) us) (fun _ s'=>∃σ' H',Inv X pins σ' H' s'/\Q σ' H') X.xe s
abbrev Ce:=V->V->V->Hp->(Hp->Prop)->Prop
def D8 (X:Cx) (t:Ce):Prop:=
 ∀(pins:List (Addr×Obj)) (s:Shared) (σ:St) (H:Hp) (o i v:V) (ov iv u:Value) (Q:Hp->Prop),Inv X pins σ H s->RelV o ov->RelV i iv->RelV v u->t o i v H Q ->
  wpAny (model X.prog X.w) X.A (setItem ov iv u) (fun _ s'=>∃H',Inv X pins σ H' s'/\Q H') X.xe s
abbrev FW:=V->V->Hp->VK->Prop
def J3 (X:Cx) (op:Operator) (t:FW):Prop:=
 ∀(pins:List (Addr×Obj)) (s:Shared) (σ:St) (H:Hp) (x y:V) (v u:Value) (Q:VK),Inv X pins σ H s->RelV x v->RelV y u->t x y H Q ->
  wpAny (model X.prog X.w) X.A (inplaceOp op v u) (EP X pins σ Q) X.xe s
section
variable {X:Cx} {pos:Pos}
def bQ (i:Nat):TG:=fun v σ H Q=>Q (σ.set i (some v)) H
theorem nW {i:Nat} {x:Str} (hN:X.N.Nodup) (hi:X.N[i]?=some x) (hx:Loc X.env.scope x) (hf:X.fn x=true\/X.env.scope.names.lookup x=some .local:=by first | exact .inl rfl | exact .inr rfl | assumption):PG X (.Name x pos) (bQ i):=by
 intro pins s σ H v u Q I r h;exact wpAny_assign_Name (Hd I hN hi hx r (fun s' I'=>⟨_,H,I',h⟩) hf)
def ya:zz:=fun vs σ H Q=>vs=[]/\Q σ H
def jX (t:TG) (u:zz):zz:=fun vs σ H Q=>∃v r,vs=v::r/\t v σ H fun σ' H'=>u r σ' H' Q
theorem Es:FZ X [] ya:=by
 intro pins s σ H vs us Q I r h;obtain ⟨e,h⟩:=h;subst e
 cases r;exact assignInOrder_nil ⟨σ,H,I,h⟩
theorem yM {e:Expr} {es:List Expr} {t:TG} {u:zz} (h1:PG X e t) (h2:FZ X es u)
  (hs:(assignEach (e::es) X.env).map (·.2)=assign e X.env::(assignEach es X.env).map (·.2):=by rfl):FZ X (e::es) (jX t u):=by
 intro pins s σ H vs us Q I r h;obtain ⟨v,vr,e1,h⟩:=h;subst e1
 cases r with
 | cons r rr=>
  rw [hs];refine assignInOrder_cons (bB (h1 pins s σ H _ _ _ I r h) fun _ s1 ⟨σ1,H1,I1,q1⟩=>?_)
  exact h2 pins s1 σ1 H1 _ _ Q I1 rr q1
def xZ (K:Fg) (n:Nat) (t:zz):TG:=fun v σ H Q=>∃a xs,v=.ref a/\SqT K H a xs/\xs.length=n/\t xs σ H Q
theorem Em {es:List Expr} {k:Nat} {t:zz} {n:Nat} (hc:X.calm=true) (h:FZ X es t)
  (hn:(assignEach es X.env).length=n:=by rfl) (hst:(assignEach es X.env).findIdx? (·.1)=none:=by rfl):PG X (.Tuple es k pos) (xZ X.K n t):=by
 intro pins s σ H v u Q I r hw;obtain ⟨a,xs,e1,hq,hl,hw⟩:=hw;subst e1
 cases r;obtain ⟨its,rv,ht,hz⟩:=I.tuple hq;refine assign_Tuple_tuple (I.ok.hd hc) ht (by simp [hn,<-hl,rv.length]) hst fun h' hx=>?_
 have I1:Inv X pins σ H { s with heap:=h' }:=I.kept (t':=s.toks) fun b o e=>hx b o (Nat.ne_of_lt (Heap.lt_size e)) e
 exact h pins _ σ H xs _ Q I1 (by simpa using rv) hw
def gSub (to ti:TE) (t:Ce):TG:=fun v σ H Q=>to σ H fun o H1=>ti σ H1 fun i H2=>t o i v H2 fun H3=>Q σ H3
theorem A6 {o i:Expr} {to ti:TE} {t:Ce} (ho:PE X o to) (hi:PE X i ti) (hs:D8 X t)
  (ha:∀v,assign (.Subscript o i pos) X.env v=(do
   let ov <-holding [v] (eval o X.env)
   let iv <-holding [v,ov] (eval i X.env)
   standAt pos
   holding [v,ov,iv] (setItem ov iv v)
   release [v,ov,iv] []):=by intro _;rfl):PG X (.Subscript o i pos) (gSub to ti t):=by
 intro pins s σ H v u Q I r h;rw [ha];refine wpAny_bind (wpAny_holding (bB (ho pins s σ H _ I h) fun ov s1 ⟨x,H1,I1,r1,q1⟩=>?_))
 refine wpAny_bind (wpAny_holding (bB (hi pins s1 σ H1 _ I1 q1) fun iv s2 ⟨y,H2,I2,r2,q2⟩=>?_))
 refine wpAny_bind (wpAny_standAt (wpAny_bind (wpAny_holding (bB (hs pins s2 σ H2 x y v ov iv u _ I2 r1 r2 r q2) fun _ s3 ⟨H3,I3,q3⟩=>?_))))
 exact wpAny_release ⟨σ,H3,I3,q3⟩
def fQ (te:TE) (g:TG):TS:=fun D σ H=>te σ H fun x H1=>g x σ H1 D.nx
theorem ui {tg e:Expr} {te:TE} {g:TG} (he:PE X e te) (hg:PG X tg g) (hs:swapsWithSole [tg] e pos.line X.env=pure false:=by rfl) (hw:swappedStores [tg] e X.env=pure none:=by rfl)
  (h1:(assignEach [tg] X.env).map (·.2)=[assign tg X.env]:=by rfl):PS X (.Assign [tg] e pos) (fQ te g):=by
 intro pins s σ H D I h;refine wpAny_Assign_stores (bB (he pins s σ H _ I h) fun v s1 ⟨x,H1,I1,r1,q1⟩=>?_) hs hw
 rw [h1];exact bB (hg pins s1 σ H1 x v _ I1 r1 q1) fun _ s2 q=>q
theorem CL {i:Nat} {x:Str} {e:Expr} {te:TE} {pos':Pos} (hN:X.N.Nodup) (hi:X.N[i]?=some x) (hx:Loc X.env.scope x) (he:PE X e te) (hs:swapsWith e (some (.Name x pos')) pos.line X.env=pure false:=by rfl) (hf:X.fn x=true\/X.env.scope.names.lookup x=some .local:=by first | exact .inl rfl | exact .inr rfl | assumption) :
  PS X (.Assign [.Name x pos'] e pos) (fQ te (bQ i)):=by
 intro pins s σ H D I h;refine wpAny_Assign_Name (bB (he pins s σ H _ I h) fun v s1 ⟨y,H1,I1,r1,q1⟩=>?_) hs
 exact Hd I1 hN hi hx r1 (fun s2 I2=>⟨_,H1,I2,q1⟩) hf
def C7 (i:Nat) (te:TE) (ti:FW):TS:=fun D σ H=>∃x,σ[i]?=some (some x)/\te σ H fun y H1=>ti x y H1 fun z H2=>D.nx (σ.set i (some z)) H2
theorem AZ {i:Nat} {x:Str} {e:Expr} {te:TE} {op:Operator} {ti:FW} {pos':Pos} (hN:X.N.Nodup) (hi:X.N[i]?=some x) (hx:Loc X.env.scope x) (he:PE X e te) (ho:J3 X op ti) (hf:X.fn x=true\/X.env.scope.names.lookup x=some .local:=by first | exact .inl rfl | exact .inr rfl | assumption) :
  PS X (.AugAssign (.Name x pos') op e pos) (C7 i te ti):=by
 intro pins s σ H D I h;obtain ⟨v,e1,h⟩:=h;obtain ⟨m,hn,hl⟩:=I.loc;have vis:Cd X.env.scope x:=by rcases hx with k | k;exact .inl k;exact .inr (.inl k)
 obtain ⟨u,r,l⟩:=hl i x v hi e1 vis;refine wpAny_AugAssign_Name ?_
 have go:wpAny (model X.prog X.w) X.A (eval e X.env) (fun w s₂=>wpAny (model X.prog X.w) X.A (inplaceOp op u w) (fun r s₃=>wpAny (model X.prog X.w) X.A (storeName X.env x r) (fun _=>SP X pins D .next) X.xe s₃) X.xe s₂) X.xe s:=by
  refine bB (he pins s σ H _ I h) fun w s1 ⟨y,H1,I1,r1,q1⟩=>?_
  refine bB (ho pins s1 σ H1 v y u w _ I1 r r1 q1) fun z s2 ⟨zv,H2,I2,r2,q2⟩=>?_
  exact Hd I2 hN hi hx r2 (fun s3 I3=>⟨_,H2,I3,q2⟩) hf
 rcases l with ⟨hk,hm⟩ | ⟨hk,c,hc,hcell⟩
 ·exact wpAny_loadName_local I.ok.kind hk hn hm go
 ·rcases hk with hk | hk
  ·exact wpAny_loadName_cell I.ok.kind hk hc hcell go
  ·rcases hx with k | k
   ·have:X.env.scope.names.lookup x=some .free:=hk
    rw [k] at this;cases this
   ·have:X.env.scope.names.lookup x=some .free:=hk
    rw [k] at this;cases this
def JU (f:Int->Int->Int):FW:=fun x y H Q=>∃i j,x=.int i/\y=.int j/\Q (.int (f i j)) H
theorem BF:J3 X .Add (JU fun i j=>i+j):=by
 intro pins s σ H x y v u Q I r1 r2 h;obtain ⟨i,j,e1,e2,q⟩:=h;subst e1;subst e2;obtain ⟨t,rfl⟩:=r1;obtain ⟨t',rfl⟩:=r2;exact iadd_int ⟨.int _,H,I.tok _,⟨_,rfl⟩,q⟩
end
section
variable {X:Cx} {pos:Pos}
def Ee (c:TT) (tb:TS):TS:=fun D σ H=>∃W:Nat->St->Hp->Prop,(∃m,W m σ H)/\∀m σ H,W m σ H ->
 c σ H fun b H1=>if b=true then ∃N:St->Hp->Prop,(∀σ' H',N σ' H'->∃m',m'<m/\W m' σ' H')/\tb { D with nx:=N,ct:=N,bk:=D.nx } σ H1 else D.nx σ H1
theorem mr {c:Expr} {body:List Stmt} {tc:TT} {tb:TS} (hp:PassesOwn (model X.prog X.w) X.A X.env X.xe) (hc:PT X c tc) (hb:PSs X body tb):PS X (.While c body [] pos) (Ee tc tb):=by
 intro pins s σ H D I h;obtain ⟨W,⟨m0,w0⟩,turn⟩:=h;refine wpAny_While (codeAny_whileLoop (fun n s'=>∃σ' H',Inv X pins σ' H' s'/\W n σ' H') ?_ m0 ⟨σ,H,I,w0⟩)
 rintro n s1 ⟨σ1,H1,I1,w1⟩
 refine wpAny_passesOwn hp (bB (hc pins s1 σ1 H1 _ I1 (turn n σ1 H1 w1)) fun b s2 ⟨H2,I2,q2⟩=>?_)
 cases b with
 | true=>
  obtain ⟨N,hN,q2⟩:=q2;rw [if_pos rfl];refine wpAny_passesOwn hp (bB (hb pins s2 σ1 H2 _ I2 q2) fun f s3 q3=>?_)
  cases f with
  | next=>
   obtain ⟨σ3,H3,I3,n3⟩:=q3;obtain ⟨m',hm,w3⟩:=hN σ3 H3 n3;exact ⟨m',hm,σ3,H3,I3,w3⟩
  | cont=>
   obtain ⟨σ3,H3,I3,n3⟩:=q3;obtain ⟨m',hm,w3⟩:=hN σ3 H3 n3;exact ⟨m',hm,σ3,H3,I3,w3⟩
  | brk=>exact q3
  | ret v=>exact q3
 | false=>
  rw [if_neg Bool.false_ne_true];exact wpAny_execs_nil ⟨σ1,H2,I2,q2⟩
end
structure It where
 go:Nat->Hp->Prop
 yld:Nat->Hp->V->Hp->Prop
 stop:Nat->Hp->Prop
def jC (X:Cx) (pins:List (Addr×Obj)) (H:Hp) (b:Addr):Prop:=
 H b=none/\b≠X.env.locals/\b∉X.fs/\(b∈X.ex\/X.s₀.heap.objs.size<=b)/\(∀x c,X.env.cells.lookup x=some c->c≠b)/\∀p∈X.pn++pins,p.1≠b
theorem Inv.fpOk {X:Cx} {pins:List (Addr×Obj)} {σ:St} {H H':Hp} {s:Shared} {b:Addr} (I:Inv X pins σ H s) (hb:s.heap.objs.size<=b) (hn:H' b=none):jC X pins H' b:=by
 refine ⟨hn,Nat.ne_of_gt (Nat.lt_of_lt_of_le I.lt hb),I.nofs hb,.inr (Nat.le_trans I.sz hb),fun x c e z=>?_,fun p hp z=>?_⟩
 ·obtain ⟨v,q⟩:=I.cell x c e
  exact absurd (Nat.lt_of_lt_of_le q.lt (by rw [z];exact hb)) (Nat.lt_irrefl _)
 ·exact absurd (Nat.lt_of_lt_of_le (Heap.lt_size (I.pin p hp).1) (by rw [z];exact hb)) (Nat.lt_irrefl _)
structure vF (P:Program) (w:World) (K:Fg) (tg:Expr) (J:It) (fp:List Addr) (it:Addr) (tn:Nat->Heap->Prop):Prop where
 mem:it∈fp
 obj:∀i h,tn i h->∀b∈fp,∃o,h.get? b=some o/\∀v,o.data≠.cell v
 keep:∀i h h',tn i h->(∀b∈fp,∀o,h.get? b=some o->h'.get? b=some o)->tn i h'
 item:∀(X:Cx),X.prog=P->X.w=w->X.K=K->X.calm=true->∀(i:Nat) (pins:List (Addr×Obj)) (s:Shared) (σ:St) (H:Hp) (E:Value->Shared->Prop),Inv X pins σ H s->(∀b∈fp,jC X pins H b)->tn i s.heap->J.go i H ->
  wpAny (model P w) X.A (pyNext (.ref it)) (fun r s1=>∃u,r=some u /\
   wpAny (model P w) X.A (letOwnedTupleGo tg (.ref it) u) (fun _ s2=>∃x H',Inv X pins σ H' s2/\RelV x u/\J.yld i H x H'/\tn (i+1) s2.heap/\∀b∈fp,H' b=none) E s1) E s
 done:∀(X:Cx),X.prog=P->X.w=w->X.K=K->X.calm=true->∀(i:Nat) (pins:List (Addr×Obj)) (s:Shared) (σ:St) (H:Hp) (E:Value->Shared->Prop),Inv X pins σ H s->(∀b∈fp,jC X pins H b)->tn i s.heap->J.stop i H ->
  wpAny (model P w) X.A (pyNext (.ref it)) (fun r s1=>r=none/\Inv X pins σ H s1) E s
 self:∀(A:Around) (i:Nat) (s:Shared) (Q:Value->Shared->Prop) (E:Value->Shared->Prop),tn i s.heap->Q (.ref it) s->wpAny (model P w) A (pyIter (.ref it)) Q E s
abbrev TI:=St->Hp->(It->Hp->Prop)->Prop
def J4 (X:Cx) (pins:List (Addr×Obj)) (σ:St) (tg:Expr) (R:It->Hp->Prop) (itv:Value) (s2:Shared):Prop:=
 ∃(it:Addr) (fp:List Addr) (tn:Nat->Heap->Prop) (J:It) (H':Hp),itv=.ref it/\Inv X pins σ H' s2/\vF X.prog X.w X.K tg J fp it tn/\tn 0 s2.heap/\(∀b∈fp,jC X pins H' b)/\R J H'
def PI (X:Cx) (tg iter:Expr) (wi:TI):Prop:=
 ∀(pins:List (Addr×Obj)) (s:Shared) (σ:St) (H:Hp) (R:It->Hp->Prop),Inv X pins σ H s->wi σ H R ->
  wpAny (model X.prog X.w) X.A (eval iter X.env) (fun v s1=>wpAny (model X.prog X.w) X.A (pyIter v) (J4 X pins σ tg R) X.xe s1) X.xe s
theorem u7 {M:Model} {A:Around} {E:Value->Shared->Prop} {s:Shared} {tg:Expr} {it:Addr} {u:Value} {o:Obj} {n:String} {vs:Array Value} {Q:Unit->Shared->Prop} (ho:s.heap.get? it=some o) (hc:o.cls=.type n) (hd:o.data=.fields vs)
  (hn:["enumerate", "zip", "dict_itemiterator", "dict_reverseitemiterator", "odict_iterator", "itertools.zip_longest", "itertools.pairwise"].contains n=false) (hQ:Q () s):wpAny M A (letOwnedTupleGo tg (.ref it) u) Q E s:=by
 unfold letOwnedTupleGo
 cases tg<;>first
  | exact wpAny_pure hQ
  | (cases u<;>first
      | exact wpAny_pure hQ
      | (refine wpAny_bind (wpAny_load ho ?_)
         rw [hc,hd];show wpAny M A (if (["enumerate", "zip", "dict_itemiterator", "dict_reverseitemiterator", "odict_iterator", "itertools.zip_longest", "itertools.pairwise"].contains n&&vs[0]?==some (rawInt _))=true then _ else _) Q E s
         rw [if_neg (by intro h;rw [hn,Bool.false_and] at h;cases h)]
         exact wpAny_pure hQ))
def Ci (K:Fg) (a:Addr):It:=
 ⟨fun i H=>∃xs x,SqL K H a xs/\xs[i]?=some x,fun i H x H'=>H'=H/\∀xs,SqL K H a xs->xs[i]?=some x,fun i H=>∃xs,SqL K H a xs/\xs.length<=i⟩
def Cg (lo:Int) (n:Nat):It:=⟨fun i _=>i<n,fun i H x H'=>H'=H/\x=.int (lo+i),fun i _=>n<=i⟩
theorem qu {P:Program} {w:World} {K:Fg} {tg:Expr} (a it:Addr):vF P w K tg (Ci K a) [it] it (fun i h=>h.IsListIter it a i) where
 mem:=by simp
 obj:=fun i h st b hb=>by
  have e:b=it:=by simpa using hb
  subst e;obtain ⟨o,e,c,d⟩:=st;exact ⟨o,e,fun v z=>by rw [d] at z;cases z⟩
 keep:=fun i h h' st k=>st.at fun o e=>k it (by simp) o e
 item:=by
  intro X hP hw hK hc i pins s σ H E I hf st hg;subst hP hw hK;obtain ⟨xs,x,hq,hx⟩:=hg;obtain ⟨its,rv,p,hz⟩:=I.list hq;obtain ⟨u,hu,ru⟩:=rv.get hx;obtain ⟨f0,f1,f2,f3,f4,f5⟩:=hf it (by simp)
  refine wpAny_pyNext_list_item st p.isList (x:=u) (by simpa using hu) fun h' st' sb=>?_
  have I1:Inv X pins σ H { s with heap:=h' }:=I.turned (t':=s.toks) (fun b o hb e=>(sb.2 b hb).trans e) f0 f1 f3 f4 f5
  obtain ⟨o,e,c,d⟩:=id st'
  exact ⟨u,rfl,u7 (s:={ s with heap:=h' }) e c d (by decide) ⟨x,H,I1,ru,⟨rfl,fun ys hy=>by rw [I.list_inj hy hq];exact hx⟩,st',fun b hb=>(hf b hb).1⟩⟩
 done:=by
  intro X hP hw hK hc i pins s σ H E I hf st hg;subst hP hw hK;obtain ⟨xs,hq,hx⟩:=hg;obtain ⟨its,rv,p,hz⟩:=I.list hq;obtain ⟨f0,f1,f2,f3,f4,f5⟩:=hf it (by simp)
  have hl:=rv.length
  exact wpAny_pyNext_list_end (I.ok.hd hc) st p.isList (by simp;omega) fun h' eb=>⟨rfl,I.turned (t':=s.toks) (fun b o hb e=>eb b o hb e) f0 f1 f3 f4 f5⟩
 self:=fun _ _ _ _ _ st h=>wpAny_pyIter_listiter st h
theorem nY {P:Program} {w:World} {K:Fg} {tg:Expr} (it:Addr) (lo:Int) (n:Nat):vF P w K tg (Cg lo n) [it] it (fun i h=>IsRangeIter h it (lo+(i:Nat)*1) ((n:Int)-(i:Nat)) 1) where
 mem:=by simp
 obj:=fun i h st b hb=>by
  have e:b=it:=by simpa using hb
  subst e;exact ⟨_,st,fun v z=>by
   have z':Data.fields _=Data.cell v:=z
   cases z'⟩
 keep:=fun i h h' st k=>k it (by simp) _ st
 item:=by
  intro X hP hw hK hc i pins s σ H E I hf st hg;subst hP hw hK;obtain ⟨f0,f1,f2,f3,f4,f5⟩:=hf it (by simp)
  have W:=Walks.range (prog:=X.prog) (w:=X.w) (I.ok.hd hc) it lo 1 n
  refine W.item i s _ _ hg st fun v h' tk hv st' kk=>?_
  obtain ⟨t,rfl⟩:=hv;have I1:Inv X pins σ H { s with heap:=h',toks:=tk }:=I.turned (fun b o hb e=>kk b o (by simpa using hb) e) f0 f1 f3 f4 f5
  refine ⟨_,rfl,u7 (s:={ s with heap:=h',toks:=tk }) (n := "range_iterator") st' rfl rfl (by decide) ⟨.int (lo+i),H,I1,⟨t,?_⟩,⟨rfl,rfl⟩,st',fun b hb=>(hf b hb).1⟩⟩
  rw [Int.mul_one]
 done:=by
  intro X hP hw hK hc i pins s σ H E I hf st hg;subst hP hw hK;obtain ⟨f0,f1,f2,f3,f4,f5⟩:=hf it (by simp)
  exact wpAny_pyNext_range_end (I.ok.hd hc) st (by have:n<=i:=hg;omega) fun h' eb=>⟨rfl,I.turned (t':=s.toks) (fun b o hb e=>eb b o hb e) f0 f1 f3 f4 f5⟩
 self:=fun _ _ _ _ _ st h=>wpAny_pyIter_rangeiter st h
section
variable {X:Cx} {tg:Expr}
def iQ (K:Fg) (tl:TE):TI:=fun σ H R=>tl σ H fun x H1=>∃a,x=.ref a/\(∃xs,SqL K H1 a xs)/\R (Ci K a) H1
theorem Et {l:Expr} {tl:TE} (hl:PE X l tl):PI X tg l (iQ X.K tl):=by
 intro pins s σ H R I h;refine bB (hl pins s σ H _ I h) fun v s1 ⟨x,H1,I1,r1,q1⟩=>?_
 obtain ⟨a,e,⟨xs,hq⟩,q⟩:=q1;subst e
 cases r1;obtain ⟨its,rv,p,hz⟩:=I1.list hq;refine wpAny_pyIter_list p.isList ?_
 refine ⟨s1.heap.objs.size,[s1.heap.objs.size],_,_,H1,rfl,I1.kept (t':=s1.toks) fun b o e=>Heap.get?_push_of_some _ e,qu a _,⟨_,Heap.get?_push_size _ rfl,rfl,rfl⟩,fun b hb=>?_,q⟩
 have e:b=s1.heap.objs.size:=by simpa using hb
 subst e;exact I1.fpOk (Nat.le_refl _) (I1.hok.fresh (Nat.le_refl _))
theorem mh {pins:List (Addr×Obj)} {σ:St} {H:Hp} {s:Shared} {R:It->Hp->Prop} {E:Value->Shared->Prop} {lo hi:Int} {t u v:Tok} {tk:Nat} (I:Inv X pins σ H s) (h1:-(2 ^ 62)<=lo) (h2:lo<2 ^ 62) (h3:-(2 ^ 62)<=hi) (h4:hi<2 ^ 62)
  (q:R (Cg lo (hi-lo).toNat) H):wpAny (model X.prog X.w) X.A (pyIter (.ref s.heap.objs.size)) (J4 X pins σ tg R) E { s with heap:=s.heap.push { cls:=.type "range",data:=.fields #[.int lo t,.int hi u,.int 1 v] },toks:=tk }:=by
 refine wpAny_pyIter_range (IsRange.new ..) (small_one h1 h2 h3 h4) ?_
 have I1:Inv X pins σ H { s with heap:=s.heap.push { cls:=.type "range",data:=.fields #[.int lo t,.int hi u,.int 1 v] },toks:=tk }:=I.kept fun b o e=>Heap.get?_push_of_some _ e
 refine ⟨(s.heap.push { cls:=.type "range",data:=.fields #[.int lo t,.int hi u,.int 1 v] }).objs.size,[(s.heap.push { cls:=.type "range",data:=.fields #[.int lo t,.int hi u,.int 1 v] }).objs.size],_,_,H,rfl,
  I1.kept (t':=tk) fun b o e=>Heap.get?_push_of_some _ e,nY _ lo (hi-lo).toNat,?_,fun b hb=>?_,q⟩
 ·have e1:lo+((0:Nat):Int)*1=lo:=by simp
  have e2:(((hi-lo).toNat:Nat):Int)-((0:Nat):Int)=Builtin.Range.rangeSize lo hi 1:=by rw [rangeSize_one];split<;>omega
  show IsRangeIter _ _ (lo+((0:Nat):Int)*1) ((((hi-lo).toNat:Nat):Int)-((0:Nat):Int)) 1
  rw [e1,e2];exact Heap.get?_push_size _ rfl
 ·have e:b=(s.heap.push { cls:=.type "range",data:=.fields #[.int lo t,.int hi u,.int 1 v] }).objs.size:=by simpa using hb
  subst e;exact I1.fpOk (Nat.le_refl _) (I1.hok.fresh (Nat.le_refl _))
def zo (ta:TA):TI:=fun σ H R=>ta σ H fun vs H1=>∃j:Int,vs=[.int j]/\-(2 ^ 62)<=j/\j<2 ^ 62/\R (Cg 0 j.toNat) H1
def zm (ta:TA):TI:=fun σ H R=>ta σ H fun vs H1=>∃i j:Int,vs=[.int i,.int j]/\(-(2 ^ 62)<=i/\i<2 ^ 62/\-(2 ^ 62)<=j/\j<2 ^ 62)/\R (Cg i (j-i).toNat) H1
theorem qO {a:Expr} {ta:TA} {p pos:Pos} (hg:Gl X "range") (hm:X.mg "range"=none) (ha:PA X [a] ta) (hs:starEach [a] X.env=[(false,eval a X.env)]:=by rfl):PI X tg (.Call (.Name "range" p) [a] [] pos) (zo ta):=by
 intro pins s σ H R I h;refine Call_ (v9 I hg hm boot_range (PyProof.Rows.callWith_type1 (bB (ha pos pins s σ H _ I h) fun us s1 ⟨vs,H1,I1,r1,q1⟩=>?_) hs rfl))
 obtain ⟨j,e,q1,q2,q⟩:=q1;subst e
 cases r1 with
 | cons r rr=>
  cases rr;obtain ⟨t,rfl⟩:=r;exact call_range_1 (mh I1 (by omega) (by omega) q1 q2 (by simpa using q))
theorem qN {a b:Expr} {ta:TA} {p pos:Pos} (hg:Gl X "range") (hm:X.mg "range"=none) (ha:PA X [a,b] ta) (hs:starEach [a,b] X.env=[(false,eval a X.env),(false,eval b X.env)]:=by rfl) (hs2:starEach [b] X.env=[(false,eval b X.env)]:=by rfl) :
  PI X tg (.Call (.Name "range" p) [a,b] [] pos) (zm ta):=by
 intro pins s σ H R I h;refine Call_ (v9 I hg hm boot_range (PyProof.Rows.callWith_type1 (bB (ha pos pins s σ H _ I h) fun us s1 ⟨vs,H1,I1,r1,q1⟩=>?_) (by rw [hs,hs2]) (by rw [hs2];rfl)))
 obtain ⟨i,j,e,⟨q1,q2,q3,q4⟩,q⟩:=q1;subst e
 cases r1 with
 | cons r rr=>
  cases rr with
  | cons r' rr=>
   cases rr;obtain ⟨t,rfl⟩:=r;obtain ⟨t',rfl⟩:=r'
   exact call_range_2 (mh I1 q1 q2 q3 q4 q)
def wC (wi:TI) (g:TG) (tb:TS):TS:=fun D σ H=>wi σ H fun J H1=>∃W:Nat->Nat->St->Hp->Prop,(∃m,W 0 m σ H1)/\∀i m σ H,W i m σ H ->
 (J.stop i H/\D.nx σ H)\/(J.go i H/\∃N:St->Hp->Prop,(∀σ' H',N σ' H'->∃m',m'<m/\W (i+1) m' σ' H')/\∀x H',J.yld i H x H'->g x σ H' fun σ2 H2=>tb { D with nx:=N,ct:=N,bk:=D.nx } σ2 H2)
def CK (fp:List Addr) (h:Heap):List (Addr×Obj):=fp.filterMap fun b=>(h.get? b).map fun o=>(b,o)
theorem EX {fp:List Addr} {h:Heap} {b:Addr} {o:Obj} (hb:b∈fp) (e:h.get? b=some o):(b,o)∈CK fp h:=List.mem_filterMap.mpr ⟨b,hb,by rw [e];rfl⟩
theorem qV {fp:List Addr} {h:Heap} {p:Addr×Obj} (hp:p∈CK fp h):p.1∈fp/\h.get? p.1=some p.2:=by
 obtain ⟨b,hb,e⟩:=List.mem_filterMap.mp hp
 cases q:h.get? b with
 | none=>rw [q] at e;cases e
 | some o=>
  rw [q] at e;have e':(b,o)=p:=Option.some.inj e
  subst e'
  exact ⟨hb,q⟩
theorem Inv.pinned {pins:List (Addr×Obj)} {σ:St} {H:Hp} {s:Shared} {fp:List Addr} (I:Inv X pins σ H s) (hf:∀b∈fp,jC X pins H b) (ho:∀b∈fp,∃o,s.heap.get? b=some o/\∀v,o.data≠.cell v):Inv X (pins++CK fp s.heap) σ H s:=
 I.pins_of fun p hp=>(List.mem_append.mp hp).elim (fun z=>I.pin p (mem_append_right _ z)) fun z=>by
  obtain ⟨hb,e⟩:=qV z;obtain ⟨f0,f1,f2,_⟩:=hf p.1 hb;obtain ⟨o,e',d⟩:=ho p.1 hb;rw [e] at e';cases e'
  exact ⟨e,f0,f1,f2,d⟩
theorem Inv.unpinned {pins pl:List (Addr×Obj)} {σ:St} {H:Hp} {s:Shared} (I:Inv X (pins++pl) σ H s):Inv X pins σ H s:=I.pins_of fun p hp=>I.pin p (mem_append_right _ (mem_append_left _ hp))
theorem Gk {iter:Expr} {body:List Stmt} {wi:TI} {g:TG} {tb:TS} {pos:Pos} (hp:PassesOwn (model X.prog X.w) X.A X.env X.xe) (hc:X.calm=true) (hi:PI X tg iter wi) (hg:PG X tg g) (hb:PSs X body tb)
  (hs:∀x,foldedSetIterable iter X.env x=pure x:=by intro _;rfl):PS X (.For tg iter body [] pos) (wC wi g tb):=by
 intro pins s σ H D I h;refine wpAny_For (bB (hi pins s σ H _ I h) fun v s1 h1=>bB h1 fun itv s2 h2=>?_) hs
 obtain ⟨it,fp,tn,J,H2,e,I2,T,st2,f2,W,⟨m0,w0⟩,turn⟩:=h2;subst e;have stat:∀{H':Hp},(∀b∈fp,H' b=none)->∀b∈fp,jC X pins H' b:=fun hn b hb=>⟨hn b hb,(f2 b hb).2⟩
 refine codeAny_forLoop_any (fun n s'=>∃i σ' H',Inv X pins σ' H' s'/\tn i s'.heap/\(∀b∈fp,H' b=none)/\W i n σ' H') ?_ m0 ⟨0,σ,H2,I2,st2,fun b hb=>(f2 b hb).1,w0⟩
 rintro n s3 ⟨i,σ3,H3,I3,st3,fr3,w3⟩
 rcases turn i n σ3 H3 w3 with ⟨stop,qn⟩ | ⟨go,N,hN,step⟩
 ·refine wpAny_passesOwn hp (bB (T.done X rfl rfl rfl hc i pins s3 σ3 H3 X.xe I3 (stat fr3) st3 stop) fun r s4 ⟨hr,I4⟩=>?_)
  subst hr;exact wpAny_execs_nil ⟨σ3,H3,I4,qn⟩
 ·refine wpAny_passesOwn hp (bB (T.item X rfl rfl rfl hc i pins s3 σ3 H3 X.xe I3 (stat fr3) st3 go) fun r s4 ⟨u,hr,h4⟩=>?_)
  subst hr;refine wpAny_passesOwn hp (bB h4 fun _ s5 ⟨x,H5,I5,r5,y5,st5,fr5⟩=>?_)
  have I5':=I5.pinned (stat fr5) (T.obj _ _ st5)
  refine wpAny_passesOwn hp (bB (hg _ s5 σ3 H5 x u _ I5' r5 (step x H5 y5)) fun _ s6 ⟨σ6,H6,I6,q6⟩=>?_)
  refine wpAny_passesOwn hp (bB (hb _ s6 σ6 H6 _ I6 q6) fun f s7 q7=>?_)
  have again:∀{σ7:St} {H7:Hp},Inv X (pins++CK fp s5.heap) σ7 H7 s7->N σ7 H7->∃m,m<n/\∃i σ' H',Inv X pins σ' H' s7/\tn i s7.heap/\(∀b∈fp,H' b=none)/\W i m σ' H':=fun {σ7 H7} I7 n7=>by
   obtain ⟨m',hm,w7⟩:=hN σ7 H7 n7;refine ⟨m',hm,i+1,σ7,H7,I7.unpinned,T.keep _ _ _ st5 fun b hb o e=>(I7.pin (b,o) (mem_append_right _ (mem_append_right _ (EX hb e)))).1,fun b hb=>?_,w7⟩
   obtain ⟨o,e,d⟩:=T.obj _ _ st5 b hb;exact (I7.pin (b,o) (mem_append_right _ (mem_append_right _ (EX hb e)))).2.1
  cases f with
  | next=>obtain ⟨σ7,H7,I7,n7⟩:=q7;exact again I7 n7
  | cont=>obtain ⟨σ7,H7,I7,n7⟩:=q7;exact again I7 n7
  | brk=>obtain ⟨σ7,H7,I7,q7⟩:=q7;exact ⟨σ7,H7,I7.unpinned,q7⟩
  | ret v=>obtain ⟨x7,σ7,H7,I7,r7,q7⟩:=q7;exact ⟨x7,σ7,H7,I7.unpinned,r7,q7⟩
end
abbrev R2:=V->V->Hp->VK->Prop
def OpR (X:Cx) (f:Value->Value->Sem Value) (r:R2):Prop:=
 ∀(pins:List (Addr×Obj)) (s:Shared) (σ:St) (H:Hp) (x y:V) (v u:Value) (Q:VK),Inv X pins σ H s->RelV x v->RelV y u->r x y H Q ->
  wpAny (model X.prog X.w) X.A (f v u) (EP X pins σ Q) X.xe s
def J0 (X:Cx) (f:Value->Sem Value) (r:V->Hp->VK->Prop):Prop:=
 ∀(pins:List (Addr×Obj)) (s:Shared) (σ:St) (H:Hp) (x:V) (v:Value) (Q:VK),Inv X pins σ H s->RelV x v->r x H Q ->
  wpAny (model X.prog X.w) X.A (f v) (EP X pins σ Q) X.xe s
def CallR (X:Cx) (f:Value) (r:List V->Hp->VK->Prop):Prop:=
 ∀(pins:List (Addr×Obj)) (s:Shared) (σ:St) (H:Hp) (xs:List V) (us:List Value) (Q:VK),Inv X pins σ H s->Vals xs us->r xs H Q ->
  wpAny (model X.prog X.w) X.A (call f us) (EP X pins σ Q) X.xe s
def Je (X:Cx) (r:V->Hp->(Bool->Hp->Prop)->Prop):Prop:=
 ∀(pins:List (Addr×Obj)) (s:Shared) (σ:St) (H:Hp) (x:V) (v:Value) (Q:Bool->Hp->Prop),Inv X pins σ H s->RelV x v->r x H Q ->
  wpAny (model X.prog X.w) X.A (truthy v) (TP X pins σ Q) X.xe s
def vT (r:R2) (ta tb:TE):TE:=fun σ H Q=>ta σ H fun x H1=>tb σ H1 fun y H2=>r x y H2 Q
def Jt (r:V->Hp->VK->Prop) (ta:TE):TE:=fun σ H Q=>ta σ H fun x H1=>r x H1 Q
def rI (C:Int->Int->Prop) (g:Int->Int->V):R2:=fun x y H Q=>∃i j,x=.int i/\y=.int j/\C i j/\Q (g i j) H
def pJ (g:Int->Int->V):R2:=fun x y H Q=>∃i j,x=.int i/\y=.int j/\Q (g i j) H
section
variable {X:Cx} {a b c:Expr} {ta tb tc:TE} {pos:Pos}
theorem Cb (ha:PE X a ta) (hb:PE X b tb) {pins:List (Addr×Obj)} {s:Shared} {σ:St} {H:Hp} {R:V->V->Hp->Prop} (I:Inv X pins σ H s)
  (h:ta σ H fun x H1=>tb σ H1 fun y H2=>R x y H2) {Q:Value->Shared->Prop} {f:Value->Value->Sem Value}
  (hf:∀v u s2 x y H2,Inv X pins σ H2 s2->RelV x v->RelV y u->R x y H2->wpAny (model X.prog X.w) X.A (f v u) Q X.xe s2) :
  wpAny (model X.prog X.w) X.A (eval a X.env) (fun v s₁=>wpAny (model X.prog X.w) X.A (eval b X.env) (fun u s₂=>wpAny (model X.prog X.w) X.A (f v u) Q X.xe s₂) X.xe s₁) X.xe s:=by
 refine bB (ha pins s σ H _ I h) fun v s1 ⟨x,H1,I1,r1,q1⟩=>?_
 refine bB (hb pins s1 σ H1 _ I1 q1) fun u s2 ⟨y,H2,I2,r2,q2⟩=>?_
 exact hf v u s2 x y H2 I2 r1 r2 q2
theorem iB {op:Operator} {r:R2} (ho:OpR X (binaryOp op) r) (ha:PE X a ta) (hb:PE X b tb):PE X (.BinOp a op b pos) (vT r ta tb):=by
 intro pins s σ H Q I h;exact wpAny_BinOp (Cb ha hb I h fun v u s2 x y H2 I2 rx ry q=>ho pins s2 σ H2 x y v u Q I2 rx ry q)
theorem Du {op:UnaryOp} {r:V->Hp->VK->Prop} (ho:J0 X (unaryOp op) r) (ha:PE X a ta):PE X (.UnaryOp op a pos) (Jt r ta):=by
 intro pins s σ H Q I h;exact UnaryOp_ (bB (ha pins s σ H _ I h) fun v s1 ⟨x,H1,I1,r1,q1⟩=>ho pins s1 σ H1 x v Q I1 r1 q1)
theorem FE {f:Value->Value->Sem Value} {C:Int->Int->Prop} {g:Int->Int->Int}
  (rule:∀(i j:Int) (t u:Tok) (s:Shared) (Q:Value->Shared->Prop) (E:Value->Shared->Prop),C i j->Q (.int (g i j) s.toks) { s with toks:=s.toks+1 }->wpAny (model X.prog X.w) X.A (f (.int i t) (.int j u)) Q E s) :
  OpR X f (rI C fun i j=>.int (g i j)):=by
 intro pins s σ H x y v u Q I rx ry h;obtain ⟨i,j,rfl,rfl,hc,q⟩:=h;obtain ⟨t,rfl⟩:=rx;obtain ⟨t',rfl⟩:=ry;exact rule i j t t' s _ _ hc ⟨.int (g i j),H,I.tok _,⟨_,rfl⟩,q⟩
theorem Dy {f:Value->Value->Sem Value} {g:Int->Int->Int}
  (rule:∀(i j:Int) (t u:Tok) (s:Shared) (Q:Value->Shared->Prop) (E:Value->Shared->Prop),Q (.int (g i j) s.toks) { s with toks:=s.toks+1 }->wpAny (model X.prog X.w) X.A (f (.int i t) (.int j u)) Q E s) :
  OpR X f (pJ fun i j=>.int (g i j)):=by
 intro pins s σ H x y v u Q I rx ry h;obtain ⟨i,j,rfl,rfl,q⟩:=h;obtain ⟨t,rfl⟩:=rx;obtain ⟨t',rfl⟩:=ry;exact rule i j t t' s _ _ ⟨.int (g i j),H,I.tok _,⟨_,rfl⟩,q⟩
theorem xC {f:Value->Value->Sem Value} {g:Int->Int->Bool}
  (rule:∀(i j:Int) (t u:Tok) (s:Shared) (Q:Value->Shared->Prop) (E:Value->Shared->Prop),Q (.bool (g i j)) s->wpAny (model X.prog X.w) X.A (f (.int i t) (.int j u)) Q E s) :
  OpR X f (pJ fun i j=>.bl (g i j)):=by
 intro pins s σ H x y v u Q I rx ry h;obtain ⟨i,j,rfl,rfl,q⟩:=h;obtain ⟨t,rfl⟩:=rx;obtain ⟨t',rfl⟩:=ry;exact rule i j t t' s _ _ ⟨.bl (g i j),H,I,rfl,q⟩
def Jp (i j:Int):Prop:=0<j/\j<1073741824
def Jo (i j:Int):Prop:=0<=j/\j<=1000000/\i.natAbs<2 ^ 64
def CMul (i j:Int):Prop:=(-(2 ^ 64)<i/\i<2 ^ 64)\/(-(2 ^ 64)<j/\j<2 ^ 64)
theorem CMul.ok {i j:Int} (h:CMul i j):IntMulOk i j:=by
 rcases h with ⟨h1,h2⟩ | ⟨h1,h2⟩
 ·exact .of_left (intBits_le_64 h1 h2)
 ·exact .of_right (intBits_le_64 h1 h2)
theorem Bm:OpR X (binaryOp .Add) (pJ fun i j=>.int (i+j)):=Dy fun _ _ _ _ _ _ _ q=>add_int q
theorem Be:OpR X (binaryOp .Sub) (pJ fun i j=>.int (i-j)):=Dy fun _ _ _ _ _ _ _ q=>sub_int q
theorem Bh:OpR X (binaryOp .Mult) (rI CMul fun i j=>.int (i*j)):=FE fun _ _ _ _ _ _ _ hc q=>mul_int q hc.ok
theorem xA:OpR X (binaryOp .FloorDiv) (rI Jp fun i j=>.int (i / j)):=FE fun i j _ _ _ _ _ hc q=>by
 have h1:(0:Int)<j:=hc.1
 have h2:j<1073741824:=hc.2
 exact floordiv_int (by omega) (by rw [Int.fdiv_eq_ediv_of_nonneg i (by omega)];exact q) (.inl (PyProof.noPylong_small (by omega)))
theorem Bi:OpR X (binaryOp .Mod) (rI (fun _ j=>0<j) fun i j=>.int (i % j)):=FE fun i j _ _ _ _ _ hc q=>by
 have h1:(0:Int)<j:=hc
 exact mod_int' (by omega) (by rw [Int.fmod_eq_emod_of_nonneg i (by omega)];exact q)
theorem Bf:OpR X (binaryOp .Pow) (rI Jo fun i j=>.int (i ^ j.toNat)):=FE fun _ _ _ _ _ _ _ hc q=>pow_int_small hc.1 hc.2.1 hc.2.2 q
end
def scal:V->V->Bool
 | .non,.non=>true | .non,.int _=>true | .int _,.non=>true | .non,.bl _=>true | .bl _,.non=>true | .non,.str _=>true | .str _,.non=>true
 | .int _,.int _=>true | .bl _,.bl _=>true | .str _,.str _=>true | .byt _,.byt _=>true
 | .int _,.str _=>true | .str _,.int _=>true | .bl _,.str _=>true | .str _,.bl _=>true
 | _,_=>false
section
variable {X:Cx} {a b c:Expr} {ta tb tc:TE} {pos:Pos}
theorem CH {pins:List (Addr×Obj)} {σ:St} {H:Hp} {s:Shared} {Q:VK} {k k':Bool} (I:Inv X pins σ H s) (q:Q (.bl k) H) (e:k=k'):EP X pins σ Q (.bool k') s:=by
 subst e;exact ⟨.bl k,H,I,rfl,q⟩
theorem op_lt:OpR X (compareOp .Lt) (pJ fun i j=>.bl (decide (i<j))):=xC fun _ _ _ _ _ _ _ q=>lt_int q
theorem Dw:OpR X (compareOp .LtE) (pJ fun i j=>.bl (decide (i<=j))):=xC fun _ _ _ _ _ _ _ q=>le_int q
theorem Dx:OpR X (compareOp .Gt) (pJ fun i j=>.bl (decide (j<i))):=xC fun _ _ _ _ _ _ _ q=>gt_int q
theorem op_ge:OpR X (compareOp .GtE) (pJ fun i j=>.bl (decide (j<=i))):=xC fun _ _ _ _ _ _ _ q=>ge_int q
theorem qS:OpR X (compareOp .Lt) (fun x y H Q=>∃i j,x=.str i/\y=.str j/\Q (.bl (decide (i.cps.toList<j.cps.toList))) H):=by
 intro pins s σ H x y v u Q I rx ry h;obtain ⟨i,j,rfl,rfl,q⟩:=h;obtain ⟨t,rfl⟩:=rx;obtain ⟨t',rfl⟩:=ry;exact lt_str (CH I q rfl)
theorem Bj:OpR X (compareOp .Is) (fun x y H Q=>y=.non/\Q (.bl (decide (x=.non))) H):=by
 intro pins s σ H x y v u Q I rx ry h;obtain ⟨rfl,q⟩:=h
 cases ry;refine is_none_gen (CH I q ?_)
 cases x<;>first
  | (cases rx;rfl)
  | (obtain ⟨t,rfl⟩:=rx;rfl)
theorem xx:OpR X (compareOp .IsNot) (fun x y H Q=>y=.non/\Q (.bl (!decide (x=.non))) H):=by
 intro pins s σ H x y v u Q I rx ry h;obtain ⟨rfl,q⟩:=h
 cases ry;refine isnot_none_gen (CH I q ?_)
 cases x<;>first
  | (cases rx;rfl)
  | (obtain ⟨t,rfl⟩:=rx;rfl)
theorem OpR.or {f:Value->Value->Sem Value} {r r':R2} (h:OpR X f r) (h':OpR X f r'):OpR X f (fun x y H Q=>r x y H Q\/r' x y H Q):=by
 intro pins s σ H x y v u Q I rx ry q;rcases q with q | q
 ·exact h pins s σ H x y v u Q I rx ry q
 ·exact h' pins s σ H x y v u Q I rx ry q
theorem xw {op:CmpOp} {r:R2} (ho:OpR X (compareOp op) r) (ha:PE X a ta) (hb:PE X b tb) (hm:behindInMarks op b=false):PE X (.Compare a [op] [b] pos) (vT r ta tb):=by
 intro pins s σ H Q I h;exact wpAny_Compare1 (Cb ha hb I h fun v u s2 x y H2 I2 rx ry q=>ho pins s2 σ H2 x y v u Q I2 rx ry q) hm
def tf (t:TE):TT:=fun σ H Q=>t σ H fun x H'=>∃k,x=.bl k/\Q k H'
theorem xm {op:CmpOp} {r:R2} (ho:OpR X (compareOp op) r) (ha:PE X a ta) (hb:PE X b tb) (hm:behindInMarks op b=false):PT X (.Compare a [op] [b] pos) (tf (vT r ta tb)):=by
 intro pins s σ H Q I h;refine wpAny_isTrue_Compare1 (bB (ha pins s σ H _ I h) fun v s1 ⟨x,H1,I1,r1,q1⟩=>bB (hb pins s1 σ H1 _ I1 q1) fun u s2 ⟨y,H2,I2,r2,q2⟩=>
  bB (ho pins s2 σ H2 x y v u _ I2 r1 r2 q2) fun c s3 ⟨z,H3,I3,r3,k,e,q3⟩=>?_) hm
 subst e
 cases r3;exact wpAny_truthy_bool ⟨H3,I3,q3⟩
def Gp (r r':R2) (ta tb tc:TE):TE:=fun σ H Q=>ta σ H fun x H1=>tb σ H1 fun y H2=>r x y H2 fun z H3=>∃k,z=.bl k /\
 (if k=true then tc σ H3 fun w' H4=>r' y w' H4 Q else Q (.bl false) H3)
theorem uB {op op':CmpOp} {r r':R2} (ho:OpR X (compareOp op) r) (ho':OpR X (compareOp op') r') (ha:PE X a ta) (hb:PE X b tb) (hc:PE X c tc)
  (hm:lastMarks [op,op'] [b,c]=false:=by with_unfolding_all rfl):PE X (.Compare a [op,op'] [b,c] pos) (Gp r r' ta tb tc):=by
 intro pins s σ H Q I h;refine Compare_chain (bB (ha pins s σ H _ I h) fun v s1 ⟨x,H1,I1,r1,q1⟩=>chain_link (bB (hb pins s1 σ H1 _ I1 q1) fun u s2 ⟨y,H2,I2,r2,q2⟩=>
  bB (ho pins s2 σ H2 x y v u _ I2 r1 r2 q2) fun d s3 ⟨z,H3,I3,r3,k,e,q3⟩=>?_)) hm
 subst e
 cases r3;refine wpAny_truthy_bool ?_
 cases k with
 | false=>exact ite_ff ⟨.bl false,H3,I3,rfl,q3⟩
 | true=>exact ite_tt (chain_last (bB (hc pins s3 σ H3 _ I3 q3) fun w' s4 ⟨z',H4,I4,r4,q4⟩=>ho' pins s4 σ H4 y z' u w' Q I4 r2 r4 q4))
theorem uh {op op':CmpOp} {r r':R2} (ho:OpR X (compareOp op) r) (ho':OpR X (compareOp op') r') (ha:PE X a ta) (hb:PE X b tb) (hc:PE X c tc)
  (hm:lastMarks [op,op'] [b,c]=false:=by with_unfolding_all rfl):PT X (.Compare a [op,op'] [b,c] pos) (tf (Gp r r' ta tb tc)):=by
 intro pins s σ H Q I h;refine isTrue_chain (bB (ha pins s σ H _ I h) fun v s1 ⟨x,H1,I1,r1,q1⟩=>test_link (bB (hb pins s1 σ H1 _ I1 q1) fun u s2 ⟨y,H2,I2,r2,q2⟩=>
  bB (ho pins s2 σ H2 x y v u _ I2 r1 r2 q2) fun d s3 ⟨z,H3,I3,r3,k,e,q3⟩=>?_)) hm
 subst e
 cases r3;refine wpAny_truthy_bool ?_
 cases k with
 | false=>
  obtain ⟨k',e',q'⟩:=q3
  cases e'
  exact ite_ff ⟨H3,I3,q'⟩
 | true=>
  refine ite_tt (test_last (bB (hc pins s3 σ H3 _ I3 q3) fun w' s4 ⟨z',H4,I4,r4,q4⟩=>bB (ho' pins s4 σ H4 y z' u w' _ I4 r2 r4 q4) fun d' s5 ⟨z2,H5,I5,r5,k2,e2,q5⟩=>?_))
  subst e2
  cases r5;exact wpAny_truthy_bool ⟨H5,I5,q5⟩
def yA (K:Fg) (x:V) (H:Hp) (k:Bool):Prop:=
 match x with
 | .non=>k=false
 | .bl b=>k=b
 | .int i=>k=(i != 0)
 | .str y=>y.length<=sizeLine/\k=((y.length:Int) != 0)
 | .byt y=>y.size<=sizeLine/\k=((y.size:Int) != 0)
 | .ref p=>(∃xs,SqL K H p xs/\k=!xs.isEmpty)\/(∃xs,SqT K H p xs/\k=!xs.isEmpty)\/∃kvs,H p=some (.dK kvs)/\k=!kvs.isEmpty
 | _=>False
theorem oF {κ:Type} {kvs:List (κ×V)} {vs:List (κ×Value)} (r:KV kvs vs):(!vs.isEmpty)=!kvs.isEmpty:=by
 cases r<;>rfl
theorem iO {xs:List V} {its:List Value} (r:Vals xs its):(!its.toArray.isEmpty)=!xs.isEmpty:=by
 cases r<;>simp
theorem yI:(sizeLine:Nat)<2 ^ 63:=by rw [sizeLine_eq];decide
theorem zW:Je X (fun x H Q=>∃k,yA X.K x H k/\Q k H):=by
 intro pins s σ H x v Q I rx h;obtain ⟨k,e,q⟩:=h;have hl:=yI
 have hs:sizeLine=16777216:=sizeLine_eq
 cases x with
 | non=>
  cases rx;have e':k=false:=e
  subst e'
  exact truthy_none ⟨H,I,q⟩
 | bl b=>
  cases rx;have e':k=b:=e
  subst e'
  exact wpAny_truthy_bool ⟨H,I,q⟩
 | int i=>
  obtain ⟨t,rfl⟩:=rx;have e':k=(i != 0):=e
  subst e'
  exact PySem.P.truthy_int ⟨H,I,q⟩
 | str y=>
  obtain ⟨t,rfl⟩:=rx;obtain ⟨hy,e'⟩:y.length<=sizeLine/\k=((y.length:Int) != 0):=e
  subst e'
  exact PySem.P.truthy_str (by omega) ⟨H,I.tok _,q⟩
 | byt y=>
  obtain ⟨t,rfl⟩:=rx;obtain ⟨hy,e'⟩:y.size<=sizeLine/\k=((y.size:Int) != 0):=e
  subst e'
  exact PySem.W.truthy_bytes (by omega) ⟨H,I.tok _,q⟩
 | ref p=>
  cases rx;have e':(∃xs,SqL X.K H p xs/\k=!xs.isEmpty)\/(∃xs,SqT X.K H p xs/\k=!xs.isEmpty)\/∃kvs,H p=some (.dK kvs)/\k=!kvs.isEmpty:=e
  rcases e' with ⟨xs,hx,e'⟩ | ⟨xs,hx,e'⟩ | ⟨kvs,hx,e'⟩
  ·subst e'
   obtain ⟨its,r,pl,hz⟩:=I.list hx;have hlen:=r.length
   exact wpAny_truthy_list pl.isList (by simp only [size_toArray];omega) ⟨H,I.tok _,by rw [iO r];exact q⟩
  ·subst e'
   obtain ⟨its,r,pl,hz⟩:=I.tuple hx;have hlen:=r.length
   exact truthy_tuple pl (by simp only [size_toArray];omega) ⟨H,I.tok _,by rw [iO r];exact q⟩
  ·subst e'
   obtain ⟨hz,hS,vs,r,m⟩:kvs.length<=sizeLine/\(p==sysModules)=false/\∃vs,KV kvs vs/\s.heap.DictOf (jD X.prog X.w) p vs:=I.hok p _ hx
   have hlen:kvs.length=vs.length:=Paired.length r
   exact wpAny_truthy_dict hS m (by omega) ⟨H,I.tok _,by rw [oF r];exact q⟩
 | _=>exact (show False from e).elim
theorem mq (ha:PE X a ta) (he:∀whole,isTrue a X.env whole=(do let v <-whole;standAt a.pos;holding [v] (truthy v))) :
  PT X a (fun σ H Q=>ta σ H fun x H'=>∃k,yA X.K x H' k/\Q k H'):=by
 intro pins s σ H Q I h;exact isTrue_plain (bB (ha pins s σ H _ I h) fun v s1 ⟨x,H1,I1,r1,q1⟩=>zW pins s1 σ H1 x v Q I1 r1 q1) (he _)
theorem vals1 {x:V} {us:List Value} (r:Vals [x] us):∃u,us=[u]/\RelV x u:=by
 cases r with
 | cons r1 r2=>cases r2;exact ⟨_,rfl,r1⟩
theorem rX:CallR X (.type "int") (fun xs H Q=>(∃i,xs=[.int i]/\Q (.int i) H)\/∃k,xs=[.bl k]/\Q (.int (if k then 1 else 0)) H):=by
 intro pins s σ H xs us Q I r h;rcases h with ⟨i,rfl,q⟩ | ⟨k,rfl,q⟩
 ·obtain ⟨u,rfl,t,rfl⟩:=vals1 r
  exact call_int_int ⟨.int i,H,I,⟨_,rfl⟩,q⟩
 ·obtain ⟨u,rfl,r1⟩:=vals1 r
  cases r1;exact call_int_bool ⟨.int (if k then 1 else 0),H,I.tok _,⟨_,rfl⟩,q⟩
end
structure Ko (h:Heap) (x dx C:Addr) (mA:Str->Option Value):Prop where
 obj:h.get? x=some (PySem.W.instObj C dx)
 ns:h.Ns1 dx mA
 ne:dx≠x
theorem RelO.some_of {v:V} {o:Option Value} (r:RelO (some v) o):∃u,o=some u/\RelV v u:=by
 cases o with
 | none=>exact (show False from r).elim
 | some u=>exact ⟨u,rfl,r⟩
structure Kr (K:Fg) (C:Addr):Prop where
 pg:PySem.W.plainGet K C Str.empty=true
 hd:PySem.W.hasDictIn K C=true
 po:PySem.W.plainOver K C=true
 sa:PySem.W.findIn K (.ref C) "__setattr__"=some (some (.builtin "object.__setattr__"))
structure Con (K:Fg) (C:Addr) (f:Str) (v:V) (u:Value):Prop where
 at_:PySem.W.findIn K (.ref C) f=some (some u)
 rel:RelV v u
 get:PySem.W.specialIn K u "__get__"=some none
 cp:PySem.W.copiedNames.contains f=false
structure Kp (K:Fg) (C:Addr) (m:Str) (f:Addr):Prop where
 at_:PySem.W.findIn K (.ref C) m=some (some (.ref f))
 fn:PySem.W.isFn K (.ref f)=true
 kp:PySem.W.keepIn K (.ref f)=true
section
variable {X:Cx} {pins:List (Addr×Obj)} {σ:St} {H:Hp} {s:Shared} {A:Around} {E:Value->Shared->Prop} {Q:Value->Shared->Prop} {c:Value} {b:Bool}
inductive i8 (K:Fg) (H:Hp):V->Value->Prop where
 | non:i8 K H .non (.type "NoneType")
 | bl (x:Bool):i8 K H (.bl x) (.type "bool")
 | int (i:Int):i8 K H (.int i) (.type "int")
 | str (x:Str):i8 K H (.str x) (.type "str")
 | flt (x:UInt64):i8 K H (.flt x) (.type "float")
 | lst {a:Addr} {xs:List V} (e:H a=some (.lst xs)):i8 K H (.ref a) (.type "list")
 | frz {a:Addr} {o:Obj} {xs:List V} (e:H a=some (.frz o (.lst xs))):i8 K H (.ref a) (.type "list")
 | tup {a:Addr} {xs:List V} (e:H a=some (.tup xs)):i8 K H (.ref a) (.type "tuple")
 | dK {a:Addr} {kvs:List (bR×V)} (e:H a=some (.dK kvs)):i8 K H (.ref a) (.type "dict")
 | dT {a:Addr} {kvs:List (List bR×V)} (e:H a=some (.dT kvs)):i8 K H (.ref a) (.type "dict")
 | ins {a C dx:Addr} {fs:List (Str×V)} (e:H a=some (.ins C dx fs)) (cl:Kr K C) (ha:PySem.W.findIn K (.ref C) "__class__"=some (some (.builtin "object.__class__")))
   (hn:PySem.W.specialIn K (.builtin "object.__class__") "__get__"=some (some (.builtin "getset_descriptor.__get__"))) (htk:PySem.W.takesIn K (.builtin "object.__class__")=some true)
   (hm:PySem.W.mroIn K C (.type "object")=some true):i8 K H (.ref a) (.ref C)
end
structure Room (k:Nat) (A:Around):Prop where
 hd:A.handled=none
 dp:A.depth+3*k+5<recursionLimit
 un:A.units+16*k+200<cLine
theorem Room.mono {j k:Nat} {A:Around} (r:Room k A) (h:j<=k):Room j A:=⟨r.hd,by have:=r.dp;omega,by have:=r.un;omega⟩
theorem Room.deeper {k:Nat} {A:Around} (r:Room (k+1) A) (env:Env):Room k (A.deeper env):=
 ⟨r.hd,by have:=r.dp;show A.depth+1+3*k+5<_;omega,by have:=r.un;show A.units+3+16*k+200<_;omega⟩
theorem Room.depth {k:Nat} {A:Around} (r:Room k A):A.depth<recursionLimit:=by have:=r.dp;omega
theorem Room.units {k:Nat} {A:Around} (r:Room k A):A.units+64<cLine:=by have:=r.un;omega
def ip:TA:=fun _ H Q=>Q [] H
def dh (ta:TE) (tr:TA):TA:=fun σ H Q=>ta σ H fun x H1=>tr σ H1 fun xs H2=>Q (x::xs) H2
section
variable {X:Cx} {e:Expr} {es:List Expr} {te:TE} {t:TA} {pos:Pos}
theorem wa:PA X [] ip:=fun _ _ _ _ H Q I h=>Calls.spliced_nil ⟨[],H,I,.nil,h⟩
theorem sk (ha:PE X e te) (hr:PA X es t) (hs:starEach (e::es) X.env=(false,eval e X.env)::starEach es X.env:=by rfl):PA X (e::es) (dh te t):=by
 intro pos pins s σ H Q I h;rw [hs];show wpAny _ _ (spliced ((false,eval e X.env)::backTo pos (starEach es X.env))) _ _ s
 refine Calls.spliced_cons (bB (ha pins s σ H _ I h) fun u s1 ⟨x,H1,I1,r1,q1⟩=>?_)
 exact bB (hr pos pins s1 σ H1 _ I1 q1) fun us s2 ⟨xs,H2,I2,r2,q2⟩=>⟨x::xs,H2,I2,.cons r1 r2,q2⟩
def zX (t:TA):TE:=fun σ H Q=>t σ H fun xs H1=>xs.length<=sizeLine/\∀p,H1 p=none->Q (.ref p) (bA H1 p (.tup xs))
def zZ (t:TA):TE:=fun σ H Q=>t σ H fun xs H1=>xs.length<=sizeLine/\∀p,H1 p=none->Q (.ref p) (bA H1 p (.lst xs))
theorem uv {x1} (h:PA X es t):PE X (.Tuple es x1 pos) (zX t):=by
 intro pins s σ H Q I hq;refine wpAny_Tuple_spliced (bB (h pos pins s σ H _ I hq) fun us s1 ⟨xs,H1,I1,r,z,q⟩=>⟨by rw [<-r.length];exact z,?_⟩)
 have hf:H1 s1.heap.objs.size=none:=I1.hok.fresh (Nat.le_refl _)
 refine ⟨.ref s1.heap.objs.size,bA H1 s1.heap.objs.size (.tup xs),I1.laid (t':=s1.toks) (fun b u e=>Heap.get?_push_of_some _ e) (Nat.le_refl _) ?_,rfl,q _ hf⟩
 exact ⟨z,us,r,⟨_,Heap.get?_push_size _ rfl,rfl,_,rfl⟩⟩
theorem ux (h:PA X es t):PE X (.List es pos) (zZ t):=by
 intro pins s σ H Q I hq;refine wpAny_List_spliced (bB (h pos pins s σ H _ I hq) fun us s1 ⟨xs,H1,I1,r,z,q⟩=>⟨by rw [<-r.length];exact z,?_⟩)
 have hf:H1 s1.heap.objs.size=none:=I1.hok.fresh (Nat.le_refl _)
 refine ⟨.ref s1.heap.objs.size,bA H1 s1.heap.objs.size (.lst xs),I1.laid (t':=s1.toks) (fun b u e=>Heap.get?_push_of_some _ e) (Nat.le_refl _) ?_,rfl,q _ hf⟩
 exact ⟨z,us,0,r,Heap.get?_push_size _ rfl⟩
end
abbrev Sp:=List V->Hp->VK->XK->Prop
abbrev vM:=List Env->Hp->Shared->XK->Value->Shared->Prop
structure yE (P:Program) (w:World) (K:Fg) (mg:Str->Option Value) (base:Heap) (A:Around) (outer:List Env) (s:Shared) (H:Hp):Prop where
 frames:A.frames=some outer
 mod:Mod K mg base
 bs:∀b o,base.get? b=some o->s.heap.get? b=some o/\H b=none
 bsz:base.objs.size<=s.heap.objs.size
 funs:s.heap.FunFrames base outer
 frf:∀b∈ve outer,H b=none
 hok:HOk P w H s.heap
 bare:AllBare s.gens
def CE (outer:List Env) (P:Program) (w:World) (H:Hp) (s:Shared) (Q:VK) (u:Value) (s':Shared):Prop:=
 ∃v H',s'.os=s.os/\AllBare s'.gens/\Un (ve outer) [] H H' s.heap s'.heap/\HOk P w H' s'.heap/\RelV v u/\Q v H'
def CR (CX:vM) (outer:List Env) (P:Program) (w:World) (H:Hp) (s:Shared) (Q:VK) (E:XK) (r:Result) (s':Shared):Prop:=
 match r with
 | .ok (.ret u)=>CE outer P w H s Q u s'
 | .ok _=>False
 | .error e=>CX outer H s E e s'
structure eR (P:Program) (w:World) (K:Fg) (mg:Str->Option Value) (base:Heap) (CX:vM) (k:Nat) (f:Addr) (fd:FuncData) (ps:List Str) (sp:Sp):Prop where
 len:∀vs H Q E,sp vs H Q E->vs.length=ps.length
 run:∀(A:Around) (outer:List Env) (s:Shared) (H:Hp) (args:Args) (us:List Value) (vs:List V) (Q:VK) (E:XK),Room k A->yE P w K mg base A outer s H->BindsTo s fd args (ps.zip us)->Vals vs us->sp vs H Q E ->
  codeAny (model P w) A (.call (.ref f) args) (CR CX outer P w H s Q E) s
section
variable {X:Cx} {pins:List (Addr×Obj)} {σ:St} {H:Hp} {s s':Shared}
theorem Inv.env0 (I:Inv X pins σ H s):yE X.prog X.w X.K X.mg X.base X.A X.stack s H:=
 ⟨I.ok.frames,I.ok.mod,I.bs,Nat.le_trans I.ok.bsz I.sz,I.stack,I.stkFree,I.hok,I.bare⟩
theorem Inv.after {Q:VK} {u:Value} (I:Inv X pins σ H s) (h:CE X.stack X.prog X.w H s Q u s'):EP X pins σ Q u s':=by
 obtain ⟨v,H',os,bare,un,hok,r,q⟩:=h;obtain ⟨hh,g,d,t,os'⟩:=s'
 obtain rfl:os'=s.os:=os
 exact ⟨v,H',I.call (h':=hh) (g':=g) (d':=d) (t':=t) (ch:=[]) un hok bare (fun b z=>absurd z (by simp)),r,q⟩
end
def lQ (sp:Sp) (dvs:List V) (E:XK) (t:TA):TE:=fun σ H Q=>t σ H fun vs H1=>sp (vs++dvs) H1 Q E
def Binds (K:Fg) (fd:FuncData) (ps:List Str) (ds:List Value):Prop:=
 ∀(s:Shared) (us:List Value),K.In s.heap->(us++ds).length=ps.length->BindsTo s fd ⟨us,[]⟩ (ps.zip (us++ds))
theorem Binds.all {K:Fg} {fd:FuncData} {ps:List Str} (h:∀us:List Value,us.length=ps.length->bindArgs fd ⟨us,[]⟩=pure (ps.zip us)):Binds K fd ps []:=fun s us _ hl=>by
 rw [append_nil] at hl ⊢;exact .of_eq (h us hl)
def F9 (CX:vM) (X:Cx) (E:XK):Prop:=∀(pins:List (Addr×Obj)) (σ:St) (H:Hp) (s:Shared) (e:Value) (s':Shared),Inv X pins σ H s->CX X.stack H s E e s'->X.xe e s'
section
variable {X:Cx} {CX:vM} {k:Nat} {f C:Addr} {fd:FuncData} {ps:List Str} {sp:Sp} {dvs:List V} {ds:List Value} {E:XK} {x m:Str} {p pos apos:Pos} {e o:Expr} {es:List Expr} {ta:TE} {t:TA}
theorem Ak {pins:List (Addr×Obj)} {σ:St} {H:Hp} {s:Shared} {Q:VK} {us:List Value} {vs:List V} (F:eR X.prog X.w X.K X.mg X.base CX k f fd ps sp) (hr:Room k X.A) (hb:Binds X.K fd ps ds) (hd:Vals dvs ds) (hx:F9 CX X E)
  (I:Inv X pins σ H s) (r:Vals vs us) (h:sp (vs++dvs) H Q E):wpAny (model X.prog X.w) X.A (call (.ref f) us) (EP X pins σ Q) X.xe s:=by
 have r2:Vals (vs++dvs) (us++ds):=r.append hd
 have hl:(us++ds).length=ps.length:=by rw [<-r2.length];exact F.len _ _ _ _ h
 refine wpAny_call (codeAny_mono (F.run X.A X.stack s H ⟨us,[]⟩ (us++ds) (vs++dvs) Q E hr I.env0 (hb s us I.kIn hl) r2 h) fun r s' hq=>?_)
 cases r with
 | error e=>exact hx pins σ H s e s' I hq
 | ok fl=>
  cases fl with
  | ret u=>exact I.after hq
  | next=>exact False.elim hq
  | brk=>exact False.elim hq
  | cont=>exact False.elim hq
theorem GF (F:eR X.prog X.w X.K X.mg X.base CX k f fd ps sp) (hr:Room k X.A) (hg:Gl X x) (hm:X.mg x=some (.ref f)) (hk:PySem.W.keepIn X.K (.ref f)=true) (hb:Binds X.K fd ps ds) (hd:Vals dvs ds) (hx:F9 CX X E)
  (ha:PA X (e::es) t) (hdb:(x==("__debug__":Str))=false:=by decide) (he:starEach (e::es) X.env=(false,eval e X.env)::starEach es X.env:=by rfl) (hpl:(backTo pos (starEach es X.env)).any (·.1)=false:=by rfl) :
  PE X (.Call (.Name x p) (e::es) [] pos) (lQ sp dvs E t):=by
 intro pins s σ H Q I h;refine wpAny_Call_Name_kw (pT I hg hm ?_ hdb)
 refine PySem.W.callWith_K (h₀:=X.base) I.ok.mod.kin hk (bB (ha pos pins s σ H _ I h) fun us s1 ⟨vs,H1,I1,r,q⟩=>⟨I1.kIn,?_⟩) he hpl
 exact Ak F hr hb hd hx I1 r q
structure Mk (K:Fg) (C f:Addr):Prop where
 makes:PySem.W.makesIn K C=true
 init:PySem.W.findIn K (.ref C) "__init__"=some (some (.ref f))
 fn:PySem.W.isFn K (.ref f)=true
 kp:PySem.W.keepIn K (.ref C)=true
end
section
variable {X:Cx} {CX:vM} {k:Nat} {f C:Addr} {fd:FuncData} {ps ks:List Str} {sp:Sp} {E:XK} {x m:Str} {p pos apos kpos:Pos} {e o:Expr} {es:List Expr} {kws:List Keyword} {te ta:TE} {t tk:TA} {nm:Option Str}
structure Ji (K:Fg) (fd:FuncData) (ps ks:List Str) (g:List Value->List Value->List Value) (gV:List V->List V->List V):Prop where
 to:∀(s:Shared) (us ws:List Value),K.In s.heap->(g us ws).length=ps.length->BindsTo s fd ⟨us,ks.zip ws⟩ (ps.zip (g us ws))
 rel:∀{vs:List V} {us:List Value} {zs:List V} {ws:List Value},Vals vs us->Vals zs ws->Vals (gV vs zs) (g us ws)
variable {g:List Value->List Value->List Value} {gV:List V->List V->List V}
end
structure cB (N P:List Str) (sc:Scope):Prop where
 kind:sc.kind=.function
 co:sc.isCoroutine=false
 gen:sc.isGenerator=false
 nd:N.Nodup
 pre:N.take P.length=P
 par:∀x∈P,sc.names.lookup x=some .local\/sc.names.lookup x=some .cell
 nofree:∀y∈sc.names,y.2≠.free
theorem j8 {kindOf:Str->Option NameKind} {x:Str}:∀{binds:List (Str×Value)} {m:Str->Option Value},(∀v,(x,v)∉binds)->bindL kindOf binds m x=m x
 | [],_,_=>rfl
 | (n,v)::r,m,h=>by
  unfold bindL;rw [j8 fun w hw=>h w (mem_cons_of_mem _ hw)]
  split
  ·have:x≠n:=by rintro rfl;exact h v mem_cons_self
   simp [this]
  ·rfl
theorem ka {kindOf:Str->Option NameKind} {x:Str}:∀{binds:List (Str×Value)} {m:Str->Option Value},(∀v,(x,v)∉binds)->bindC kindOf binds m x=m x
 | [],_,_=>rfl
 | (n,v)::r,m,h=>by
  unfold bindC;rw [ka fun w hw=>h w (mem_cons_of_mem _ hw)]
  split
  ·rfl
  ·have:x≠n:=by rintro rfl;exact h v mem_cons_self
   simp [this]
theorem j9 {kindOf:Str->Option NameKind} {x:Str} {v:Value}:∀{P:List Str} {vs:List Value} {i:Nat} {m:Str->Option Value},P.Nodup->P[i]?=some x->vs[i]?=some v->kindOf x=some .local ->
  bindL kindOf (P.zip vs) m x=some v
 | [],_,_,_,_,h,_,_=>by simp at h
 | _::_,[],_,_,_,_,h,_=>by simp at h
 | p::P,w::vs,0,m,nd,h1,h2,hk=>by
  simp at h1 h2;subst h1;subst h2;show bindL kindOf ((p,w)::P.zip vs) m p=_
  unfold bindL;rw [j8 fun v hv=>(List.nodup_cons.mp nd).1 (List.of_mem_zip hv).1,if_pos hk]
  simp
 | p::P,w::vs,i+1,m,nd,h1,h2,hk=>by
  show bindL kindOf ((p,w)::P.zip vs) m x=_
  unfold bindL;exact j9 (i:=i) (List.nodup_cons.mp nd).2 (by simpa using h1) (by simpa using h2) hk
theorem kb {kindOf:Str->Option NameKind} {x:Str} {v:Value}:∀{P:List Str} {vs:List Value} {i:Nat} {m:Str->Option Value},P.Nodup->P[i]?=some x->vs[i]?=some v->kindOf x≠some .local ->
  bindC kindOf (P.zip vs) m x=some v
 | [],_,_,_,_,h,_,_=>by simp at h
 | _::_,[],_,_,_,_,h,_=>by simp at h
 | p::P,w::vs,0,m,nd,h1,h2,hk=>by
  simp at h1 h2;subst h1;subst h2;show bindC kindOf ((p,w)::P.zip vs) m p=_
  unfold bindC;rw [ka fun v hv=>(List.nodup_cons.mp nd).1 (List.of_mem_zip hv).1,if_neg hk]
  simp
 | p::P,w::vs,i+1,m,nd,h1,h2,hk=>by
  show bindC kindOf ((p,w)::P.zip vs) m x=_
  unfold bindC;exact kb (i:=i) (List.nodup_cons.mp nd).2 (by simpa using h1) (by simpa using h2) hk
def start (N:List Str) (vs:List V):St:=vs.map some++List.replicate (N.length-vs.length) none
def nG (CX:vM) (P:Program) (w:World) (K:Fg) (mg:Str->Option Value) (base:Heap) (N:List Str) (qual:Str) (scope:Scope) (f:Addr) (cd:Value) (A:Around) (outer:List Env) (s:Shared) (H:Hp) (E:XK):Cx where
 prog:=P
 w:=w
 K:=K
 mg:=mg
 base:=base
 A:=A.deeper (envOfC qual scope s.heap.objs.size f cd)
 N:=N
 s₀:=s
 H₀:=H
 env:=envOfC qual scope s.heap.objs.size f cd
 outer:=outer
 stack:=envOfC qual scope s.heap.objs.size f cd::outer
 ex:=[]
 calm:=true
 fn:=fun _=>true
 pn:=[]
 xe:=fun e s'=>wpAny (model P w) (A.deeper (envOfC qual scope s.heap.objs.size f cd)) (leaving (envOfC qual scope s.heap.objs.size f cd) e) (fun _ s''=>CX outer H s E e s'') (fun e' s''=>CX outer H s E e' s'') s'
theorem nI {sc:Scope} {n:Nat} {x:Str} (h:sc.names.lookup x=some .cell):∃c,(cellsFrom n sc.names []).lookup x=some c:=by
 have q:=PySem.W.cellsFrom_some sc.names n [] (.inl h)
 exact Option.isSome_iff_exists.mp q
theorem rB {CX:vM} {P:Program} {w:World} {K:Fg} {mg:Str->Option Value} {base:Heap} {N ps:List Str} {qual:Str} {scope:Scope} {f:Addr} {cd:Value} {A:Around} {outer:List Env} {s s1:Shared} {H:Hp} {E:XK} {us:List Value} {vs:List V}
  (S:cB N ps scope) (hd:A.handled=none) (e0:yE P w K mg base A outer s H) (hl:vs.length=ps.length) (r:Vals vs us)
  (x:InCallC s s.heap.objs.size (bindL (envOfC qual scope s.heap.objs.size f cd).kindOf (ps.zip us) fun _=>none) (cellsFrom (s.heap.objs.size+1) scope.names []) (bindC (envOfC qual scope s.heap.objs.size f cd).kindOf (ps.zip us) fun _=>none) s1) :
  Inv (nG CX P w K mg base N qual scope f cd A outer s H E) [] (start N vs) H s1:=by
 have hpl:ps.length<=N.length:=by have:=congrArg List.length S.pre;rw [length_take] at this;omega
 obtain ⟨h1,tk,rfl,hk⟩:=x.done;have noA:∀b:Addr,b∉(nG CX P w K mg base N qual scope f cd A outer s H E).ex:=fun b z=>absurd (show b∈([]:List Addr) from z) (by simp)
 refine ⟨⟨e0.mod,S.kind,rfl,rfl,Nat.le_refl _,fun y z c h1 h2=>?_,fun y hy=>?_,fun y c _ h=>?_,fun _=>hd,Around.frames_deeper e0.frames,.inr ⟨rfl,rfl⟩,fun b z=>absurd z (noA b),e0.bs,e0.bsz,fun b _ _=>noA b,fun b z=>absurd z (noA b),e0.funs,e0.frf⟩,
  rfl,e0.bare,Un.kept hk,⟨_,x.toInCall.ns,fun i y v h1 h2 h3=>?_⟩,fun y c h=>⟨_,x.cell y c h⟩,e0.hok.fresh (Nat.le_refl _),fun y c h=>?_,fun p hp=>absurd (show p∈([]:List (Addr×Obj)) from hp) (by simp),e0.hok.kept hk,?_⟩
 ·exact name_of_addr x.apart (PySem.mem_of_lookup h1) (PySem.mem_of_lookup h2)
 ·have hy:scope.names.lookup y=some .cell\/scope.names.lookup y=some .free:=hy
  rcases hy with hy | hy
  ·exact nI hy
  ·exact absurd rfl (S.nofree _ (PySem.mem_of_lookup hy))
 ·exact Nat.le_of_lt (x.above y c (PySem.mem_of_lookup h))
 ·have hi:i<vs.length:=by
   unfold start at h2;by_cases hi:i<vs.length
   ·exact hi
   ·rw [getElem?_append_right (by simpa using hi)] at h2
    rw [getElem?_replicate] at h2;split at h2<;>cases h2
  have ha:vs[i]?=some v:=by
   unfold start at h2;rw [getElem?_append_left (by simpa using hi),getElem?_map] at h2
   cases e:vs[i]? with
   | none=>rw [e] at h2;cases h2
   | some a=>rw [e] at h2;cases h2;rfl
  obtain ⟨u,hu,rv⟩:=r.get ha;have hp:ps[i]?=some y:=by
   rw [<-S.pre,List.getElem?_take_of_lt (by omega)];exact h1
  have ndP:ps.Nodup:=by rw [<-S.pre];exact S.nd.sublist (List.take_sublist _ _)
  refine ⟨u,rv,?_⟩
  rcases S.par y (mem_of_getElem? hp) with k | k
  ·exact .inl ⟨k,j9 ndP hp hu k⟩
  ·obtain ⟨c,e⟩:=nI (n:=s.heap.objs.size+1) k
   refine .inr ⟨.inl k,c,e,?_⟩
   have q:=x.cell y c e
   rw [kb ndP hp hu (by show scope.names.lookup y≠_;rw [k];decide)] at q
   exact q
 ·exact e0.hok.fresh (Nat.le_of_lt (x.above y c (PySem.mem_of_lookup h)))
 ·unfold start
  show _=N.length
  rw [length_append,length_map,List.length_replicate];omega
theorem DN {CX:vM} {P:Program} {w:World} {K:Fg} {mg:Str->Option Value} {base:Heap} {k:Nat} {f:Addr} {name qual:Str} {params:Arguments} {body:List Stmt} {scope:Scope} {dV kV doc pm cdv ct oc:Value} {an od:Option Addr}
  {osl:Array (Option Value)} {N ps:List Str} {sp:Sp} (lk:K.lookup f=some ⟨oc,od,.func (PySem.W.fnOf name qual params body scope dV kV doc pm an cdv ct),osl⟩) (hcd:PySem.W.codeIn K cdv qual=true) (S:cB N ps scope)
  (len:∀vs H Q E,sp vs H Q E->vs.length=ps.length)
  (hbody:∀(A:Around) (outer:List Env) (s:Shared) (H:Hp) (vs:List V) (Q:VK) (E:XK),Room k (A.deeper (envOfC qual scope s.heap.objs.size f cdv))->sp vs H Q E ->
   ∃t,PSs (nG CX P w K mg base N qual scope f cdv A outer s H E) body t/\t { nx:=fun _ H'=>Q .non H',rt:=Q } (start N vs) H) :
  eR P w K mg base CX (k+1) f (PySem.W.fnOf name qual params body scope dV kV doc pm an cdv ct) ps sp:=by
 refine ⟨len,fun A outer s H args us vs Q E hr e0 hb r hsp=>?_⟩
 have hl:=len _ _ _ _ hsp
 have KX:K.In s.heap:=e0.mod.kin.keeps fun b o e=>(e0.bs b o e).1
 have lim:s.heap.NoLimit:=e0.mod.nolimit.keeps fun b o e=>(e0.bs b o e).1
 have hkind:∀y∈ps.zip us,scope.names.lookup y.1=some .local\/(scope.names.lookup y.1=some .cell/\((cellsFrom (s.heap.objs.size+1) scope.names []).lookup y.1).isSome=true):=fun ⟨n,v⟩ hy=>by
  rcases S.par n (List.of_mem_zip hy).1 with q | q
  ·exact .inl q
  ·exact .inr ⟨q,PySem.W.cellsFrom_some _ _ _ (.inl q)⟩
 refine codeAny_call_function hr.depth (KX _ _ lk) rfl S.co S.gen rfl (PySem.W.codeRec_of KX hcd) (hb _ _ _ _ ?_)
 refine wpAny_newFunctionEnv_cells S.kind hkind fun env he s1 x=>?_
 subst he;refine ⟨lim.keeps x.toInCall.keep,codeAny_func ?_⟩
 obtain ⟨t,ht,hq⟩:=hbody A outer s H vs Q E (hr.deeper _) hsp;have I:Inv (nG CX P w K mg base N qual scope f cdv A outer s H E) [] (start N vs) H s1:=rB S hr.hd e0 hl r x
 refine wpAny_mono (ht [] s1 (start N vs) H _ I hq) (fun fl s' hs=>?_) fun e s' hs=>hs
 have fin:∀{σ':St} {H':Hp} {v:V} {u:Value},Inv (nG CX P w K mg base N qual scope f cdv A outer s H E) [] σ' H' s'->RelV v u->Q v H'->CE outer P w H s Q u s':=
  fun {σ' H' v u} J rv q=>⟨v,H',J.os,J.bare,J.base,J.hok,rv,q⟩
 cases fl with
 | ret u=>
  obtain ⟨v,σ',H',J,rv,q⟩:=hs;exact fin J rv q
 | next=>
  obtain ⟨σ',H',J,q⟩:=hs;exact fin (v:=V.non) (u:=Value.none) J rfl q
 | brk=>
  obtain ⟨_,_,_,q⟩:=hs;exact False.elim q
 | cont=>
  obtain ⟨_,_,_,q⟩:=hs;exact False.elim q
section
variable {X:Cx} {x:Str} {p pos:Pos} {e:Expr} {es:List Expr} {t:TA} {id T:String} {r:List V->Hp->VK->Prop}
def Aa (r:List V->Hp->VK->Prop) (t:TA):TE:=fun σ H Q=>t σ H fun vs H1=>r vs H1 Q
theorem GZ (hc:CallR X (.builtin id) r) (hg:Gl X x) (hm:X.mg x=none) (hv:bootBuiltins x=some (.builtin id)) (ha:PA X (e::es) t) (hn:x ≠ "__name__":=by decide) (hdb:(x==("__debug__":Str))=false:=by decide)
  (he:starEach (e::es) X.env=(false,eval e X.env)::starEach es X.env:=by rfl) (hpl:(backTo pos (starEach es X.env)).any (·.1)=false:=by rfl):PE X (.Call (.Name x p) (e::es) [] pos) (Aa r t):=by
 intro pins s σ H Q I h;refine wpAny_Call_Name_kw (v9 I hg hm hv ?_ hn hdb)
 exact PyProof.Rows.callWith_builtin1 (bB (ha pos pins s σ H _ I h) fun us s1 ⟨vs,H1,I1,r1,q1⟩=>hc pins s1 σ H1 vs us Q I1 r1 q1) he hpl
theorem jP (hc:CallR X (.type T) r) (hg:Gl X x) (hm:X.mg x=none) (hv:bootBuiltins x=some (.type T)) (ha:PA X (e::es) t) (hn:x ≠ "__name__":=by decide) (hdb:(x==("__debug__":Str))=false:=by decide)
  (he:starEach (e::es) X.env=(false,eval e X.env)::starEach es X.env:=by rfl) (hpl:(backTo pos (starEach es X.env)).any (·.1)=false:=by rfl):PE X (.Call (.Name x p) (e::es) [] pos) (Aa r t):=by
 intro pins s σ H Q I h;refine wpAny_Call_Name_kw (v9 I hg hm hv ?_ hn hdb)
 exact PyProof.Rows.callWith_type1 (bB (ha pos pins s σ H _ I h) fun us s1 ⟨vs,H1,I1,r1,q1⟩=>hc pins s1 σ H1 vs us Q I1 r1 q1) he hpl
end
end L2
namespace HT
open PySem PyProof.Rows
section
open PySem.SeqAt
open PySem.AutoSeq1 (wpAny_loadPart')
open PySem.MeetsSeq PySem.MeetsSeq2 PySem.MeetsSeq3
end
section
variable {prog:Program} {w:World} {A:Around} {E:Value->Shared->Prop} {s:Shared}
def sIx (n d:Nat):Option Int->Nat
 | none=>d
 | some v=>if v<0 then (v+(n:Int)).toNat else min v.toNat n
theorem sIx_none (n d:Nat):sIx n d none=d:=rfl
theorem sIx_nat (n d k:Nat):sIx n d (some (k:Int))=min k n:=by
 show (if (k:Int)<0 then ((k:Int)+(n:Int)).toNat else min (k:Int).toNat n)=min k n
 rw [if_neg (by omega),Int.toNat_natCast]
theorem Aj (n d:Nat) (hd:d<=n) (o:Option Int):sIx n d o<=n:=by
 cases o with
 | none=>exact hd
 | some v=>
  show (if v<0 then (v+(n:Int)).toNat else min v.toNat n)<=n
  by_cases hv:v<0
  ·rw [if_pos hv];omega
  ·rw [if_neg hv];exact Nat.min_le_right _ _
theorem qe (v:Int) (n d:Nat):(if v<0 then max (v+(n:Int)) 0 else min v (n:Int))=((sIx n d (some v):Nat):Int):=by
 show (if v<0 then max (v+(n:Int)) 0 else min v (n:Int))=(((if v<0 then (v+(n:Int)).toNat else min v.toNat n):Nat):Int)
 by_cases hv:v<0
 ·simp only [if_pos hv];omega
 ·simp only [if_neg hv];omega
theorem oZ (lo hi:Option Int) (n:Nat):Builtin.Slice.sliceAdjust lo hi 1 (n:Int)=(((sIx n 0 lo:Nat):Int),((sIx n n hi:Nat):Int)):=by
 have h1:¬((1:Int)<0):=by omega
 unfold Builtin.Slice.sliceAdjust;simp only [h1,if_false]
 refine Prod.ext ?_ ?_
 ·cases lo with
  | none=>rfl
  | some v=>exact qe v n 0
 ·cases hi with
  | none=>rfl
  | some v=>exact qe v n n
theorem oo (i j:Nat):Builtin.Slice.slicePlaces (i:Int) (j:Int) 1=j-i:=by
 unfold Builtin.Slice.slicePlaces;have h1:(1:Int)>0:=by omega
 simp only [h1,if_true,Int.ediv_one]
 split<;>omega
theorem iq {v:Value} {o:Option Int} {Q:Option Int->Shared->Prop} (p:IsPart v o) (h:Q o s):wpAny (model prog w) A (Builtin.Slice.slicePartIndex v) Q E s:=by
 cases p with
 | none=>exact slicePart_none h
 | int i t=>exact slicePart_int h
theorem gp {sl:Addr} {vl vu:Value} {lo hi:Option Int} {n:Nat} {Q:Int×Int×Nat->Shared->Prop} (hs:s.heap.IsSliceOf sl vl vu .none) (pl:IsPart vl lo) (pu:IsPart vu hi)
  (h:Q (((sIx n 0 lo:Nat):Int),1,sIx n n hi-sIx n 0 lo) s):wpAny (model prog w) A (Builtin.Slice.sliceApplied (.ref sl) (pure (n:Int))) Q E s:=by
 obtain ⟨os,hos,hcs,hds⟩:=id hs;unfold Builtin.Slice.sliceApplied Builtin.Slice.sliceFields;refine wpAny_bind (wpAny_bind (wpAny_field hos hds (x:=vl) rfl (wpAny_bind (wpAny_field hos hds (x:=vu) rfl (wpAny_bind (wpAny_field hos hds (x:=.none) rfl (wpAny_pure ?_)))))))
 refine wpAny_bind (slicePart_none ?_)
 show wpAny _ _ (if ((1:Int)==0)=true then _ else _) _ _ s
 rw [if_neg (by decide)]
 refine wpAny_bind (iq pl (wpAny_bind (iq pu (wpAny_bind (wpAny_pure ?_)))))
 show wpAny _ _ (match Builtin.Slice.sliceAdjust lo hi 1 (n:Int) with | (lo,hi)=>pure (lo,(1:Int),Builtin.Slice.slicePlaces lo hi 1)) _ _ s
 rw [oZ lo hi n];show wpAny _ _ (pure (((sIx n 0 lo:Nat):Int),(1:Int),Builtin.Slice.slicePlaces ((sIx n 0 lo:Nat):Int) ((sIx n n hi:Nat):Int) 1)) _ _ s
 rw [oo];exact wpAny_pure h
theorem uq (xs:Array Value) (i k:Nat):((List.range k).filterMap fun (m:Nat)=>xs[((i:Int)+(m:Int)*1).toNat]?).toArray=((xs.toList.drop i).take k).toArray:=by
 have e:(fun (m:Nat)=>xs[((i:Int)+(m:Int)*1).toNat]?)=fun m=>xs[i+m]?:=by
  funext m
  have:((i:Int)+(m:Int)*1).toNat=i+m:=by omega
  rw [this]
 rw [e];have:=pick_run xs i k
 rw [List.filterMap_map] at this;have e2:((fun x=>xs[x]?)∘fun x=>i+x)=fun m=>xs[i+m]?:=rfl
 rw [e2] at this;rw [this]
theorem getItem_tuple_cut {t sl:Addr} {items:Array Value} {vl vu:Value} {lo hi:Option Int} {Q:Value->Shared->Prop} (ht:IsTup s.heap t items) (hs:s.heap.IsSliceOf sl vl vu .none) (pl:IsPart vl lo) (pu:IsPart vu hi)
  (hw:¬(sIx items.size 0 lo=0/\sIx items.size items.size hi=items.size))
  (h:Q (.ref s.heap.objs.size) { s with heap:=s.heap.push { cls:=.type "tuple",data:=.seq ((items.toList.drop (sIx items.size 0 lo)).take (sIx items.size items.size hi-sIx items.size 0 lo)).toArray } })
  (hsz:items.size<=sizeLine):wpAny (model prog w) A (getItem (.ref t) (.ref sl)) Q E s:=by
 have htake:sizeOk (.seq ((items.toList.drop (sIx items.size 0 lo)).take (sIx items.size items.size hi-sIx items.size 0 lo)).toArray):=by
  show ((items.toList.drop (sIx items.size 0 lo)).take (sIx items.size items.size hi-sIx items.size 0 lo)).toArray.size<=sizeLine
  rw [size_toArray,length_take,length_drop,Array.length_toList];omega
 have hj:sIx items.size items.size hi<=items.size:=Aj _ _ (Nat.le_refl _) hi
 obtain ⟨os,hos,hcs,hds⟩:=id hs;have hTs:s.TypeIs (.ref sl) "slice":=⟨os,hos,hcs⟩
 unfold getItem;try with_reducible refine wpAny_holding ?_
 first | refine wpAny_bind (wpAny_pure ?_) | skip
 refine wpAny_bind (wpAny_sequenceKey ht.typeIs (by decide) ?_)
 refine wpAny_bind (wpAny_callSpecial?_slot (name:=Str.ofString "__getitem__") ht.typeIs PyProof.Rows.slot_tuple_getitem
  (wpAny_call_entry PyProof.Rows.slot_tuple_getitem ht.typeIs entry_tuple_getitem ?_ (args_tuple_getitem _ _)))
 show wpAny _ _ (Builtin.Tuple.tupleItemsOf (.ref t) >>= _) _ _ s
 refine wpAny_bind (tupleItemsOf_ ht ?_)
 refine wpAny_bind (wpAny_typeOf hTs ?_)
 rw [if_pos (by decide)]
 refine wpAny_bind (gp hs pl pu ?_)
 have hno:¬((((sIx items.size 0 lo:Nat):Int)==0&&(1:Int)==1&&(sIx items.size items.size hi-sIx items.size 0 lo)==items.size)=true):=by
  intro q;rw [Bool.and_eq_true,Bool.and_eq_true] at q;have q1:((sIx items.size 0 lo:Nat):Int)=0:=eq_of_beq q.1.1
  have q2:sIx items.size items.size hi-sIx items.size 0 lo=items.size:=eq_of_beq q.2
  exact hw ⟨by omega,by omega⟩
 show wpAny _ _ (if (((sIx items.size 0 lo:Nat):Int)==0&&(1:Int)==1&&(sIx items.size items.size hi-sIx items.size 0 lo)==items.size)=true then _ else _) _ _ s
 rw [if_neg hno,uq];first
  | exact wpAny_bind (m:=Builtin.Tuple.tupleExact _) (wpAny_newObj_type (wpAny_pure ⟨_,rfl,wpAny_pure h⟩) htake)
  | exact wpAny_bind (m:=Builtin.Tuple.tupleExact _) (wpAny_newObj_type (wpAny_bind (wpAny_pure (wpAny_pure ⟨_,rfl,wpAny_pure h⟩))) htake)
  | exact wpAny_bind (wpAny_bind (m:=Builtin.Tuple.tupleExact _) (wpAny_newObj_type (wpAny_pure (wpAny_pure ⟨_,rfl,wpAny_pure h⟩)) htake))
  | exact wpAny_bind (wpAny_bind (m:=Builtin.Tuple.tupleExact _) (wpAny_newObj_type (wpAny_pure ⟨_,rfl,wpAny_pure h⟩) htake))
end
end HT
namespace L2
open PySem PySem.Spec PyProof.Rows
abbrev TO:=St->Hp->(Option Int->Hp->Prop)->Prop
def PO (X:Cx) (e:Option Expr) (t:TO):Prop:=
 ∀(pins:List (Addr×Obj)) (s:Shared) (σ:St) (H:Hp) (Q:Option Int->Hp->Prop),Inv X pins σ H s->t σ H Q ->
  wpAny (model X.prog X.w) X.A (evalPart e X.env) (fun u s'=>∃o H',Inv X pins σ H' s'/\IsPart u o/\Q o H') X.xe s
def pk:TO:=fun _ H Q=>Q none H
def yY (t:TE):TO:=fun σ H Q=>t σ H fun x H1=>∃i,x=.int i/\Q (some i) H1
section
variable {X:Cx} {e:Expr} {te:TE} {lo hi:Option Expr} {tl th:TO} {pos p2:Pos}
theorem GI:PO X none pk:=by
 intro pins s σ H Q I h;rw [evalPart_none];exact wpAny_pure ⟨none,H,I,.none,h⟩
theorem GJ (h:PE X e te):PO X (some e) (yY te):=by
 intro pins s σ H Q I hw;rw [evalPart_some];refine bB (h pins s σ H _ I hw) fun u s1 ⟨x,H1,I1,r1,q1⟩=>?_
 obtain ⟨i,rfl,q⟩:=q1;obtain ⟨t,rfl⟩:=r1;exact ⟨some i,H1,I1,.int i t,q⟩
def Jf (X:Cx) (r:V->Option Int->Option Int->Hp->VK->Prop):Prop:=
 ∀(pins:List (Addr×Obj)) (s:Shared) (σ:St) (H:Hp) (x:V) (v vl vu:Value) (lo hi:Option Int) (sl:Addr) (Q:VK),Inv X pins σ H s->RelV x v->s.heap.IsSliceOf sl vl vu .none->IsPart vl lo->IsPart vu hi->r x lo hi H Q ->
  ∃T id,typeLookup (.type T) "__getitem__"=pure (some (.builtin id))/\s.TypeIs v T/\wpAny (model X.prog X.w) X.A (getItem v (.ref sl)) (EP X pins σ Q) X.xe s
def Ju (r:V->Option Int->Option Int->Hp->VK->Prop) (te:TE) (tl th:TO):TE:=fun σ H Q=>te σ H fun x H1=>tl σ H1 fun l H2=>th σ H2 fun u H3=>r x l u H3 Q
theorem G0 {r:V->Option Int->Option Int->Hp->VK->Prop} (hr:Jf X r) (he:PE X e te) (hl:PO X lo tl) (hu:PO X hi th):PE X (.Subscript e (.Slice lo hi none p2) pos) (Ju r te tl th):=by
 intro pins s σ H Q I h;refine Subscript_ (bB (he pins s σ H _ I h) fun v s1 ⟨x,H1,I1,r1,q1⟩=>?_)
 refine wpAny_Slice (bB (hl pins s1 σ H1 _ I1 q1) fun vl s2 ⟨l,H2,I2,pl,q2⟩=>bB (hu pins s2 σ H2 _ I2 q2) fun vu s3 ⟨u,H3,I3,pu,q3⟩=>?_)
 rw [evalPart_none];refine wpAny_pure ?_
 have I4:Inv X pins σ H3 { s3 with heap:=s3.heap.push { cls:=.type "slice",data:=.fields #[vl,vu,.none] } }:=I3.kept (t':=s3.toks) fun b ob q=>Heap.get?_push_of_some _ q
 obtain ⟨T,id,hT,ht,hg⟩:=hr pins { s3 with heap:=s3.heap.push { cls:=.type "slice",data:=.fields #[vl,vu,.none] } } σ H3 x v vl vu l u s3.heap.objs.size Q I4 r1 (Heap.IsSliceOf.new ..) pl pu q3
 show wpAny (model X.prog X.w) X.A (subscriptTail e (.Slice lo hi none p2) v (.ref s3.heap.objs.size)) (EP X pins σ Q) X.xe { s3 with heap:=s3.heap.push { cls:=.type "slice",data:=.fields #[vl,vu,.none] } }
 exact tail_any (ops:=[.ref s3.heap.objs.size,v]) ht hT hg (by with_unfolding_all rfl)
def jA (xs:List V) (lo hi:Option Int):List V:=(xs.drop (HT.sIx xs.length 0 lo)).take (HT.sIx xs.length xs.length hi-HT.sIx xs.length 0 lo)
theorem gM (xs:List V) (lo hi:Option Int):(jA xs lo hi).length<=xs.length:=by
 unfold jA;rw [length_take,length_drop];omega
def AM (K:Fg):V->Option Int->Option Int->Hp->VK->Prop:=fun x lo hi H Q=>∃a xs,x=.ref a/\SqT K H a xs /\
 ¬(HT.sIx xs.length 0 lo=0/\HT.sIx xs.length xs.length hi=xs.length)/\∀p,H p=none->Q (.ref p) (bA H p (.tup (jA xs lo hi)))
theorem Ad:Jf X (AM X.K):=by
 intro pins s σ H x v vl vu lo hi sl Q I rx hs pl pu h;obtain ⟨a,xs,rfl,hx,hw,q⟩:=h
 cases rx;obtain ⟨its,r,ht,hz⟩:=I.tuple hx;have hlen:its.toArray.size=xs.length:=by rw [size_toArray];exact r.length.symm
 refine ⟨"tuple",_,PyProof.Rows.slot_tuple_getitem.lookup,ht.typeIs,?_⟩
 refine HT.getItem_tuple_cut ht hs pl pu (by rw [hlen];exact hw) ?_ (by rw [hlen];exact hz)
 rw [hlen];refine ⟨.ref s.heap.objs.size,_,I.laid (t':=s.toks) (o:=.tup (jA xs lo hi)) (fun b ob q=>Heap.get?_push_of_some _ q) (Nat.le_refl _) ?_,rfl,q _ (I.hok.fresh (Nat.le_refl _))⟩
 exact ⟨Nat.le_trans (gM xs lo hi) hz,_,(r.drop (HT.sIx xs.length 0 lo)).take (HT.sIx xs.length xs.length hi-HT.sIx xs.length 0 lo),IsTup.new _ _⟩
end
def d9 (n:Nat) (i:Int):Option Nat:=if 0<=i then (if i<n then some i.toNat else none) else if -(n:Int)<=i then some (i+n).toNat else none
def eh {α:Type} (xs:List α) (i:Int):Option α:=(d9 xs.length i).bind fun j=>xs[j]?
theorem pW {n:Nat} {i:Int} {j:Nat} (h:d9 n i=some j):seqIndex? i n=some j/\j<n/\-(n:Int)<=i/\i<n:=by
 unfold d9 at h;by_cases h0:0<=i
 ·rw [if_pos h0] at h
  by_cases h1:i<n
  ·rw [if_pos h1] at h
   have e:i.toNat=j:=Option.some.inj h
   exact ⟨by rw [seqIndex_of h0 h1,e],by omega,by omega,h1⟩
  ·rw [if_neg h1] at h;cases h
 ·rw [if_neg h0] at h
  by_cases h1:-(n:Int)<=i
  ·rw [if_pos h1] at h
   have e:(i+n).toNat=j:=Option.some.inj h
   exact ⟨by rw [seqIndex_neg (by omega) h1,e],by omega,h1,by omega⟩
  ·rw [if_neg h1] at h;cases h
theorem Gq {α:Type} {xs:List α} {i:Int} {v:α} (h:eh xs i=some v):∃j,seqIndex? i xs.length=some j/\xs[j]?=some v/\j<xs.length/\-(xs.length:Int)<=i/\i<xs.length:=by
 unfold eh at h
 cases e:d9 xs.length i with
 | none=>rw [e] at h;cases h
 | some j=>
  rw [e] at h;obtain ⟨h1,h2,h3,h4⟩:=pW e;exact ⟨j,h1,h,h2,h3,h4⟩
def ED (b:Expr):Prop:=∀o i,subscripted b false o i=operate [o,i] (getItem o i)
def IxR (X:Cx) (r:R2):Prop:=
 ∀(value slice:Expr) (pins:List (Addr×Obj)) (s:Shared) (σ:St) (H:Hp) (x y:V) (v u:Value) (Q:VK),Inv X pins σ H s->RelV x v->RelV y u->r x y H Q ->
  subscripted slice false v u=operate [v,u] (getItem v u)->wpAny (model X.prog X.w) X.A (subscriptTail value slice v u) (EP X pins σ Q) X.xe s
def F5 (X:Cx) (id:String) (r:V->List V->Hp->VK->Prop):Prop:=
 ∀(pins:List (Addr×Obj)) (s:Shared) (σ:St) (H:Hp) (x:V) (xs:List V) (v:Value) (us:List Value) (Q:VK),Inv X pins σ H s->RelV x v->Vals xs us->r x xs H Q ->
  wpAny (model X.prog X.w) X.A (call (.builtin id) (v::us)) (EP X pins σ Q) X.xe s
section
variable {X:Cx} {a b:Expr} {ta tb:TE} {pos:Pos}
theorem IxR.or {r r':R2} (h:IxR X r) (h':IxR X r'):IxR X (fun x y H Q=>r x y H Q\/r' x y H Q):=by
 intro value slice pins s σ H x y v u Q I rx ry q hs;rcases q with q | q
 ·exact h value slice pins s σ H x y v u Q I rx ry q hs
 ·exact h' value slice pins s σ H x y v u Q I rx ry q hs
theorem pO {r:R2} (hr:IxR X r) (ha:PE X a ta) (hb:PE X b tb) (hs:ED b):PE X (.Subscript a b pos) (vT r ta tb):=by
 intro pins s σ H Q I h;exact Subscript_ (Cb ha hb I h fun v u s2 x y H2 I2 rx ry q=>hr a b pins s2 σ H2 x y v u Q I2 rx ry q (hs _ _))
def Dq (K:Fg):R2:=fun x y H Q=>∃p xs i v,x=.ref p/\y=.int i/\SqL K H p xs/\eh xs i=some v/\Q v H
def Do (K:Fg):R2:=fun x y H Q=>∃p xs i v,x=.ref p/\y=.int i/\SqT K H p xs/\eh xs i=some v/\Q v H
def Dp:R2:=fun x y H Q=>∃z i c,x=.str z/\y=.int i/\z.length<=sizeLine/\eh z.cps.toList i=some c/\Q (.str ⟨#[c]⟩) H
theorem ix_list:IxR X (Dq X.K):=by
 intro value slice pins s σ H x y v u Q I rx ry h hs;obtain ⟨p,xs,i,z,rfl,rfl,hq,he,q⟩:=h
 cases rx;obtain ⟨t,rfl⟩:=ry;obtain ⟨its,r,pl,hz⟩:=I.list hq;obtain ⟨j,h1,h2,h3,h4,h5⟩:=Gq he;obtain ⟨w,ew,rw'⟩:=r.get h2;have hl:=r.length
 have hn:=yI
 have fin:EP X pins σ Q w s:=⟨z,H,I,rw',q⟩
 by_cases h0:0<=i
 ·have hj:i.toNat=j:=by
   rw [seqIndex_of h0 h5] at h1;exact Option.some.inj h1
  exact item_listR pl.isList h0 (by omega) (by rw [hj];simpa using ew) fin hs
 ·have hj:(i+(its.toArray.size:Int)).toNat=j:=by
   rw [seqIndex_neg (by omega) h4] at h1
   rw [size_toArray,<-hl];exact Option.some.inj h1
  exact subscriptTail_builtinR (x:=w) pl.isList.typeIs slot_list_getitem.lookup
   (wpAny_getItem_list_neg (Q:=fun r s'=>r=w/\EP X pins σ Q r s') pl.isList (by omega) (by rw [size_toArray]<;>omega) (by omega) (by rw [hj];simpa using ew) ⟨rfl,fin⟩) hs
theorem ix_tup:IxR X (Do X.K):=by
 intro value slice pins s σ H x y v u Q I rx ry h hs;obtain ⟨p,xs,i,z,rfl,rfl,hq,he,q⟩:=h
 cases rx;obtain ⟨t,rfl⟩:=ry;obtain ⟨its,r,pl,hz⟩:=I.tuple hq;obtain ⟨j,h1,h2,h3,h4,h5⟩:=Gq he;obtain ⟨w,ew,rw'⟩:=r.get h2;have hl:=r.length
 have hn:=yI
 have fin:EP X pins σ Q w s:=⟨z,H,I,rw',q⟩
 exact subscriptTail_builtinR (x:=w) pl.typeIs slot_tuple_getitem.lookup
  (getItem_tuple (j:=j) (Q:=fun r s'=>r=w/\EP X pins σ Q r s') pl (by omega) (by omega) (by rw [size_toArray,<-hl];exact h1) (by simpa using ew) ⟨rfl,fin⟩) hs
theorem BB:IxR X Dp:=by
 intro value slice pins s σ H x y v u Q I rx ry h hs;obtain ⟨z,i,c,rfl,rfl,hz,he,q⟩:=h;obtain ⟨t,rfl⟩:=rx;obtain ⟨t',rfl⟩:=ry;obtain ⟨j,h1,h2,h3,h4,h5⟩:=Gq he;have hl:z.cps.toList.length=z.length:=by simp [Str.length]
 rw [hl] at h1 h4 h5
 have hn:=yI
 exact tail_any (typeIs_str s z t) slot_str_getitem.lookup (getItem_str (c:=c) (by
  have e1:decide (i < -(2 ^ 63:Int))=false:=decide_eq_false (by omega)
  have e2:decide (i≥2 ^ 63)=false:=decide_eq_false (by omega)
  rw [e1,e2,Bool.or_false]) (by rw [h1];simpa using h2) ⟨.str ⟨#[c]⟩,H,I.tok _,⟨_,rfl⟩,q⟩) hs
def AQ (K:Fg):R2:=fun x y H Q=>Dq K x y H Q\/Do K x y H Q\/Dp x y H Q
theorem El:IxR X (AQ X.K):=ix_list.or (ix_tup.or BB)
theorem oz (its:List Value) (n j:Nat) (u:Value):Obj.mapSeq (·.setIfInBounds j u) { cls:=.type "list",data:=.seq its.toArray n }={ cls:=.type "list",data:=.seq (its.set j u).toArray n }:=by
 simp [Obj.mapSeq]
theorem Inv.lst {pins:List (Addr×Obj)} {σ:St} {H:Hp} {s:Shared} {p:Addr} {xs:List V} (I:Inv X pins σ H s) (h:H p=some (.lst xs)) :
  ∃(its:List Value) (n:Nat),Vals xs its/\s.heap.get? p=some { cls:=.type "list",data:=.seq its.toArray n }/\xs.length<=sizeLine:=by
 obtain ⟨z,its,n,r,e⟩:=I.hok p _ h;exact ⟨its,n,r,e,z⟩
theorem Inv.lstUpd {pins:List (Addr×Obj)} {σ:St} {H:Hp} {s:Shared} {p:Addr} {xs ys:List V} {its its':List Value} {n n':Nat} {f:Obj->Obj} (I:Inv X pins σ H s) (h:H p=some (.lst xs))
  (ho:s.heap.get? p=some { cls:=.type "list",data:=.seq its.toArray n }) (hf:f { cls:=.type "list",data:=.seq its.toArray n }={ cls:=.type "list",data:=.seq its'.toArray n' }) (r:Vals ys its') (hz:ys.length<=sizeLine) (t:Nat) :
  Inv X pins σ (bA H p (.lst ys)) { s with heap:=s.heap.update p f,toks:=t }:=by
 have e:(s.heap.update p f).get? p=some { cls:=.type "list",data:=.seq its'.toArray n' }:=by
  rw [Heap.get?_update_self f ho (by rw [hf]<;>rfl),hf]
 refine I.write (x:=p) (e:=p) (by rw [h];trivial) (.inl rfl) (fun b u hb q=>(Heap.get?_update_other _ _ (Ne.symm hb)).trans q) ⟨_,e⟩ ?_
 exact ⟨hz,its',n',r,e⟩
def t8:V->V->V->Hp->(Hp->Prop)->Prop:=fun o i v H Q=>∃p xs k j,o=.ref p/\i=.int k/\H p=some (.lst xs)/\d9 xs.length k=some j/\Q (bA H p (.lst (xs.set j v)))
theorem tF:D8 X t8:=by
 intro pins s σ H o i v ov iv u Q I ro ri rv h;obtain ⟨p,xs,k,j,rfl,rfl,hp,hj,q⟩:=h
 cases ro;obtain ⟨t,rfl⟩:=ri;obtain ⟨its,n,r,ho,hz⟩:=I.lst hp;obtain ⟨h1,h2,h3,h4⟩:=pW hj;have hl:=r.length
 have hn:=yI
 have I':Inv X pins σ (bA H p (.lst (xs.set j v))) { s with heap:=s.heap.update p (Obj.mapSeq (·.setIfInBounds j u)) }:=
  I.lstUpd hp ho (oz its n j u) (r.set rv j) (by rw [length_set];exact hz) s.toks
 by_cases h0:0<=k
 ·have hk:k.toNat=j:=by
   rw [seqIndex_of h0 h4] at h1;exact Option.some.inj h1
  exact PySem.W.ki_setAt ho h0 (by omega) (by rw [size_toArray,<-hl];exact h4) (by rw [hk];exact ⟨_,I',q⟩)
 ·have hk:(k+(its.toArray.size:Int)).toNat=j:=by
   rw [seqIndex_neg (by omega) h3] at h1
   rw [size_toArray,<-hl];exact Option.some.inj h1
  exact PySem.W.ki_setBack ho (by omega) (by rw [size_toArray,<-hl];exact h3) (by omega) (by rw [hk];exact ⟨_,I',q⟩)
theorem kn (lo hi:Option Int) (n:Nat):(sliceBounds lo hi none n).1=((HT.sIx n 0 lo:Nat):Int)/\(sliceBounds lo hi none n).2.1=((HT.sIx n n hi:Nat):Int)/\(sliceBounds lo hi none n).2.2=1:=by
 refine ⟨?_,?_,rfl⟩
 ·cases lo with
  | none=>simp [sliceBounds,HT.sIx]
  | some i=>
   simp only [sliceBounds,HT.sIx,Option.getD_none,show (1:Int)>0 by decide,if_true]
   by_cases h:i<0
   ·simp only [h,if_true]<;>omega
   ·simp only [h,if_false]<;>omega
 ·cases hi with
  | none=>simp [sliceBounds,HT.sIx]
  | some i=>
   simp only [sliceBounds,HT.sIx,Option.getD_none,show (1:Int)>0 by decide,if_true]
   by_cases h:i<0
   ·simp only [h,if_true]<;>omega
   ·simp only [h,if_false]<;>omega
theorem je (its:List Value) (lo hi:Option Int):slicePick its.toArray lo hi none=((its.drop (HT.sIx its.length 0 lo)).take (HT.sIx its.length its.length hi-HT.sIx its.length 0 lo)).toArray:=by
 obtain ⟨h1,h2,h3⟩:=kn lo hi its.toArray.size;unfold slicePick;rw [h1,h2,h3];simp only [sliceRange_one,pick_run,size_toArray]<;>rfl
def AN (K:Fg):V->Option Int->Option Int->Hp->VK->Prop:=fun x lo hi H Q=>∃a xs,x=.ref a/\SqL K H a xs/\∀p,H p=none->Q (.ref p) (bA H p (.lst (jA xs lo hi)))
theorem pA:Jf X (AN X.K):=by
 intro pins s σ H x v vl vu lo hi sl Q I rx hs pl pu h;obtain ⟨a,xs,rfl,hx,q⟩:=h
 cases rx;obtain ⟨its,r,ht,hz⟩:=I.list hx;have hlen:=r.length
 refine ⟨"list",_,slot_list_getitem.lookup,ht.isList.typeIs,?_⟩
 refine wpAny_getItem_list_slice ht.isList hs pl pu .none (by simp) ?_ (by rw [size_toArray]<;>omega)
 rw [je,<-hlen];refine ⟨.ref s.heap.objs.size,_,I.laid (t':=s.toks) (o:=.lst (jA xs lo hi)) (fun b ob q=>Heap.get?_push_of_some _ q) (Nat.le_refl _) ?_,rfl,q _ (I.hok.fresh (Nat.le_refl _))⟩
 exact ⟨Nat.le_trans (gM xs lo hi) hz,_,0,(r.drop (HT.sIx xs.length 0 lo)).take (HT.sIx xs.length xs.length hi-HT.sIx xs.length 0 lo),Heap.get?_push_size _ rfl⟩
theorem call_len_seq:CallR X (.builtin "len") (fun xs H Q=>∃p ys,xs=[.ref p]/\(SqL X.K H p ys\/SqT X.K H p ys)/\Q (.int ys.length) H):=by
 intro pins s σ H xs us Q I r h;obtain ⟨p,ys,rfl,hq,q⟩:=h;obtain ⟨u,rfl,rx⟩:=vals1 r
 cases rx;have hn:=yI
 rcases hq with hq | hq
 ·obtain ⟨its,r',pl,hz⟩:=I.list hq
  have hlen:=r'.length
  exact Calls.call_len_list pl.isList (by simp only [size_toArray]<;>omega) ⟨.int ys.length,H,I.tok _,⟨s.toks+1,by rw [size_toArray,hlen]⟩,q⟩
 ·obtain ⟨its,r',pl,hz⟩:=I.tuple hq
  have hlen:=r'.length
  exact len_tuple pl (by simp only [size_toArray]<;>omega) ⟨.int ys.length,H,I.tok _,⟨s.toks+1,by rw [size_toArray,hlen]⟩,q⟩
theorem lx:CallR X (.builtin "len") (fun xs H Q=>∃z,xs=[.str z]/\z.length<=sizeLine/\Q (.int z.length) H):=by
 intro pins s σ H xs us Q I r h;obtain ⟨z,rfl,hz,q⟩:=h;obtain ⟨u,rfl,t,rfl⟩:=vals1 r;have hn:=yI
 exact len_str (by omega) ⟨.int z.length,H,I.tok _,⟨_,rfl⟩,q⟩
theorem CallR.or {f:Value} {r r':List V->Hp->VK->Prop} (h:CallR X f r) (h':CallR X f r'):CallR X f (fun xs H Q=>r xs H Q\/r' xs H Q):=by
 intro pins s σ H xs us Q I rs q;rcases q with q | q
 ·exact h pins s σ H xs us Q I rs q
 ·exact h' pins s σ H xs us Q I rs q
theorem lu:CallR X (.type "list") (fun xs H Q=>∃p ys,xs=[.ref p]/\(SqL X.K H p ys\/SqT X.K H p ys)/\∀l,H l=none->Q (.ref l) (bA H l (.lst ys))):=by
 intro pins s σ H xs us Q I r h;obtain ⟨p,ys,rfl,hq,q⟩:=h;obtain ⟨u,rfl,rx⟩:=vals1 r
 cases rx;have fin:∀(its:List Value),Vals ys its->ys.length<=sizeLine->∀(h':Heap) (c':Nat),(∀b o',s.heap.get? b=some o'->h'.get? b=some o') ->
   h'.get? s.heap.objs.size=some { cls:=.type "list",dict:=none,data:=.seq its.toArray c',slots:=#[] }->EP X pins σ Q (.ref s.heap.objs.size) { s with heap:=h' }:=fun its r' hz h' c' kp e=>
  ⟨.ref s.heap.objs.size,_,I.laid (t':=s.toks) kp (Nat.le_refl _) (show ObjOk X.prog X.w _ h' _ (.lst ys) from ⟨hz,its,c',r',e⟩),rfl,q _ (I.hok.fresh (Nat.le_refl _))⟩
 rcases hq with hq | hq
 ·obtain ⟨its,r',pl,hz⟩:=I.list hq
  have hlen:=r'.length
  obtain ⟨o,ho,hc,n,hd⟩:=pl.isList;exact call_list_seq p (.inl rfl) ho hc hd (fun h' c' kp e=>fin its r' hz h' c' kp e) (by simp only [size_toArray]<;>omega)
 ·obtain ⟨its,r',pl,hz⟩:=I.tuple hq
  have hlen:=r'.length
  obtain ⟨o,ho,hc,n,hd⟩:=pl;exact call_list_seq p (.inr rfl) ho hc hd (fun h' c' kp e=>fin its r' hz h' c' kp e) (by simp only [size_toArray]<;>omega)
def HQ (K:Fg) (T:String) (x:V) (H:Hp):Prop:=match x with
 | .str _=>T = "str"
 | .int _=>T = "int"
 | .ref p=>(T = "list"/\∃xs,SqL K H p xs)\/(T = "tuple"/\∃o,K.lookup p=some o/\o.cls=.type "tuple"/\o.dict=none) \/
   (T = "dict"/\((∃kvs,H p=some (.dK kvs))\/∃kvs,H p=some (.dT kvs)))\/(T = "set"/\∃S n,H p=some (.set S n))
 | _=>False
theorem sZ {pins:List (Addr×Obj)} {σ:St} {H:Hp} {s:Shared} {T:String} {x:V} {v:Value} (I:Inv X pins σ H s) (r:RelV x v) (ty:HQ X.K T x H) :
  s.TypeIs v T/\∀a,v=.ref a->∃ob,s.heap.get? a=some ob/\ob.dict=none:=by
 cases x with
 | str z=>
  obtain ⟨t,rfl⟩:=r
  cases (show T = "str" from ty)
  exact ⟨typeIs_str s z t,fun _ e=>nomatch e⟩
 | int i=>
  obtain ⟨t,rfl⟩:=r
  cases (show T = "int" from ty)
  exact ⟨typeIs_int s i t,fun _ e=>nomatch e⟩
 | ref p=>
  cases r;rcases ty with ⟨rfl,xs,hq⟩ | ⟨rfl,o,hk,hc,hd⟩ | ⟨rfl,hk⟩ | ⟨rfl,S,n,hk⟩
  ·obtain ⟨its,_,pl,_⟩:=I.list hq
   refine ⟨pl.isList.typeIs,fun a e=>?_⟩
   cases e;obtain ⟨o,n,e,c,hd,_⟩:=pl;exact ⟨o,e,hd⟩
  ·refine ⟨⟨o,I.kIn p o hk,hc⟩,fun a e=>?_⟩
   cases e;exact ⟨o,I.kIn _ o hk,hd⟩
  ·have z:∃o,s.heap.get? p=some o/\o.ExactDict:=by
    rcases hk with ⟨kvs,hk⟩ | ⟨kvs,hk⟩
    ·obtain ⟨_,_,_,_,o,_,_,e,ex,_⟩:=I.hok p _ hk
     exact ⟨o,e,ex⟩
    ·obtain ⟨_,_,_,_,o,_,_,e,ex,_⟩:=I.hok p _ hk
     exact ⟨o,e,ex⟩
   obtain ⟨o,e,ex⟩:=z;refine ⟨⟨o,e,ex.1⟩,fun a e2=>?_⟩
   cases e2;exact ⟨o,e,ex.2.1⟩
  ·obtain ⟨o,_,_,_,e,ex,_⟩:=I.hok p _ hk
   refine ⟨⟨o,e,ex.1⟩,fun a e2=>?_⟩
   cases e2;exact ⟨o,e,ex.2.1⟩
 | _=>exact False.elim ty
def C6 (K:Fg) (T:String) (r:V->List V->Hp->VK->Prop) (to:TE):TE:=fun σ H Q=>to σ H fun x H1=>HQ K T x H1/\r x [] H1 Q
def Ab (K:Fg) (T:String) (r:V->List V->Hp->VK->Prop) (to:TE) (t:TA):TE:=fun σ H Q=>to σ H fun x H1=>HQ K T x H1/\t σ H1 fun xs H2=>r x xs H2 Q
variable {o e:Expr} {es:List Expr} {to:TE} {t:TA} {name:Str} {apos cpos:Pos} {T id:String} {r:V->List V->Hp->VK->Prop}
theorem A8 (pa:PlainAttrs T) (slot:Slot T name id) (hty:typeOf (.builtin id)=pure (.type "method_descriptor")) (hm:F5 X id r) (ho:PE X o to)
  (hbase:attributeBase o name X.env (eval o X.env)=eval o X.env:=by rfl) (hline:(apos.endLine==cpos.line)=true:=by rfl):PE X (.Call (.Attribute o name apos) [] [] cpos) (C6 X.K T r to):=by
 intro pins s σ H Q I h;refine wpAny_Call_method0_late hbase hline (bB (ho pins s σ H _ I h) fun v s1 ⟨x,H1,I1,r1,ty,q1⟩=>?_)
 obtain ⟨h1,h2⟩:=sZ I1 r1 ty;exact ⟨T,id,pa,slot,hty,h1,h2,Calls.callWith_builtin rfl (PySem.evalArgs_none (hm pins s1 σ H1 x [] v [] Q I1 r1 .nil q1))⟩
theorem mx (pa:PlainAttrs T) (slot:Slot T name id) (hty:typeOf (.builtin id)=pure (.type "method_descriptor")) (hm:F5 X id r) (ho:PE X o to) (ha:PA X (e::es) t)
  (hbase:attributeBase o name X.env (eval o X.env)=eval o X.env:=by rfl)
  (hfew:((backTo cpos (starEach (e::es) X.env)).all (fun x=>!x.1)&&(backToKw cpos (keywordEach [] X.env)).all (fun x=>x.1.isSome)
   && decide ((e::es).length+([]:List Keyword).length+(if ([]:List Keyword).isEmpty then 0 else 1)<30))=true:=by rfl)
  (hline:(apos.endLine==cpos.line)=true:=by rfl) (hs:starEach (e::es) X.env=(false,eval e X.env)::starEach es X.env:=by rfl) (hplain:(backTo cpos (starEach es X.env)).any (·.1)=false:=by rfl) :
  PE X (.Call (.Attribute o name apos) (e::es) [] cpos) (Ab X.K T r to t):=by
 intro pins s σ H Q I h;refine wpAny_Call_method_late hbase hfew hline rfl (bB (ho pins s σ H _ I h) fun v s1 ⟨x,H1,I1,r1,ty,q1⟩=>?_)
 obtain ⟨h1,h2⟩:=sZ I1 r1 ty;refine ⟨T,id,pa,slot,hty,h1,h2,?_⟩
 have hA:=ha cpos pins s1 σ H1 _ I1 q1
 rw [hs] at hA ⊢;refine Calls.callWith_builtin (by show (false||(backTo cpos (starEach es X.env)).any (·.1))=false;rw [hplain]<;>rfl) (Calls.evalArgs_plain ?_)
 exact bB hA fun us s2 ⟨vs,H2,I2,r2,q2⟩=>hm pins s2 σ H2 x vs v us Q I2 r1 r2 q2
end
def Jh (X:Cx) (id:String) (r:V->List V->Hp->VK->Prop):Prop:=
 ∀(pins:List (Addr×Obj)) (s:Shared) (σ:St) (H:Hp) (x:V) (xs:List V) (v:Value) (us:List Value) (Q:VK),Inv X pins σ H s->RelV x v->Vals xs us->r x xs H Q ->
  wpAny (model X.prog X.w) X.A (call (.builtin id) (v::us)) (EP X pins σ Q) X.xe s
theorem Vals.one:∀{x:V} {us:List Value},Vals [x] us->∃u,us=[u]/\RelV x u
 | _,_,.cons r .nil=>⟨_,rfl,r⟩
theorem Vals.zero:∀{us:List Value},Vals [] us->us=[]
 | _,.nil=>rfl
theorem Vals.dropLast {xs:List V} {us:List Value} (h:Vals xs us):Vals xs.dropLast us.dropLast:=by
 induction h with
 | nil=>exact .nil
 | cons r t ih=>
  cases t with
  | nil=>exact .nil
  | cons q t'=>exact .cons r ih
theorem oJ {α:Type} (l:List α):l.eraseIdx (l.length-1)=l.dropLast:=by
 induction l with
 | nil=>rfl
 | cons a r ih=>
  cases r with
  | nil=>rfl
  | cons b r=>
   have e:(a::b::r).length-1=((b::r).length-1)+1:=by
    have h1:(a::b::r).length=r.length+2:=rfl
    have h2:(b::r).length=r.length+1:=rfl
    omega
   rw [e,List.eraseIdx_cons_succ,ih];all_goals rfl
section
variable {X:Cx} {pins:List (Addr×Obj)} {σ:St} {H:Hp} {s:Shared} {l b:Addr} {xs ys zs:List V}
theorem Inv.lset {its its':List Value} {n:Nat} {f:Array Value->Array Value} {t':Nat} (I:Inv X pins σ H s) (hH:H l=some (.lst xs))
  (e:s.heap.get? l=some { cls:=.type "list",data:=.seq its.toArray n }) (hf:f its.toArray=its'.toArray) (hv:Vals ys its') (hz:ys.length<=sizeLine) :
  Inv X pins σ (bA H l (.lst ys)) { s with heap:=s.heap.update l (Obj.mapSeq f),toks:=t' }:=by
 have q:=PySem.IsL.update e f
 rw [hf] at q;refine I.write (x:=l) (e:=l) (by rw [hH];exact trivial) (.inl rfl) (fun b' u hb hu=>(Heap.get?_update_other s.heap (Obj.mapSeq f) (Ne.symm hb)).trans hu) ⟨_,q⟩ ?_
 exact ⟨hz,its',_,hv,q⟩
theorem Inv.lnew {its:List Value} {t':Nat} (I:Inv X pins σ H s) (hv:Vals ys its) (hz:ys.length<=sizeLine) :
  Inv X pins σ (bA H s.heap.objs.size (.lst ys)) { s with heap:=s.heap.push { cls:=.type "list",data:=.seq its.toArray },toks:=t' }:=
 I.laid (fun _ _ q=>Heap.get?_push_of_some _ q) (Nat.le_refl _) ⟨hz,its,0,hv,Heap.get?_push_size _ rfl⟩
theorem Inv.fresh (I:Inv X pins σ H s):H s.heap.objs.size=none:=I.hok.fresh (Nat.le_refl _)
theorem Inv.lstM (I:Inv X pins σ H s) (hH:H l=some (.lst xs)):xs.length<=sizeLine/\∃(its:List Value) (n:Nat),Vals xs its/\xs.length=its.length/\s.heap.get? l=some { cls:=.type "list",data:=.seq its.toArray n }:=by
 obtain ⟨z,its,n,r,e⟩:=I.hok l _ hH;exact ⟨z,its,n,r,r.length,e⟩
theorem uL {n:Nat} (h:n<=sizeLine):Builtin.List.listTooLong n=false:=by
 unfold Builtin.List.listTooLong;exact decide_eq_false (by omega)
end
section
variable {X:Cx}
def Ew:V->List V->Hp->VK->Prop:=fun x vs H Q=>∃l xs y,x=.ref l/\vs=[y]/\H l=some (.lst xs)/\xs.length<sizeLine/\Q .non (bA H l (.lst (xs++[y])))
theorem Hr:Jh X "list.append" Ew:=by
 intro pins s σ H x vs v us Q I rx rv h;obtain ⟨l,xs,y,rfl,rfl,hH,hz,q⟩:=h
 cases rx;obtain ⟨u,rfl,ru⟩:=rv.one;obtain ⟨z,its,n,r,hl,e⟩:=I.lstM hH;refine call_meets F.slot_list_append ⟨_,e,rfl⟩ F.entry_list_append (F.args_list_append_2 _ _) (PySem.list_append l its.toArray n u (by rw [size_toArray];omega)) ⟨e,?_⟩
 refine ⟨.non,_,I.lset (its':=its++[u]) hH e (by simp) (r.append (.cons ru .nil)) ?_,rfl,q⟩
 rw [length_append,length_singleton];omega
def Dm:V->List V->Hp->VK->Prop:=fun x vs H Q=>∃l xs y,x=.ref l/\vs=[]/\H l=some (.lst xs)/\xs[xs.length-1]?=some y/\Q y (bA H l (.lst xs.dropLast))
theorem Bp:Jh X "list.pop" Dm:=by
 intro pins s σ H x vs v us Q I rx rv h;obtain ⟨l,xs,y,rfl,rfl,hH,hy,q⟩:=h
 cases rx;have hus:=rv.zero
 subst hus;obtain ⟨z,its,n,r,hl,e⟩:=I.lstM hH;obtain ⟨u,hu,ru⟩:=r.get hy;have hy':its.toArray[its.toArray.size-1]?=some u:=by
  show its.toArray[its.length-1]?=some u
  rw [<-Array.getElem?_toList,<-hl];exact hu
 refine call_meets F.slot_list_pop ⟨_,e,rfl⟩ F.entry_list_pop (F.args_list_pop_1 _) (MeetsSeq.list_pop_last l its.toArray n u hy' (by rw [size_toArray];omega)) ⟨e,?_⟩
 refine ⟨y,_,I.lset (its':=its.dropLast) hH e ?_ r.dropLast ?_,ru,q⟩
 ·show its.toArray.eraseIdxIfInBounds (its.toArray.size-1)=its.dropLast.toArray
  rw [size_toArray,List.eraseIdxIfInBounds_toArray,oJ]
 ·rw [List.length_dropLast]
  omega
end
section
variable {prog:Program} {w:World} {A:Around} {E:Value->Shared->Prop} {s:Shared}
set_option maxRecDepth 100000 in
end
end L2
namespace Att
open PySem PySem.W PySem.Calls PyProof.Rows
theorem g9 {P:Params} {h:Heap}:∀(ns:List Int) (vs:List Value),WellAll P h vs (ns.map WData.int)->IntsAre vs ns:=by
 intro ns;induction ns with
 | nil=>
  intro vs w;rw [map_nil] at w
  cases w;exact .nil
 | cons n ns ih=>
  intro vs w;rw [map_cons] at w
  cases w with
  | cons a b=>
   cases a;exact .cons _ _ (ih _ b)
theorem qx {l:OpenLaw} {n:Nat} (hn:l.most=some n) {P:Params} {h:Heap} {args:List WData} {vals:List Value}
  (hpre:l.row.toRowW.claim.pre args=true) (hwl:WellAll P h vals args) :
  ∃a vs ns,vals=[Value.ref a]/\args=[WData.list (ns.map WData.int)]/\h.get? a=some { cls:=.type "list",data:=.seq vs.toArray }/\IntsAre vs ns/\ns.length<=n:=by
 have hsh:WShape.hasAll [] args [.list .int]=true:=(pre_splitW hpre).1
 have hc:l.pre.holds [] { args:=args }=true:=(pre_splitW hpre).2
 obtain ⟨d,r,rfl,h1,h2⟩:=hasAllW_cons hsh;obtain rfl:=hasAllW_nil h2
 obtain ⟨xs,rfl,h3⟩:=hasW_list h1;obtain ⟨ns,rfl⟩:=items_int h3;have hlen:ns.length<=n:=by
  unfold OpenLaw.pre at hc;have h4:(WTm.not (.lt (.lit (.int (n:Int))) (.len (.arg 0)))).holds [] { args:=[.list (ns.map .int)] }=true:=by
   have h4:=(holds_andW hc).1
   rw [hn] at h4;exact h4
  have h5:=condW_of h4 (w_not (w_lt w_lit (w_len_list (w_arg rfl))))
  rw [length_map] at h5;refine Nat.le_of_not_lt fun q=>?_
  have q':(n:Int)<((ns.length:Nat):Int):=by omega
  first
   | (rw [decide_eq_true q'] at h5;exact absurd h5 (by decide))
   | (simp at h5;omega)
 cases hwl with
 | cons w1 w2=>
  cases w2
  cases w1 with
  | list ho hall=>exact ⟨_,_,ns,rfl,rfl,ho,g9 ns _ hall,hlen⟩
theorem qL (l:OpenLaw) (args:List WData):l.row.toRowW.claim.post args (.bool true) args=true:=
 postW_of (r:=l.row.toRowW) (X:=(true==true))
  (show WShape.has [] (.bool true) .bool=true by first | rfl | decide | simp [WShape.has,WShape.arms,WShape.armsAll])
  (show (WTm.eq .res (.lit (.bool true))).value [] { args:=args,res:=some (.bool true),after:=args }=some (.bool (true==true)) from w_eq_bool (w_res rfl) w_lit) rfl
theorem attach_call {l:OpenLaw} {n:Nat} {q:Program} {loose:List Str} {XP:(Str->Option Value)->Heap->Prop} {YP:World->Heap->Prop} {d:DefRec}
  (hn:l.most=some n) (hdf:d.params.defaults=[])
  (call:∀(w:World) (s₀ s₁:Shared) (mg mb:Str->Option Value) (fa:Addr) (o:Obj) (pm cd doc:Value) (a:Addr) (vs:List Value) (ns:List Int),
   Ground q loose [] XP w s₀ mg mb s₁.heap->YP w s₁.heap ->
   s₁.heap.get? fa=some o->o.data=.func (docDef d.name d.params d.body d.scope pm cd doc)->s₁.heap.CodeRec cd d.name->mg d.name=some (.ref fa) ->
   s₁.heap.get? a=some { cls:=.type "list",data:=.seq vs.toArray }->IntsAre vs ns->ns.length<=n->s₁.gens=#[] ->
   codeAny (model l.prog w) callerA (.call (.ref fa) ⟨[.ref a],[]⟩) (fun r s'=>r=.ok (.ret (.bool true))/\OldK s₁.heap s'.heap/\s'.os=s₁.os/\AllBare s'.gens) s₁) :
  WalkO q loose XP YP l.row.toRowW d [] (fun f vs=>PySem.call f vs):=by
 intro w s₀ s₁ mg mb G Y fa o pm cd doc dV kV ho hd hcd hD hmg hg args vals as hpre hlay hrd hwl hlo;obtain rfl:dV=.none:=Dflts.none hD hdf
 obtain rfl:kV=.none:=Dflts.noKw hD
 obtain ⟨a,vs,ns,rfl,rfl,hobj,hints,hlen⟩:=qx hn hpre hwl;refine enter_call (codeAny_mono (call w s₀ s₁ mg mb fa o pm cd doc a vs ns G Y ho (fd_plain hd) hcd hmg hobj hints hlen hg) fun r s' hq=>?_)
 obtain ⟨rfl,h2,h3,h4⟩:=hq;exact ⟨.inl ⟨.bool true,.bool true,[],rfl,fun _=>rfl,.bool true,qL l _,fun _=>⟨List.Pairwise.nil,fun _ hm=>(nomatch hm)⟩⟩,h2,h3,h4⟩
end Att
namespace L2
open PySem PySem.Spec PyProof.Rows
theorem jH:∀{vs:List Value} {ns:List Int},IntsAre vs ns->Vals (ns.map V.int) vs
 | _,_,.nil=>.nil
 | _,_,.cons n t h=>.cons ⟨t,rfl⟩ (jH h)
def Cf (H:Hp):Prop:=∀b,H b=none\/∃o xs,H b=some (.frz o (.lst xs))
theorem uT {P:Program} {w:World} {K:Fg} {mg mb:Str->Option Value} {CX:vM} {k:Nat} {fa a:Addr} {fd:FuncData} {x:Str} {sp:Sp} {s₁:Shared} {vs:List Value} {ns:List Int}
  (KX:K.In s₁.heap) (hns:s₁.heap.Ns mainGlobals mg) (hb:s₁.heap.Ns builtinsNs mb) (hbb:∀x:Str,x ≠ "__name__"->mb x=bootBuiltins x) (hlim:s₁.heap.NoLimit) (hg:s₁.gens=#[])
  (ha:s₁.heap.get? a=some { cls:=.type "list",data:=.seq vs.toArray }) (hi:IntsAre vs ns) (hl:ns.length<=sizeLine) (hr:Room k callerA)
  (F:∀base:Heap,K.In base->base.Ns mainGlobals mg->eR P w K mg base CX k fa fd [x] sp) (hbind:∀(s:Shared) (u:Value),BindsTo s fd ⟨[u],[]⟩ [(x,u)])
  (hsp:∀H:Hp,Cf H->SqL K H a (ns.map V.int)->sp [.ref a] H (fun v _=>v=.bl true) fun _ _ _=>False)
  (hCX:∀H e s',CX [] H s₁ (fun _ _ _=>False) e s'->False) :
  codeAny (model P w) callerA (.call (.ref fa) ⟨[.ref a],[]⟩) (fun r s'=>r=.ok (.ret (.bool true))/\OldK s₁.heap s'.heap/\s'.os=s₁.os/\AllBare s'.gens) s₁:=by
 have rv:=jH hi
 have lenV:=hi.length
 have core:∀H:Hp,Cf H->SqL K H a (ns.map V.int)->HOk P w H s₁.heap->(∀b,H b≠none->b=a)->(H a≠none->K.lookup a=none) ->
   codeAny (model P w) callerA (.call (.ref fa) ⟨[.ref a],[]⟩) (fun r s'=>r=.ok (.ret (.bool true))/\OldK s₁.heap s'.heap/\s'.os=s₁.os/\AllBare s'.gens) s₁:=by
  intro H hO hS hok hA hK;have base_of:∀{b:Addr} {o:Obj},s₁.heap.get? b=some o->H b=none->(kS s₁.heap H).get? b=some o:=fun e n=>u3 e n
  have noA:∀{b:Addr} {o:Obj} {es:Array DictEntry} {ep:Nat},s₁.heap.get? b=some o->o.data=.dict es ep->H b=none:=fun {b o es ep} e d=>by
   cases q:H b with
   | none=>rfl
   | some u=>
    have e':b=a:=hA b (by rw [q];simp)
    subst e'
    rw [ha] at e;cases e;have d':Data.seq vs.toArray _=Data.dict es ep:=d
    cases d'
  have nsK:∀{b:Addr} {m:Str->Option Value},s₁.heap.Ns b m->(kS s₁.heap H).Ns b m:=fun {b m} ⟨o,es,ep,e,d,r⟩=>⟨o,es,ep,base_of e (noA e d),d,r⟩
  have hKb:K.In (kS s₁.heap H):=fun b o e=>base_of (KX b o e) (by
   cases q:H b with
   | none=>rfl
   | some u=>
    have e':b=a:=hA b (by rw [q];simp)
    subst e'
    rw [hK (by rw [q];simp)] at e;cases e)
  have hM:Mod K mg (kS s₁.heap H):=⟨hKb,nsK hns,⟨mb,nsK hb,hbb⟩,let ⟨mc,h1,h2⟩:=hlim;⟨mc,nsK h1,h2⟩⟩
  have e0:yE P w K mg (kS s₁.heap H) callerA [] s₁ H:=⟨rfl,hM,fun b o e=>xE e,Nat.le_of_eq (rE _ _),trivial,fun b hb=>absurd (show b∈([]:List Addr) from hb) (by simp),hok,.of_eq hg⟩
  refine codeAny_mono ((F _ hKb (nsK hns)).run callerA [] s₁ H ⟨[.ref a],[]⟩ [.ref a] [.ref a] _ _ hr e0 (hbind s₁ (.ref a)) (.cons rfl .nil) (hsp H hO hS)) fun r s' h=>?_
  cases r with
  | error e=>exact (hCX H e s' h).elim
  | ok fl=>
   cases fl with
   | next=>exact False.elim h
   | brk=>exact False.elim h
   | cont=>exact False.elim h
   | ret u=>
    obtain ⟨v,H',os,bare,un,hok',r',q⟩:=h;have q':v=.bl true:=q
    subst q'
    obtain rfl:u=Value.bool true:=r'
    refine ⟨rfl,OldK.of_keep fun b o e=>?_,os,bare⟩
    cases q:H b with
    | none=>exact un.keep b o e q (by intro z;exact absurd (show b∈([]:List Addr) from z) (by simp)) (by simp)
    | some u=>
     rcases hO b with z | ⟨ob,xs,z⟩
     ·rw [q] at z;cases z
     ·have z2:=un.frzs b ob _ z
      obtain ⟨e1,_⟩:=hok b _ z;obtain ⟨e2,_⟩:=hok' b _ z2
      rw [e] at e1;cases e1;exact e2
 cases hk:K.lookup a with
 | some o=>
  have e:=KX a o hk
  rw [ha] at e
  cases e;refine core (fun _=>none) (fun _=>.inl rfl) (.inr ⟨_,vs.toArray,_,hk,rfl,rfl,rfl,by rw [size_toArray,lenV];exact hl,by simpa using rv⟩) (fun b u z=>by have z':(none:Option HO)=some u:=z;cases z') (fun b z=>absurd rfl z) fun z=>absurd rfl z
 | none=>
  refine core (fun b=>if b=a then some (.frz { cls:=.type "list",data:=.seq vs.toArray } (.lst (ns.map V.int))) else none) (fun b=>?_) (.inl (.inr ⟨{ cls:=.type "list",data:=.seq vs.toArray },if_pos rfl⟩)) (fun b u z=>?_) (fun b z=>?_) fun _=>hk
  ·by_cases hb:b=a
   ·exact .inr ⟨_,_,if_pos hb⟩
   ·exact .inl (if_neg hb)
  ·by_cases hb:b=a
   ·have z':=(if_pos hb).symm.trans z
    cases z'
    subst hb;exact ⟨ha,by rw [length_map];exact hl,vs,_,rv,ha⟩
   ·have z':=(if_neg hb).symm.trans z
    cases z'
  ·by_cases hb:b=a
   ·exact hb
   ·exact absurd (if_neg hb) z
theorem walk_of {l:PySem.W.OpenLaw} {n k:Nat} {q:Program} {loose:List Str} {XP:(Str->Option Value)->Heap->Prop} {YP:World->Heap->Prop} {d:DefRec} {K:Params->Fg} {CX:World->vM} {sp:World->Sp} {x:Str}
  (hn:l.most=some n) (hn2:n<=sizeLine) (hdf:d.params.defaults=[]) (hr:Room k callerA)
  (hY:∀(w:World) (h:Heap),YP w h->(K w.params).In h)
  (F:∀(w:World) (mg:Str->Option Value) (fa:Addr) (h:Heap),(K w.params).In h->h.Ns mainGlobals mg->mg d.name=some (.ref fa) ->
   ∃fd:FuncData,(∀(s:Shared) (u:Value),BindsTo s fd ⟨[u],[]⟩ [(x,u)]) /\
    ∀base:Heap,(K w.params).In base->base.Ns mainGlobals mg->eR l.prog w (K w.params) mg base (CX w) k fa fd [x] (sp w))
  (hsp:∀(w:World) (H:Hp) (a:Addr) (ns:List Int),ns.length<=n->Cf H->SqL (K w.params) H a (ns.map V.int)->sp w [.ref a] H (fun v _=>v=.bl true) fun _ _ _=>False)
  (hCX:∀(w:World) (H:Hp) (s:Shared) (e:Value) (s':Shared),CX w [] H s (fun _ _ _=>False) e s'->False) :
  PySem.W.WalkO q loose XP YP l.row.toRowW d [] (fun f vs=>PySem.call f vs):=by
 refine Att.attach_call hn hdf fun w s₀ s₁ mg mb fa o pm cd doc a vs ns G Y ho hd hcd hmg hobj hints hlen hg=>?_
 have KX:=hY w _ Y
 obtain ⟨fd,hb,hF⟩:=F w mg fa _ KX G.T.g hmg;exact uT KX G.T.g G.T.b G.T.builtins G.T.nolimit hg hobj hints (Nat.le_trans hlen hn2) hr hF hb (fun H hO hS=>hsp w H a ns hlen hO hS) fun H e s'=>hCX w H s₁ e s'
def Co (s:Stmt):Arguments:=match s with
 | .FunctionDef _ a _ _ _ _ _ _ _ _=>a
 | _=>{ posonlyargs:=[],args:=[],vararg:=none,kwonlyargs:=[],kw_defaults:=[],kwarg:=none,defaults:=[] }
def nV (s:Stmt):List Stmt:=match s with
 | .FunctionDef _ _ b _ _ _ _ _ _ _=>b
 | _=>[]
def fD (s:Stmt):Scope:=match s with
 | .FunctionDef _ _ _ _ _ _ sc _ _ _=>sc
 | _=>{ kind:=.function,names:=[],isGenerator:=false,isCoroutine:=false }
abbrev nP:vM:=fun _ _ _ _ _ _=>False
abbrev E0:XK:=fun _ _ _=>False
theorem uD {X:Cx}:F9 nP X E0:=fun _ _ _ _ _ _ _ h=>h.elim
structure Fun (K:Fg) (x qual:Str) (st:Stmt) (f:Addr) (fd:FuncData):Prop where
 ex:∃(oc:Value) (od:Option Addr) (kV doc pm:Value) (an:Option Addr) (cdv ct:Value) (osl:Array (Option Value)),
  fd=PySem.W.fnOf x qual (Co st) (nV st) (fD st) .none kV doc pm an cdv ct/\K.lookup f=some ⟨oc,od,.func fd,osl⟩/\PySem.W.codeIn K cdv qual=true
 kp:PySem.W.keepIn K (.ref f)=true
section
variable {P:Program} {w:World} {K:Fg} {mg:Str->Option Value} {base:Heap}
theorem Fun.ok {x qual:Str} {st:Stmt} {f:Addr} {fd:FuncData} {N ps:List Str} {k:Nat} {sp:Sp} (F:Fun K x qual st f fd) (S:cB N ps (fD st)) (len:∀vs H Q E,sp vs H Q E->vs.length=ps.length)
  (hbody:∀(cdv:Value) (A:Around) (outer:List Env) (s:Shared) (H:Hp) (vs:List V) (Q:VK) (E:XK),Room k (A.deeper (envOfC qual (fD st) s.heap.objs.size f cdv))->sp vs H Q E ->
   ∃t,PSs (nG nP P w K mg base N qual (fD st) f cdv A outer s H E).nox (nV st) t/\t { nx:=fun _ H'=>Q .non H',rt:=Q } (start N vs) H):eR P w K mg base nP (k+1) f fd ps sp:=by
 obtain ⟨oc,od,kV,doc,pm,an,cdv,ct,osl,rfl,lk,hcd⟩:=F.ex;refine DN lk hcd S len fun A outer s H vs Q E hr hsp=>?_
 obtain ⟨t,h,q⟩:=hbody cdv A outer s H vs Q E hr hsp;exact ⟨t,h.nox,q⟩
theorem Fun.binds {x qual:Str} {st:Stmt} {f:Addr} {fd:FuncData} {ps:List Str} (F:Fun K x qual st f fd)
  (h:∀(kV doc pm:Value) (an:Option Addr) (cdv ct:Value) (us:List Value),us.length=ps.length->bindArgs (PySem.W.fnOf x qual (Co st) (nV st) (fD st) .none kV doc pm an cdv ct) ⟨us,[]⟩=pure (ps.zip us)):Binds K fd ps []:=by
 obtain ⟨oc,od,kV,doc,pm,an,cdv,ct,osl,rfl,lk,hcd⟩:=F.ex;exact .all (h kV doc pm an cdv ct)
theorem BS {x qual:Str} {st:Stmt} {f:Addr} {oc:Value} {od an:Option Addr} {osl:Array (Option Value)} {kV doc pm cdv ct:Value} (l:K.lookup f=some ⟨oc,od,.func (PySem.W.fnOf x qual (Co st) (nV st) (fD st) .none kV doc pm an cdv ct),osl⟩)
  (c:PySem.W.codeIn K cdv qual=true) (k:PySem.W.keepIn K (.ref f)=true):Fun K x qual st f (PySem.W.fnOf x qual (Co st) (nV st) (fD st) .none kV doc pm an cdv ct):=⟨⟨oc,od,kV,doc,pm,an,cdv,ct,osl,rfl,l,c⟩,k⟩
end
theorem jK {n:Nat} (h:n<=1000):n<sizeLine:=Nat.lt_of_le_of_lt h (by decide)
theorem g6 {A B:Prop} (h:B):if false=true then A else B:=by
 rw [if_neg Bool.false_ne_true];exact h
theorem g5 {A B:Prop} (h:A):if true=true then A else B:=by
 rw [if_pos rfl];exact h
def Same (H H':Hp):Prop:=∀b o,H b=some o->H' b=some o
theorem Same.refl (H:Hp):Same H H:=fun _ _ h=>h
theorem Same.trans {H H1 H2:Hp} (a:Same H H1) (b:Same H1 H2):Same H H2:=fun c o h=>b c o (a c o h)
theorem Same.free {H H':Hp} (e:Same H H') {l:Addr} (h:H' l=Option.none):H l=Option.none:=by
 cases q:H l with
 | none=>rfl
 | some o=>
  rw [e l o q] at h
  cases h
theorem Same.seq {K:Fg} {H H':Hp} {a:Addr} {xs:List V} (e:Same H H') (h:SqL K H a xs):SqL K H' a xs:=by
 rcases h with (h | ⟨o,h⟩) | h
 ·exact .inl (.inl (e _ _ h))
 ·exact .inl (.inr ⟨o,e _ _ h⟩)
 ·exact .inr h
section
variable {prog:Program} {w:World} {A:Around} {R:Result->Shared->Prop} {s:Shared}
abbrev yB:Value->Shared->Prop:=fun _ _=>False
theorem ll {elt target iter:Expr} {ifs:List Expr} {scope:Scope} {pos:Pos} {it acc:Value} {env:Env} (I:Nat->Shared->Prop)
  (turn:∀n s,I n s->wpAny (model prog w) A (pyNext it) (fun r s₁=>match r with
   | none=>R (.ok .next) s₁
   | some v=>wpAny (model prog w) A (letOwnedTupleGo target it v) (fun _ s₁'=>wpAny (model prog w) A (assign target env v) (fun _ s₂=>
     wpAny (model prog w) A (forIn ifs true fun c r=>if r=true then do let ok <-isTrue c env (eval c env);pure (ForInStep.yield ok) else pure (ForInStep.yield r)) (fun ok s₃=>
      if ok=true then wpAny (model prog w) A (eval elt env) (fun x s₄=>
       wpAny (model prog w) A (call (.builtin "list.append") [acc,x]) (fun _ s₅=>∃m,m<n/\I m s₅) yB s₄) yB s₃
      else ∃m,m<n/\I m s₃) yB s₂) yB s₁') yB s₁) yB s)
  (n:Nat) (h:I n s) :
  codeAny (model prog w) A (.compLoop (.ListComp elt [⟨target,iter,ifs,0⟩] scope pos) 0 it acc env) R s:=by
 refine codeAny_loop rfl I (fun n s hI=>?_) n h
 show wpAny _ A ((compTurn (.ListComp elt [⟨target,iter,ifs,0⟩] scope pos) 0 it acc env).onRaise (fun x=>do noteFrame x env;theTreesLotGoes x)) _ _ s
 refine wpAny_noted ?_
 rw [compTurn_list];have F:∀{Z:Value->Shared->Prop},∀(e:Value) (s:Shared),yB e s->Z e s:=fun _ _ x=>x.elim
 refine wpAny_bind (wpAny_standAt (wpAny_bind (wpAny_mono (turn n s hI) (fun r s₁ h₁=>?_) F)))
 cases r with
 | none=>exact wpAny_pure h₁
 | some v=>
  refine wpAny_bind (wpAny_mono h₁ (fun _ s₁' h₁'=>?_) F)
  refine wpAny_bind (wpAny_mono h₁' (fun _ s₂ h₂=>wpAny_bind (wpAny_mono h₂ (fun ok s₃ h₃=>?_) F)) F)
  cases ok with
  | false=>exact wpAny_pure ⟨rfl,h₃⟩
  | true=>
   exact wpAny_bind (wpAny_bind (wpAny_mono h₃ (fun x s₄ h₄=>wpAny_bind (wpAny_mono h₄ (fun _ s₅ h₅=>wpAny_pure (wpAny_pure ⟨rfl,h₅⟩)) F)) F))
end
def cR (env:Env):List (Str×NameKind)->List (Str×Addr)->List (Str×Addr)
 | [],acc=>acc
 | (n,k)::r,acc=>if k==.free then cR env r ((n,(env.cells.lookup n).getD 0)::acc) else cR env r acc
theorem Hw {env:Env}:∀(names:List (Str×NameKind)) (acc:List (Str×Addr)),(∀n,(n,NameKind.free)∈names->∃c,env.cells.lookup n=some c) ->
  (forIn names acc fun (x:Str×NameKind) (cs:List (Str×Addr))=>(match x with | (name,kind)=>if kind==.free then (do let a <-cellOf env name;pure (ForInStep.yield ((name,a)::cs))) else pure (ForInStep.yield cs):Sem (ForInStep (List (Str×Addr)))))=(pure (cR env names acc):Sem (List (Str×Addr)))
 | [],acc,_=>by rw [List.forIn_nil];rfl
 | (n,k)::r,acc,h=>by
  rw [List.forIn_cons];unfold cR;by_cases hk:(k==.free)=true
  ·simp only [hk,if_true]
   have hk':k=.free:=by simpa using hk
   obtain ⟨c,hc⟩:=h n (by rw [hk'];exact mem_cons_self)
   have e:cellOf env n=pure c:=by unfold cellOf;rw [hc]
   rw [e,hc];exact Hw r ((n,c)::acc) fun n' hn=>h n' (mem_cons_of_mem _ hn)
  ·rw [if_neg hk]
   simp only [hk]
   exact Hw r acc fun n' hn=>h n' (mem_cons_of_mem _ hn)
theorem gj {env:Env} {scope:Scope} (h:∀n,(n,NameKind.free)∈scope.names->∃c,env.cells.lookup n=some c):closureFor scope env=pure (cR env scope.names []):=by
 have:=Hw (env:=env) scope.names [] h
 unfold closureFor;rw [show (pure (cR env scope.names []):Sem (List (Str×Addr)))=(pure (cR env scope.names []) >>= fun x=>pure x) from rfl,<-this]
theorem HD {env:Env} {x:Str} {c:Addr}:∀{names:List (Str×NameKind)} {acc:List (Str×Addr)},(∀n,(n,NameKind.free)∈names->∃c,env.cells.lookup n=some c)->(cR env names acc).lookup x=some c->env.cells.lookup x=some c\/acc.lookup x=some c
 | [],_,_,e=>.inr e
 | (n,k)::r,acc,h,e=>by
  unfold cR at e;have h':∀n',(n',NameKind.free)∈r->∃c,env.cells.lookup n'=some c:=fun n' hn=>h n' (mem_cons_of_mem _ hn)
  by_cases hk:(k==.free)=true
  ·rw [if_pos hk] at e
   rcases HD h' e with q | q
   ·exact .inl q
   ·rw [lookup_cons] at q
    have hk':k=.free:=by simpa using hk
    obtain ⟨c',hc⟩:=h n (by rw [hk'];exact mem_cons_self)
    cases hx:x==n with
    | true=>
     rw [hx,hc] at q
     cases q;rw [eq_of_beq hx];exact .inl hc
    | false=>
     rw [hx] at q;exact .inr q
  ·rw [if_neg hk] at e
   exact HD h' e
theorem CB {env:Env} {x:Str}:∀{names:List (Str×NameKind)} {acc:List (Str×Addr)},(x,NameKind.free)∈names\/(acc.lookup x).isSome=true->((cR env names acc).lookup x).isSome=true
 | [],_,h=>h.elim nofun id
 | (n,k)::r,acc,h=>by
  unfold cR;by_cases hk:(k==.free)=true
  ·rw [if_pos hk]
   refine CB (names:=r) ?_
   rcases h with h | h
   ·rcases List.mem_cons.mp h with e | h
    ·cases e
     exact .inr (by rw [lookup_cons];simp)
    ·exact .inl h
   ·right
    rw [lookup_cons]
    cases hx:x==n with
    | true=>rfl
    | false=>exact h
  ·rw [if_neg hk]
   refine CB (names:=r) ?_
   rcases h with h | h
   ·rcases List.mem_cons.mp h with e | h
    ·cases e
     exact absurd rfl hk
    ·exact .inl h
   ·exact .inr h
theorem CU {x:Str} {c:Addr}:∀{names:List (Str×NameKind)} {n:Nat} {acc:List (Str×Addr)},(cellsFrom n names acc).lookup x=some c->((x,NameKind.cell)∈names/\n<=c)\/acc.lookup x=some c
 | [],_,_,e=>.inr e
 | (y,k)::r,n,acc,e=>by
  unfold cellsFrom at e;by_cases hk:(k==.cell)=true
  ·rw [if_pos hk] at e
   have hk':k=.cell:=by simpa using hk
   rcases CU e with ⟨q,l⟩ | q
   ·exact .inl ⟨mem_cons_of_mem _ q,by omega⟩
   ·rw [lookup_cons] at q
    cases hx:x==y with
    | true=>
     rw [hx] at q
     cases q;exact .inl ⟨by rw [eq_of_beq hx,hk'];exact mem_cons_self,Nat.le_refl _⟩
    | false=>
     rw [hx] at q;exact .inr q
  ·rw [if_neg hk] at e
   rcases CU e with ⟨q,l⟩ | q
   ·exact .inl ⟨mem_cons_of_mem _ q,l⟩
   ·exact .inr q
theorem HK {x y:Str} {c:Addr}:∀{names:List (Str×NameKind)} {n:Nat} {acc:List (Str×Addr)},(∀z d,acc.lookup z=some d->d<n)->(∀x y d,acc.lookup x=some d->acc.lookup y=some d->x=y) ->
  (cellsFrom n names acc).lookup x=some c->(cellsFrom n names acc).lookup y=some c->x=y
 | [],_,_,_,hi,e,e'=>hi _ _ _ e e'
 | (z,k)::r,n,acc,hl,hi,e,e'=>by
  unfold cellsFrom at e e'
  by_cases hk:(k==.cell)=true
  ·rw [if_pos hk] at e e'
   refine HK (names:=r) (n:=n+1) (acc:=(z,n)::acc) (fun a d q=>?_) (fun a b d q q'=>?_) e e'
   ·rw [lookup_cons] at q
    cases hx:a==z with
    | true=>rw [hx] at q;cases q;exact Nat.lt_succ_self _
    | false=>rw [hx] at q;exact Nat.lt_succ_of_lt (hl a d q)
   ·rw [lookup_cons] at q q'
    cases hx:a==z with
    | true=>
     rw [hx] at q
     cases q
     cases hy:b==z with
     | true=>rw [eq_of_beq hx,eq_of_beq hy]
     | false=>rw [hy] at q';exact absurd (hl b n q') (Nat.lt_irrefl _)
    | false=>
     rw [hx] at q
     cases hy:b==z with
     | true=>rw [hy] at q';cases q';exact absurd (hl a n q) (Nat.lt_irrefl _)
     | false=>rw [hy] at q';exact hi a b d q q'
  ·rw [if_neg hk] at e e'
   exact HK hl hi e e'
theorem Hy {env:Env} {x:Str} {c:Addr}:∀{names:List (Str×NameKind)} {acc:List (Str×Addr)},(cR env names acc).lookup x=some c->(x,NameKind.free)∈names\/acc.lookup x=some c
 | [],_,e=>.inr e
 | (n,k)::r,acc,e=>by
  unfold cR at e;by_cases hk:(k==.free)=true
  ·rw [if_pos hk] at e
   have hk':k=.free:=by simpa using hk
   rcases Hy e with q | q
   ·exact .inl (mem_cons_of_mem _ q)
   ·rw [lookup_cons] at q
    cases hx:x==n with
    | true=>rw [eq_of_beq hx,hk'];exact .inl mem_cons_self
    | false=>rw [hx] at q;exact .inr q
  ·rw [if_neg hk] at e
   rcases Hy e with q | q
   ·exact .inl (mem_cons_of_mem _ q)
   ·exact .inr q
theorem Fj {x:Str}:∀{names:List (Str×NameKind)} {n:Nat} {acc:List (Str×Addr)},(x,NameKind.cell)∈names\/(acc.lookup x).isSome=true->((cellsFrom n names acc).lookup x).isSome=true
 | [],_,_,h=>h.elim nofun id
 | (y,k)::r,n,acc,h=>by
  unfold cellsFrom;by_cases hk:(k==.cell)=true
  ·rw [if_pos hk]
   refine Fj (names:=r) ?_
   rcases h with h | h
   ·rcases List.mem_cons.mp h with e | h
    ·cases e
     exact .inr (by rw [lookup_cons];simp)
    ·exact .inl h
   ·right
    rw [lookup_cons]
    cases hx:x==y with
    | true=>rfl
    | false=>exact h
  ·rw [if_neg hk]
   refine Fj (names:=r) ?_
   rcases h with h | h
   ·rcases List.mem_cons.mp h with e | h
    ·cases e
     exact absurd rfl hk
    ·exact .inl h
   ·exact .inr h
theorem Fi {x:Str}:∀{names:List (Str×NameKind)} {n:Nat} {acc:List (Str×Addr)},(x,NameKind.cell)∉names->(cellsFrom n names acc).lookup x=acc.lookup x
 | [],_,_,_=>rfl
 | (y,k)::r,n,acc,h=>by
  unfold cellsFrom;have hr:(x,NameKind.cell)∉r:=fun z=>h (mem_cons_of_mem _ z)
  by_cases hk:(k==.cell)=true
  ·rw [if_pos hk,Fi hr,lookup_cons]
   have hk':k=.cell:=by simpa using hk
   cases hx:x==y with
   | true=>exact absurd (by rw [eq_of_beq hx,hk'];exact mem_cons_self) h
   | false=>rfl
  ·rw [if_neg hk]
   exact Fi hr
theorem Fl {x:Str} {c:Addr}:∀{names:List (Str×NameKind)} {n:Nat} {acc:List (Str×Addr)},(x,NameKind.cell)∈names->(cellsFrom n names acc).lookup x=some c->(cellsFrom n names []).lookup x=some c
 | [],_,_,h,_=>nomatch h
 | (y,k)::r,n,acc,h,e=>by
  unfold cellsFrom at e ⊢
  by_cases hk:(k==.cell)=true
  ·rw [if_pos hk] at e ⊢
   by_cases hr:(x,NameKind.cell)∈r
   ·have:∀{acc acc':List (Str×Addr)},(cellsFrom (n+1) r acc).lookup x=some c->(cellsFrom (n+1) r acc').lookup x=some c:=fun {a a'} q=>by
     have q0:=Fl hr q
     have hs:=Fj (n:=n+1) (acc:=a') (.inl hr)
     obtain ⟨c',hc'⟩:=Option.isSome_iff_exists.mp hs;have q1:=Fl hr hc'
     rw [q0] at q1
     cases q1;exact hc'
    exact this e
   ·rw [Fi hr] at e ⊢
    rw [lookup_cons] at e ⊢
    cases hx:x==y with
    | true=>rw [hx] at e;exact e
    | false=>
     rcases List.mem_cons.mp h with z | z
     ·cases z
      simp at hx
     ·exact absurd z hr
  ·rw [if_neg hk] at e ⊢
   rcases List.mem_cons.mp h with z | z
   ·cases z
    exact absurd rfl hk
   ·exact Fl z e
def blk (X:Cx) (scope:Scope) (cells:List (Str×Addr)) (C:Addr) (s₀:Shared) (H₀:Hp) (ex:List Addr):Cx where
 prog:=X.prog
 w:=X.w
 K:=X.K
 mg:=X.mg
 base:=X.base
 A:=X.A
 N:=X.N
 s₀:=s₀
 H₀:=H₀
 env:={ scope:=relabel scope X.env,locals:=C,globals:=X.env.globals,cells:=cells,qual:=X.env.qual,func:=none,code:=X.env.code,frame:=X.env.frame,builtins:=X.env.builtins }
 outer:=X.stack
 stack:=X.stack
 ex:=ex
 fn:=fun x=>scope.names.any fun y=>y.1==x&&y.2==.cell
 calm:=X.calm
 pn:=[]
 xe:=fun _ _=>False
structure dB (N:List Str) (is:List Nat) (osc scope:Scope):Prop where
 kind:scope.kind=.function
 free:∀n,(n,NameKind.free)∈scope.names->osc.names.lookup n=some .cell\/osc.names.lookup n=some .free
 own:∀(i:Nat) (x:Str),N[i]?=some x->(x,NameKind.local)∈scope.names\/(x,NameKind.cell)∈scope.names->i∈is
 loc:∀x∈scope.names,x.2=.local->scope.names.lookup x.1=some .local
 one:∀n,(n,NameKind.free)∈scope.names->(n,NameKind.cell)∉scope.names
def bo (is:List Nat) (σ:St):St:=σ.mapIdx fun i v=>if i∈is then none else v
theorem yS (is:List Nat) (σ:St):(bo is σ).length=σ.length:=by unfold bo;simp
theorem EZ {is:List Nat} {σ:St} {i:Nat} {v:V} (h:(bo is σ)[i]?=some (some v)):i∉is/\σ[i]?=some (some v):=by
 unfold bo at h;rw [List.getElem?_mapIdx] at h
 cases e:σ[i]? with
 | none=>rw [e] at h;cases h
 | some o=>
  rw [e] at h;simp only [Option.map_some,Option.some.injEq] at h
  by_cases hi:i∈is
  ·rw [if_pos hi] at h;cases h
  ·rw [if_neg hi] at h;exact ⟨hi,by rw [h]⟩
def F6 (σ0 σ2:St):Prop:=σ2.length=σ0.length/\∀(i:Nat) v,σ0[i]?=some (some v)->σ2[i]?=some (some v)
theorem iK {x:Str} {k:NameKind} {l:List (Str×NameKind)} (h:l.lookup x=some k):(x,k)∈l:=PySem.mem_of_lookup h
theorem Cz {scope:Scope} {env:Env} {x:Str} {k:NameKind} (h:(relabel scope env).names.lookup x=some k) :
  (x,k)∈scope.names\/((x,NameKind.free)∈scope.names/\k=.cell):=by
 have h:=iK h
 unfold relabel at h;obtain ⟨⟨n,k'⟩,hm,e⟩:=List.mem_map.mp h;dsimp only at e;by_cases hc:(k'==NameKind.free&&env.scope.kind==.function&&env.kindOf n==some .cell)=true
 ·rw [if_pos hc] at e
  cases e;have:k'=.free:=by
   simp only [Bool.and_eq_true,beq_iff_eq] at hc
   exact hc.1.1
  exact .inr ⟨this▸hm,rfl⟩
 ·rw [if_neg hc] at e
  cases e;exact .inl hm
def kg (X:Cx) (scope:Scope) (C:Addr):List (Str×Addr):=cellsFrom (C+1) scope.names (cR X.env scope.names [])
section
variable {X:Cx} {pins:List (Addr×Obj)} {σ:St} {H:Hp} {s:Shared} {scope:Scope} {is:List Nat}
theorem Inv.freeCells (I:Inv X pins σ H s) (S:dB X.N is X.env.scope scope):∀n,(n,NameKind.free)∈scope.names->∃c,X.env.cells.lookup n=some c:=fun n hn=>
 I.ok.has n (S.free n hn)
theorem Inv.blkOld (I:Inv X pins σ H s) (S:dB X.N is X.env.scope scope) {x:Str} {c:Addr} (h:(cR X.env scope.names []).lookup x=some c):X.env.cells.lookup x=some c:=by
 rcases HD (I.freeCells S) h with q | q
 ·exact q
 ·cases q
theorem Inv.block {fp:List Addr} {t':Nat} (I:Inv X pins σ H s) (S:dB X.N is X.env.scope scope) (hf:∀b∈fp,jC X pins H b) (hfs:∀b∈fp,b<s.heap.objs.size) :
  Inv (blk X scope (kg X scope (s.heap.objs.size+1)) (s.heap.objs.size+1) s H fp) [] (bo is σ) (bA H s.heap.objs.size (.lst []))
   { s with heap:=pushCells ((s.heap.push { cls:=.type "list",data:=.seq ([]:List Value).toArray }).push { cls:=.type "dict",data:=.dict #[] }) scope.names,toks:=t' }:=by
 generalize hC:s.heap.objs.size+1=C
 have hDn:H s.heap.objs.size=none:=I.hok.fresh (Nat.le_refl _)
 have s1:(s.heap.push { cls:=.type "list",data:=.seq ([]:List Value).toArray }).objs.size=C:=by rw [Heap.size_push,hC]
 have kept:∀b o,s.heap.get? b=some o->(pushCells ((s.heap.push { cls:=.type "list",data:=.seq ([]:List Value).toArray }).push { cls:=.type "dict",data:=.dict #[] }) scope.names).get? b=some o:=
  fun b o e=>pushCells_keeps _ _ b o (Heap.get?_push_of_some _ (Heap.get?_push_of_some _ e))
 have cellsL:∀x c,(kg X scope C).lookup x=some c->((x,NameKind.cell)∈scope.names/\C+1<=c)\/X.env.cells.lookup x=some c:=fun x c e=>by
  rcases CU e with q | q
  ·exact .inl q
  ·exact .inr (I.blkOld S q)
 have oldLt:∀x c,X.env.cells.lookup x=some c->c<s.heap.objs.size:=fun x c e=>by
  obtain ⟨v,q⟩:=I.cell x c e;exact q.lt
 have cok:CellsOk (pushCells ((s.heap.push { cls:=.type "list",data:=.seq ([]:List Value).toArray }).push { cls:=.type "dict",data:=.dict #[] }) scope.names) (C+1)
   (cellsFrom (C+1) scope.names []):=by
  have:=cellsFrom_ok scope.names ((s.heap.push { cls:=.type "list",data:=.seq ([]:List Value).toArray }).push { cls:=.type "dict",data:=.dict #[] }) (C+1) [] ⟨fun _ _ hm=>(nomatch hm),List.Pairwise.nil⟩ (by rw [Heap.size_push,s1];exact Nat.le_refl _)
  rw [Heap.size_push,s1] at this;exact this
 have lt1:∀{b:Nat},b<s.heap.objs.size->b≠C:=fun {b} h e=>by subst e;rw [<-hC] at h;exact absurd (Nat.lt_of_succ_lt h) (Nat.lt_irrefl _)
 have hDle:s.heap.objs.size<=C:=by rw [<-hC];exact Nat.le_succ _
 have cellAt:∀x c,(kg X scope C).lookup x=some c->(C<c/\(pushCells ((s.heap.push { cls:=.type "list",data:=.seq ([]:List Value).toArray }).push { cls:=.type "dict",data:=.dict #[] }) scope.names).IsCell c none)\/X.env.cells.lookup x=some c:=fun x c e=>by
  rcases cellsL x c e with ⟨q1,q2⟩ | q
  ·exact .inl ⟨q2,(cok.empty x c (PySem.mem_of_lookup (Fl q1 e))).1⟩
  ·exact .inr q
 refine ⟨⟨I.ok.mod,S.kind,I.ok.glob,I.ok.blt,hDle,?_,?_,?_,I.ok.hd,I.ok.frames,.inl rfl,?_,I.bs,Nat.le_trans I.ok.bsz I.sz,?_,?_,I.stack,I.stkFree⟩,rfl,I.bare,?_,?_,?_,?_,?_,fun p hp=>absurd (show p∈([]:List (Addr×Obj)) from hp) (by simp),?_,(yS _ _).trans I.len⟩
 ·-- inj
  intro x y c hx hy;refine HK (fun z d q=>?_) (fun a b d q q'=>I.ok.inj a b d (I.blkOld S q) (I.blkOld S q')) hx hy
  exact Nat.lt_succ_of_lt (Nat.lt_of_lt_of_le (oldLt z d (I.blkOld S q)) hDle)
 ·-- has
  intro x hx;have q:((kg X scope C).lookup x).isSome=true:=by
   refine Fj ?_
   have hx:(relabel scope X.env).names.lookup x=some .cell\/(relabel scope X.env).names.lookup x=some .free:=hx
   rcases hx with hx | hx
   ·rcases Cz hx with z | ⟨z,_⟩
    ·exact .inl z
    ·exact .inr (CB (.inl z))
   ·rcases Cz hx with z | ⟨z,_⟩
    ·exact .inr (CB (.inl z))
    ·exact .inr (CB (.inl z))
  exact Option.isSome_iff_exists.mp q
 ·-- cab
  intro x c hx e;have hx:(scope.names.any fun y=>y.1==x&&y.2==NameKind.cell)=true:=hx
  obtain ⟨y,hy,hz⟩:=List.any_eq_true.mp hx;simp only [Bool.and_eq_true,beq_iff_eq] at hz
  have hm:(x,NameKind.cell)∈scope.names:=by rw [<-hz.1,<-hz.2];exact hy
  rcases CU e with ⟨_,q⟩ | q
  ·exact Nat.le_trans hDle (Nat.le_of_succ_le q)
  ·rcases Hy q with z | z
   ·exact absurd hm (S.one x z)
   ·cases z
 ·-- exf
  intro b hb;obtain ⟨f0,f1,f2,f3,f4,f5⟩:=hf b hb;refine ⟨lt1 (hfs b hb),fun x c e z=>?_⟩
  rcases cellsL x c e with ⟨_,q⟩ | q
  ·subst z
   exact absurd (Nat.lt_of_lt_of_le (hfs _ hb) hDle) (Nat.not_lt.mpr (Nat.le_of_succ_le q))
  ·exact f4 x c q z
 ·-- noex
  intro b o e hb;obtain ⟨f0,f1,f2,f3,f4,f5⟩:=hf b hb;rcases f3 with z | z
  ·exact I.ok.noex b o e z
  ·exact absurd (Nat.lt_of_lt_of_le (Heap.lt_size e) (Nat.le_trans I.ok.bsz z)) (Nat.lt_irrefl _)
 ·-- exfs
  intro b hb z;obtain ⟨f0,f1,f2,f3,f4,f5⟩:=hf b hb;rcases List.mem_cons.mp (I.stkSub b z) with e | e
  ·exact f1 e
  ·exact f2 e
 ·-- base
  exact Un.laid kept (Nat.le_refl _) hDn
 ·-- loc
  refine ⟨fun _=>none,?_,fun i x v e1 e2 e3=>?_⟩
  ·have:=(Heap.Ns.new (s.heap.push { cls:=.type "list",data:=.seq ([]:List Value).toArray }) (.type "dict")).keeps (pushCells_keeps scope.names _)
   rw [s1] at this;exact this
  ·obtain ⟨hni,e2'⟩:=EZ e2
   obtain ⟨m,hn,hl⟩:=id I.loc;have hfree:(x,NameKind.free)∈scope.names:=by
    have e3:(relabel scope X.env).names.lookup x=some .local\/(relabel scope X.env).names.lookup x=some .cell\/(relabel scope X.env).names.lookup x=some .free:=e3
    rcases e3 with z | z | z
    ·rcases Cz z with y | ⟨y,_⟩
     ·exact absurd (S.own i x e1 (.inl y)) hni
     ·exact y
    ·rcases Cz z with y | ⟨y,_⟩
     ·exact absurd (S.own i x e1 (.inr y)) hni
     ·exact y
    ·rcases Cz z with y | ⟨y,_⟩
     ·exact y
     ·exact y
   have hk:=S.free x hfree
   obtain ⟨u,r,l⟩:=hl i x v e1 e2' (.inr hk)
   refine ⟨u,r,?_⟩
   rcases l with ⟨k,_⟩ | ⟨k,c,e,z⟩
   ·have k:X.env.scope.names.lookup x=some .local:=k
    rcases hk with q | q<;>(rw [q] at k;cases k)
   ·refine .inr ⟨?_,c,?_,z.keeps kept⟩
    ·have e3:(relabel scope X.env).names.lookup x=some .local\/(relabel scope X.env).names.lookup x=some .cell\/(relabel scope X.env).names.lookup x=some .free:=e3
     rcases e3 with y | y | y
     ·rcases Cz y with y' | ⟨_,y'⟩
      ·exact absurd (S.own i x e1 (.inl y')) hni
      ·cases y'
     ·exact .inl y
     ·exact .inr y
    ·have q:=CB (env:=X.env) (acc:=[]) (.inl hfree)
     obtain ⟨c',hc'⟩:=Option.isSome_iff_exists.mp q;have:=I.blkOld S hc'
     rw [e] at this
     cases this;show (kg X scope C).lookup x=some c
     unfold kg;rw [Fi (S.one x hfree)];exact hc'
 ·-- cell
  intro x c e;rcases cellAt x c e with ⟨_,q⟩ | q
  ·exact ⟨_,q⟩
  ·obtain ⟨v,z⟩:=I.cell x c q
   exact ⟨v,z.keeps kept⟩
 ·-- free
  show bA H s.heap.objs.size (.lst []) C=none
  rw [cS (by rw [<-hC];exact Nat.ne_of_gt (Nat.lt_succ_self _))]
  exact I.hok.fresh hDle
 ·-- freeC
  intro x c e;show bA H s.heap.objs.size (.lst []) c=none
  rcases cellAt x c e with ⟨q,_⟩ | q
  ·have hc:s.heap.objs.size<c:=Nat.lt_of_le_of_lt hDle q
   rw [cS (Nat.ne_of_gt hc)];exact I.hok.fresh (Nat.le_of_lt hc)
  ·rw [cS (Nat.ne_of_lt (oldLt x c q))]
   exact I.freeC x c q
 ·-- hok
  exact I.hok.laid kept (Nat.le_refl _) ⟨Nat.zero_le _,[],0,.nil,pushCells_keeps _ _ _ _ (Heap.get?_push_of_some _ (Heap.get?_push_size _ rfl))⟩
end
section
variable {M:Model} {A:Around} {E:Value->Shared->Prop} {s:Shared}
theorem js {scope:Scope} {globals:Addr} {cl:List (Str×Addr)} {qual:Str} {env:Env} {Q:Env->Shared->Prop}
  (hQ:Q (newEnv scope s.heap.objs.size globals (cellsFrom (s.heap.objs.size+1) scope.names cl) qual none .none (some env) builtinsNs) { s with heap:=pushCells (s.heap.push { cls:=.type "dict",data:=.dict #[] }) scope.names }) :
  wpAny M A (newFunctionEnv scope globals cl [] qual none .none (some env)) Q E s:=by
 simp only [newFunctionEnv,Option.isSome_some,if_true]
 refine wpAny_bind (wpAny_alloc ?_)
 refine wpAny_bind (wpAny_layCells _ (fun name kind cells=>by cases hkc:kind==NameKind.cell<;>simp [hkc]) _ _ _ _ ?_)
 rw [show ({ s with heap:=s.heap.push { cls:=.type "dict",data:=.dict #[] } }:Shared).heap.objs.size=s.heap.objs.size+1 from Heap.size_push ..]
 rw [List.forIn_nil];exact wpAny_bind (wpAny_pure (wpAny_pure hQ))
end
def PF (X:Cx) (ifs:List Expr) (t:TT):Prop:=
 ∀(pins:List (Addr×Obj)) (s:Shared) (σ:St) (H:Hp) (Q:Bool->Hp->Prop),Inv X pins σ H s->t σ H Q ->
  wpAny (model X.prog X.w) X.A (forIn ifs true fun c r=>if r=true then do let ok <-isTrue c X.env (eval c X.env);pure (ForInStep.yield ok) else pure (ForInStep.yield r)) (TP X pins σ Q) X.xe s
def pj:TT:=fun _ H Q=>Q true H
theorem uu {X:Cx}:PF X [] pj:=fun pins s σ H Q I h=>wpAny_tests_nil ⟨H,I,h⟩
theorem ur {X:Cx} {c:Expr} {t:TT} (h:PT X c t):PF X [c] t:=fun pins s σ H Q I q=>wpAny_tests_one (h pins s σ H Q I q)
def fP (is:List Nat) (wi:TI) (g:TG) (tc:TT) (te:TE):TE:=fun σ H Q=>wi σ H fun J H1=>∀D,H1 D=none->∃W:Nat->Nat->List V->Hp->Prop,(∃m,W 0 m [] (bA H1 D (.lst [])))/\∀k m ys H,W k m ys H ->
 H D=some (.lst ys)/\((J.stop k H/\Q (.ref D) H)\/(J.go k H/\ys.length<sizeLine/\∀x H',J.yld k H x H'->g x (bo is σ) H' fun σ2 H2=>F6 (bo is σ) σ2/\tc σ2 H2 fun b H3=>
  if b=true then te σ2 H3 fun v H4=>H4 D=some (.lst ys)/\∃m',m'<m/\W (k+1) m' (ys++[v]) (bA H4 D (.lst (ys++[v]))) else ∃m',m'<m/\W (k+1) m' ys H3))
section
variable {X:Cx} {scope:Scope} {is:List Nat} {tg iter elt:Expr} {ifs:List Expr} {wi:TI} {g:TG} {tc:TT} {te:TE} {pos:Pos}
theorem j6 {pins:List (Addr×Obj)} {s:Shared} {σ:St} {H:Hp} {Q:VK} {RR:Value->Addr->Result->Shared->Prop} (S:dB X.N is X.env.scope scope) (hcalm:X.calm=true) (hi:PI X tg iter wi)
  (hg:∀cells C s₀ H₀ ex,PG (blk X scope cells C s₀ H₀ ex) tg g) (hc:∀cells C s₀ H₀ ex,PF (blk X scope cells C s₀ H₀ ex) ifs tc) (he:∀cells C s₀ H₀ ex,PE (blk X scope cells C s₀ H₀ ex) elt te)
  (I:Inv X pins σ H s) (h:fP is wi g tc te σ H Q)
  (hRR:∀D C s' H' m,Inv X pins σ H' s'->s'.heap.Ns C m->Q (.ref D) H'->H' C=none->C≠X.env.locals->X.s₀.heap.objs.size<=C->(∀x c,X.env.cells.lookup x=some c->c≠C)->(∀p∈X.pn++pins,p.1≠C)->RR (.ref D) C (.ok .next) s') :
  wpAny (model X.prog X.w) X.A (eval iter X.env) (fun x s₁=>wpAny (model X.prog X.w) X.A (pyIter x) (fun it s₂=>wpAny (model X.prog X.w) X.A (newList []) (fun acc s₃=>
   wpAny (model X.prog X.w) X.A (newFunctionEnv scope X.env.globals (cR X.env scope.names []) [] X.env.qual none .none (some X.env)) (fun cenv s₄=>
    codeAny (model X.prog X.w) X.A (.compStart (.ListComp elt [⟨tg,iter,ifs,0⟩] scope pos) 0 it acc { cenv with scope:=relabel scope X.env }) (RR acc cenv.locals) s₄) X.xe s₃) X.xe s₂) X.xe s₁) X.xe s:=by
 refine bB (hi pins s σ H _ I h) fun v s1 h1=>bB h1 fun itv s2 h2=>?_
 obtain ⟨it,fp,tn,J,H2,e,I2,T,st2,f2,hW⟩:=h2;subst e;obtain ⟨W,⟨m0,w0⟩,turn⟩:=hW s2.heap.objs.size (I2.hok.fresh (Nat.le_refl _));refine wpAny_newObj_type (js ?_)
 have s1:(s2.heap.push { cls:=.type "list",dict:=none,data:=.seq ([]:List Value).toArray }).objs.size=s2.heap.objs.size+1:=by rw [Heap.size_push]
 dsimp only;rw [s1];have hfs:∀b∈fp,b<s2.heap.objs.size:=fun b hb=>by
  obtain ⟨o,e,_⟩:=T.obj 0 _ st2 b hb;exact Heap.lt_size e
 have I4:=I2.block (t':=s2.toks) S f2 hfs
 generalize hCC:s2.heap.objs.size+1=C at I4 ⊢
 have hDC:s2.heap.objs.size<C:=by rw [<-hCC];exact Nat.lt_succ_self _
 have Hg:=hg (kg X scope C) C s2 H2 fp
 have Hc:=hc (kg X scope C) C s2 H2 fp
 have He:=he (kg X scope C) C s2 H2 fp
 have Ha:=Hr (X:=blk X scope (kg X scope C) C s2 H2 fp)
 have hYcell:∀x c,(blk X scope (kg X scope C) C s2 H2 fp).env.cells.lookup x=some c->s2.heap.objs.size<=c\/X.env.cells.lookup x=some c:=fun x c e=>by
  have e:(cellsFrom (C+1) scope.names (cR X.env scope.names [])).lookup x=some c:=e
  rcases CU e with ⟨_,q⟩ | q
  ·exact .inl (Nat.le_trans (Nat.le_of_lt hDC) (Nat.le_of_succ_le q))
  ·exact .inr (I2.blkOld S q)
 have FY:∀{H':Hp},(∀b∈fp,H' b=none)->∀b∈fp,jC (blk X scope (kg X scope C) C s2 H2 fp) [] H' b:=fun {H'} hn b hb=>by
  obtain ⟨f0,f1,f3,f4,f5,f6⟩:=f2 b hb;refine ⟨hn b hb,Nat.ne_of_lt (Nat.lt_trans (hfs b hb) hDC),fun z=>?_,.inl hb,fun x c e z=>?_,fun p hp=>absurd (show p∈([]:List (Addr×Obj)) from hp) (by simp)⟩
  ·rcases List.mem_cons.mp (I2.stkSub b z) with e | e
   ·exact f1 e
   ·exact f3 e
  ·rcases hYcell x c e with q | q
   ·rw [z] at q
    exact absurd (Nat.lt_of_lt_of_le (hfs b hb) q) (Nat.lt_irrefl _)
   ·exact f5 x c q z
 have hCx:∀x c,X.env.cells.lookup x=some c->c≠C:=fun x c e z=>by
  obtain ⟨v,q⟩:=I2.cell x c e;have:=q.lt
  rw [z] at this;exact absurd (Nat.lt_trans this hDC) (Nat.lt_irrefl _)
 have hCp:∀p∈X.pn++pins,p.1≠C:=fun p hp z=>by
  have:=Heap.lt_size (I2.pin p hp).1
  rw [z] at this;exact absurd (Nat.lt_trans this hDC) (Nat.lt_irrefl _)
 have out:∀{σ':St} {H':Hp} {s':Shared},Inv (blk X scope (kg X scope C) C s2 H2 fp) [] σ' H' s'->Inv X pins σ H' s':=fun {σ' H' s'} J=>
  I2.call' (ch:=fp) J.os J.base J.hok J.bare fun b hb=>by
   obtain ⟨f0,f1,f3,f4,f5,f6⟩:=f2 b hb;exact ⟨f4,f1,f5,f6⟩
 have loop:∀s₃:Shared,s₃={ s2 with heap:=pushCells ((s2.heap.push { cls:=.type "list",data:=.seq ([]:List Value).toArray }).push { cls:=.type "dict",data:=.dict #[] }) scope.names } ->
   codeAny (model X.prog X.w) X.A (.compLoop (.ListComp elt [⟨tg,iter,ifs,0⟩] scope pos) 0 (.ref it) (.ref s2.heap.objs.size) (blk X scope (kg X scope C) C s2 H2 fp).env) (RR (.ref s2.heap.objs.size) C) s₃:=by
  rintro s₃ rfl
  refine ll (fun n s'=>∃k ys H',Inv (blk X scope (kg X scope C) C s2 H2 fp) [] (bo is σ) H' s'/\tn k s'.heap/\(∀b∈fp,H' b=none)/\W k n ys H') ?_ m0
   ⟨0,[],_,I4,T.keep 0 _ _ st2 fun b _ o e=>pushCells_keeps _ _ b o (Heap.get?_push_of_some _ (Heap.get?_push_of_some _ e)),fun b hb=>by rw [cS (Nat.ne_of_lt (hfs b hb))];exact (f2 b hb).1,w0⟩
  rintro n s3 ⟨k,ys,H3,I3,st3,fr3,w3⟩
  obtain ⟨hD3,hcase⟩:=turn k n ys H3 w3;rcases hcase with ⟨stop,qn⟩ | ⟨go,hlen,step⟩
  ·refine bB (T.done (blk X scope (kg X scope C) C s2 H2 fp) rfl rfl rfl hcalm k [] s3 (bo is σ) H3 yB I3 (FY fr3) st3 stop) fun r s4 ⟨hr,I4⟩=>?_
   subst hr;obtain ⟨m,hn,_⟩:=id I4.loc;exact hRR _ C s4 H3 m (out I4) hn qn I4.free (fun z=>Nat.lt_irrefl _ (Nat.lt_trans (Nat.lt_of_lt_of_eq hDC z) I2.lt)) (Nat.le_trans I2.sz (Nat.le_of_lt hDC)) hCx hCp
  ·refine bB (T.item (blk X scope (kg X scope C) C s2 H2 fp) rfl rfl rfl hcalm k [] s3 (bo is σ) H3 yB I3 (FY fr3) st3 go) fun r s4 ⟨u,hr,h4⟩=>?_
   subst hr;refine bB h4 fun _ s5 ⟨x,H5,I5,r5,y5,st5,fr5⟩=>?_
   have I5':=I5.pinned (FY fr5) (T.obj _ _ st5)
   refine bB (Hg _ s5 (bo is σ) H5 x u _ I5' r5 (step x H5 y5)) fun _ s6 ⟨σ6,H6,I6,le6,q6⟩=>?_
   refine bB (Hc _ s6 σ6 H6 _ I6 q6) fun ok s7 ⟨H7,I7,q7⟩=>?_
   have again:∀{H8:Hp} {s8:Shared} {ys':List V},Inv (blk X scope (kg X scope C) C s2 H2 fp) ([]++CK fp s5.heap) σ6 H8 s8->(∃m',m'<n/\W (k+1) m' ys' H8) ->
     ∃m,m<n/\∃k ys H',Inv (blk X scope (kg X scope C) C s2 H2 fp) [] (bo is σ) H' s8/\tn k s8.heap/\(∀b∈fp,H' b=none)/\W k m ys H':=fun {H8 s8 ys'} I8 ⟨m',hm,w8⟩=>by
    refine ⟨m',hm,k+1,ys',H8,(I8.weak le6.1.symm le6.2).unpinned,T.keep _ _ _ st5 fun b hb o e=>(I8.pin (b,o) (mem_append_right _ (mem_append_right _ (EX hb e)))).1,fun b hb=>?_,w8⟩
    obtain ⟨o,e,d⟩:=T.obj _ _ st5 b hb;exact (I8.pin (b,o) (mem_append_right _ (mem_append_right _ (EX hb e)))).2.1
   cases ok with
   | false=>
    rw [if_neg Bool.false_ne_true] at q7;exact again I7 q7
   | true=>
    rw [if_pos rfl] at q7;refine bB (He _ s7 σ6 H7 _ I7 q7) fun y s8 ⟨v8,H8,I8,r8,q8⟩=>?_
    obtain ⟨hD8,q8⟩:=q8;refine bB (Ha _ s8 σ6 H8 (.ref s2.heap.objs.size) [v8] (.ref s2.heap.objs.size) [y] (fun _ H9=>∃m',m'<n/\W (k+1) m' (ys++[v8]) H9) I8 rfl (.cons r8 .nil) ⟨_,ys,v8,rfl,rfl,hD8,hlen,q8⟩) fun _ s9 ⟨_,H9,I9,_,q9⟩=>?_
    exact again I9 q9
 exact codeAny_compStart_list (loop _ rfl) (T.self X.A 0 _ _ _ (T.keep 0 _ _ st2 fun b _ o e=>pushCells_keeps _ _ b o (Heap.get?_push_of_some _ (Heap.get?_push_of_some _ e))) (loop _ rfl))
theorem GG (S:dB X.N is X.env.scope scope) (hcalm:X.calm=true) (hi:PI X tg iter wi)
  (hg:∀cells C s₀ H₀ ex,PG (blk X scope cells C s₀ H₀ ex) tg g) (hc:∀cells C s₀ H₀ ex,PF (blk X scope cells C s₀ H₀ ex) ifs tc) (he:∀cells C s₀ H₀ ex,PE (blk X scope cells C s₀ H₀ ex) elt te)
  (hs:∀x,foldedSetIterable iter X.env x=pure x:=by intro _;rfl):PE X (.ListComp elt [⟨tg,iter,ifs,0⟩] scope pos) (fP is wi g tc te):=by
 intro pins s σ H Q I h;rw [eval_ListComp];refine wpAny_comprehension_free (use:=none) rfl hs (gj (I.freeCells S)) S.kind S.loc (j6 (RR:=fun acc C=>compPost (model X.prog X.w) X.A X.xe none (EP X pins σ Q) acc C) S hcalm hi hg hc he I h ?_)
 intro D C s' H' m I' hn q n1 n2 n3 n4 n5
 refine ⟨m,hn,fun h' hs'=>?_⟩
 exact ⟨.ref D,H',I'.turned (t':=s'.toks) (fun b o hb e=>(hs'.2 b hb).trans e) n1 n2 (.inr n3) n4 n5,rfl,q⟩
theorem Fd {i:Nat} {y:Str} {pos' spos:Pos} (hN:X.N.Nodup) (hy:X.N[i]?=some y) (hl:X.env.scope.names.lookup y=some .local) (S:dB X.N is X.env.scope scope) (hcalm:X.calm=true) (hi:PI X tg iter wi)
  (hg:∀cells C s₀ H₀ ex,PG (blk X scope cells C s₀ H₀ ex) tg g) (hc:∀cells C s₀ H₀ ex,PF (blk X scope cells C s₀ H₀ ex) ifs tc) (he:∀cells C s₀ H₀ ex,PE (blk X scope cells C s₀ H₀ ex) elt te)
  (hsw:swapsWith (.ListComp elt [⟨tg,iter,ifs,0⟩] scope pos) (some (.Name y pos')) spos.line X.env=pure true)
  (hs:∀x,foldedSetIterable iter X.env x=pure x:=by intro _;rfl):PS X (.Assign [.Name y pos'] (.ListComp elt [⟨tg,iter,ifs,0⟩] scope pos) spos) (fun D σ H=>fP is wi g tc te σ H fun v H'=>D.nx (σ.set i (some v)) H'):=by
 intro pins s σ H Ds I h;rw [exec_Assign_Name_used _ _ _ _ hsw];refine wpAny_bind (wpAny_standAt (wpAny_bind ?_))
 show wpAny _ X.A (do let _ <-comprehension (.ListComp elt [⟨tg,iter,ifs,0⟩] scope pos) scope X.env _ (newList []) false (eval iter X.env) (some (assign (.Name y pos') X.env))) _ _ s
 refine wpAny_bind (wpAny_mono (wpAny_comprehension_free (use:=some (assign (.Name y pos') X.env)) (Q:=fun _ s'=>SP X pins Ds .next s') rfl hs (gj (I.freeCells S)) S.kind S.loc
  (j6 (RR:=fun acc C=>compPost (model X.prog X.w) X.A X.xe (some (assign (.Name y pos') X.env)) (fun _ s'=>SP X pins Ds .next s') acc C) S hcalm hi hg hc he I h ?_)) (fun _ s' hq=>wpAny_pure (wpAny_pure hq)) fun _ _ e=>e)
 intro D C s' H' m I' hn q n1 n2 n3 n4 n5
 show wpAny _ X.A (assign (.Name y pos') X.env (.ref D)) _ _ _
 refine wpAny_assign_Name (jJ (v:=.ref D) I' hN hy (.inl hl) rfl (fun s'' I'' hch=>?_) (.inr hl))
 obtain ⟨a,hsb,ha⟩:=hch;have hCa:C≠a:=by
  rcases ha with e | e
  ·rw [e];exact n2
  ·exact (n4 y a e).symm
 refine ⟨m,hn.sameBut hsb hCa,fun h' hs'=>?_⟩
 exact ⟨_,H',I''.turned (t':=s''.toks) (fun b o hb e=>(hs'.2 b hb).trans e) n1 n2 (.inr n3) n4 n5,q⟩
end
end L2
namespace T
open PySem PySem.Spec L2
open PyProof.Rows hiding St
abbrev D:=PyData
inductive Rep (K:Fg) (H:Hp):V->D->Prop where
 | non:Rep K H .non .none
 | bl (b:Bool):Rep K H (.bl b) (.bool b)
 | int (i:Int):Rep K H (.int i) (.int i)
 | str (x:Str):Rep K H (.str x) (.str x)
 | lst {p:Addr} {vs:List V} {ds:List D}:SqL K H p vs->vs.length=ds.length->(∀(i:Nat) v d,vs[i]?=some v->ds[i]?=some d->Rep K H v d)->Rep K H (.ref p) (.list ds)
 | tup {p:Addr} {vs:List V} {ds:List D}:SqT K H p vs->vs.length=ds.length->(∀(i:Nat) v d,vs[i]?=some v->ds[i]?=some d->Rep K H v d)->Rep K H (.ref p) (.tuple ds)
theorem ke {K:Fg} {H H':Hp} {a:Addr} {xs:List V} (e:Same H H') (h:SqT K H a xs):SqT K H' a xs:=by
 rcases h with (h | ⟨o,h⟩) | h
 ·exact .inl (.inl (e _ _ h))
 ·exact .inl (.inr ⟨o,e _ _ h⟩)
 ·exact .inr h
theorem Rep.mono {K:Fg} {H H':Hp} {v:V} {d:D} (e:Same H H') (h:Rep K H v d):Rep K H' v d:=by
 induction h with
 | non=>exact .non
 | bl b=>exact .bl b
 | int i=>exact .int i
 | str x=>exact .str x
 | lst hs hl _ ih=>exact .lst (e.seq hs) hl ih
 | tup hs hl _ ih=>exact .tup (ke e hs) hl ih
def Reps (K:Fg) (H:Hp) (vs:List V) (ds:List D):Prop:=vs.length=ds.length/\∀(i:Nat) v d,vs[i]?=some v->ds[i]?=some d->Rep K H v d
def bY (H:Hp) (O:List Addr):Hp:=fun a=>if a∈O then none else H a
theorem hid_le {H:Hp} {O:List Addr}:Same (bY H O) H:=fun b o h=>by
 unfold bY at h;split at h
 ·cases h
 ·exact h
theorem vN {H:Hp} {O:List Addr} {a:Addr} {o:HO} (h:H a=some o) (n:a∉O):bY H O a=some o:=by
 unfold bY;rw [if_neg n];exact h
theorem qm {H H':Hp} {O O':List Addr} (e:Same H H') (h:∀a∈O',a∈O\/H a=none):Same (bY H O) (bY H' O'):=fun b o q=>by
 unfold bY at q ⊢
 split at q
 ·cases q
 ·rename_i hn
  have hb:b∉O':=fun z=>(h b z).elim hn fun z=>by rw [z] at q;cases q
  rw [if_neg hb];exact e b o q
theorem GB {H:Hp} {O:List Addr} {p:Addr} {o:HO} (h:p∈O):bY (bA H p o) O=bY H O:=by
 funext b
 unfold bY;split
 ·rfl
 ·rename_i hb
  exact cS fun e=>hb (e▸h)
theorem GA {H:Hp}:bY H []=H:=by
 funext b;unfold bY;simp
theorem gC {H:Hp} {p:Addr} {o:HO} (h:H p=none):Same H (bA H p o):=fun b u e=>by
 rw [cS (kj e h)];exact e
inductive Sh where
 | view | leaf | lst (s:Sh) | tup (ss:List Sh)
def Sh.isView:Sh->Bool
 | .view=>true
 | _=>false
inductive Own (K:Fg) (O:List Addr) (H:Hp):Sh->List Addr->V->D->Prop where
 | view {v d}:Rep K H v d->Own K O H .view [] v d
 | leaf {v d}:Rep K (bY H O) v d->Own K O H .leaf [] v d
 | lst {s:Sh} {p:Addr} {vs:List V} {ds:List D} {Fs:List (List Addr)}:s.isView=false->H p=some (.lst vs)->vs.length=ds.length->Fs.length=ds.length->(p::Fs.flatten).Nodup ->
   (∀(i:Nat) v d F,vs[i]?=some v->ds[i]?=some d->Fs[i]?=some F->Own K O H s F v d)->Own K O H (.lst s) (p::Fs.flatten) (.ref p) (.list ds)
 | tup {ss:List Sh} {p:Addr} {vs:List V} {ds:List D} {Fs:List (List Addr)}:(∀s∈ss,s.isView=false)->H p=some (.tup vs)->p∉O->vs.length=ds.length->Fs.length=ds.length->ss.length=ds.length->Fs.flatten.Nodup ->
   (∀(i:Nat) v d F s,vs[i]?=some v->ds[i]?=some d->Fs[i]?=some F->ss[i]?=some s->Own K O H s F v d)->Own K O H (.tup ss) Fs.flatten (.ref p) (.tuple ds)
theorem Own.mono {K:Fg} {O O':List Addr} {H H':Hp} {s:Sh} {G:List Addr} {v:V} {d:D} (h:Own K O H s G v d) (e:Same H H') (hO:∀a∈O',a∈O\/H a=none):Own K O' H' s G v d:=by
 induction h with
 | view r=>exact .view (r.mono e)
 | leaf r=>exact .leaf (r.mono (qm e hO))
 | lst hv hp hl hf nd _ ih=>exact .lst hv (e _ _ hp) hl hf nd fun i v d F h1 h2 h3=>ih i v d F h1 h2 h3
 | tup hv hp hn hl hf hs nd _ ih=>exact .tup hv (e _ _ hp) (fun z=>(hO _ z).elim hn fun z=>by rw [z] at hp;cases hp) hl hf hs nd fun i v d F s h1 h2 h3 h4=>ih i v d F s h1 h2 h3 h4
theorem Own.rep {K:Fg} {O:List Addr} {H:Hp} {s:Sh} {G:List Addr} {v:V} {d:D} (h:Own K O H s G v d):Rep K H v d:=by
 induction h with
 | view r=>exact r
 | leaf r=>exact r.mono hid_le
 | lst hv hp hl hf _ q ih=>
  refine .lst (.of hp) hl fun i v d h1 h2=>?_
  rename_i Fs _;obtain ⟨F,hF⟩:∃F,Fs[i]?=some F:=by
   have:=(List.getElem?_eq_some_iff.mp h2).1
   exact ⟨Fs[i]'(by omega),getElem?_eq_getElem _⟩
  exact ih i v d F h1 h2 hF
 | tup hv hp hn hl hf hs _ q ih=>
  refine .tup (.of hp) hl fun i v d h1 h2=>?_
  rename_i ss _ _ _ Fs _;have hi:=(List.getElem?_eq_some_iff.mp h2).1
  exact ih i v d (Fs[i]'(by omega)) (ss[i]'(by omega)) h1 h2 (getElem?_eq_getElem _) (getElem?_eq_getElem _)
theorem nS {Fs:List (List Addr)} {i:Nat} {F:List Addr} {a:Addr} (h:Fs[i]?=some F) (ha:a∈F):a∈Fs.flatten:=List.mem_flatten.mpr ⟨F,mem_of_getElem? h,ha⟩
theorem Own.freeze {K:Fg} {O O':List Addr} {H:Hp} {s:Sh} {G:List Addr} {v:V} {d:D} (h:Own K O H s G v d) (hs:s.isView=false) (h1:∀a∈O',a∈O) (h2:∀a∈G,a∉O'):Rep K (bY H O') v d:=by
 induction h with
 | view r=>cases hs
 | leaf r=>exact r.mono (qm (Same.refl _) fun a z=>.inl (h1 a z))
 | lst hv hp hl hf _ q ih=>
  refine .lst (.of (vN hp (h2 _ mem_cons_self))) hl fun i v d e1 e2=>?_
  rename_i Fs _;obtain ⟨F,hF⟩:∃F,Fs[i]?=some F:=by
   have:=(List.getElem?_eq_some_iff.mp e2).1
   exact ⟨Fs[i]'(by omega),getElem?_eq_getElem _⟩
  exact ih i v d F e1 e2 hF hv fun a ha=>h2 a (mem_cons_of_mem _ (nS hF ha))
 | tup hv hp hn hl hf hs' _ q ih=>
  refine .tup (.of (vN hp fun z=>hn (h1 _ z))) hl fun i v d e1 e2=>?_
  rename_i ss _ _ _ Fs _;have hi:=(List.getElem?_eq_some_iff.mp e2).1
  have e3:Fs[i]?=some (Fs[i]'(by omega)):=getElem?_eq_getElem _
  exact ih i v d _ (ss[i]'(by omega)) e1 e2 e3 (getElem?_eq_getElem _) (hv _ (getElem_mem _)) fun a ha=>h2 a (nS e3 ha)
theorem Own.mut {K:Fg} {O:List Addr} {H:Hp} {s:Sh} {G:List Addr} {v:V} {d:D} {p:Addr} {o:HO} {xs:List V} (h:Own K O H s G v d) (hs:s.isView=false) (hp:p∈O) (hg:p∉G) (hl:H p=some (.lst xs)):Own K O (bA H p o) s G v d:=by
 induction h with
 | view r=>cases hs
 | leaf r=>refine .leaf ?_;rw [GB hp];exact r
 | lst hv hq hl' hf nd q ih=>
  refine .lst hv ?_ hl' hf nd fun i v d F e1 e2 e3=>ih i v d F e1 e2 e3 hv fun z=>hg (mem_cons_of_mem _ (nS e3 z))
  rw [cS (fun z=>hg (by rw [<-z];exact mem_cons_self))]
  exact hq
 | tup hv hq hn hl' hf hs' nd q ih=>
  refine .tup hv ?_ hn hl' hf hs' nd fun i v d F s e1 e2 e3 e4=>ih i v d F s e1 e2 e3 e4 (hv _ (mem_of_getElem? e4)) fun z=>hg (nS e3 z)
  rw [cS (fun z=>by rw [z,hl] at hq;cases hq)]
  exact hq
inductive Sc:V->D->Prop where
 | non:Sc .non .none
 | bl (b:Bool):Sc (.bl b) (.bool b)
 | int (i:Int):Sc (.int i) (.int i)
 | str (x:Str):Sc (.str x) (.str x)
theorem Sc.rep {K:Fg} {H:Hp} {v:V} {d:D} (h:Sc v d):Rep K H v d:=by cases h<;>constructor
def bJ:D->Bool
 | .list _=>false
 | .tuple _=>false
 | .dict _=>false
 | _=>true
theorem Rep.sc {K:Fg} {H:Hp} {v:V} {d:D} (h:Rep K H v d) (s:bJ d=true):Sc v d:=by
 cases h with
 | non=>exact .non
 | bl b=>exact .bl b
 | int i=>exact .int i
 | str x=>exact .str x
 | lst _ _ _=>cases s
 | tup _ _ _=>cases s
structure PV where
 s:Sh
 d:D
abbrev Ev:=List (Option PV)
inductive Out (α:Type) where
 | ok (a:α) (e:Ev)
 | er (c:Str) (e:Ev)
 | no
def Out.bind {α β:Type} (x:Out α) (k:α->Ev->Out β):Out β:=match x with
 | .ok a e=>k a e
 | .er c e=>.er c e
 | .no=>.no
structure EnvOk (K:Fg) (He:Hp) (O:List Addr) (Fs:List (List Addr)) (H:Hp) (σ:St) (Γ:Ev):Prop where
 len1:σ.length=Γ.length
 len2:Fs.length=Γ.length
 same:Same He H
 nd:(O++Fs.flatten).Nodup
 inH:∀a∈O++Fs.flatten,H a≠none
 fresh:∀a∈Fs.flatten,He a=none
 slot:∀(i:Nat) (p:PV),Γ[i]?=some (some p)->p.s.isView=false/\∃v F,σ[i]?=some (some v)/\Fs[i]?=some F/\Own K (O++Fs.flatten) H p.s F v p.d
section
variable {K:Fg} {He H H':Hp} {O O' G:List Addr} {Fs:List (List Addr)} {σ:St} {Γ:Ev}
theorem EnvOk.grow (h:EnvOk K He O Fs H σ Γ) (e:Same H H'):EnvOk K He O Fs H' σ Γ:=
 ⟨h.len1,h.len2,h.same.trans e,h.nd,fun a ha z=>h.inH a ha (e.free z),h.fresh,fun i p q=>let ⟨a,v,F,b,c,d⟩:=h.slot i p q;⟨a,v,F,b,c,d.mono e fun _ z=>.inl z⟩⟩
theorem EnvOk.drop (h:EnvOk K He O Fs H σ Γ) (hs:∀a∈O',a∈O) (nd:O'.Nodup):EnvOk K He O' Fs H σ Γ:=by
 obtain ⟨n1,n2,n3⟩:=List.nodup_append.mp h.nd;refine ⟨h.len1,h.len2,h.same,List.nodup_append.mpr ⟨nd,n2,fun a ha b hb=>n3 a (hs a ha) b hb⟩,fun a ha=>h.inH a ?_,h.fresh,fun i p q=>let ⟨a,v,F,b,c,d⟩:=h.slot i p q;⟨a,v,F,b,c,d.mono (Same.refl _) fun a z=>.inl ?_⟩⟩
 ·rcases List.mem_append.mp ha with z | z
  ·exact mem_append_left _ (hs a z)
  ·exact mem_append_right _ z
 ·rcases List.mem_append.mp z with z | z
  ·exact mem_append_left _ (hs a z)
  ·exact mem_append_right _ z
theorem EnvOk.dropL (h:EnvOk K He (G++O) Fs H σ Γ):EnvOk K He O Fs H σ Γ:=h.drop (fun a z=>mem_append_right _ z) (List.nodup_append.mp (List.nodup_append.mp h.nd).1).2.1
theorem EnvOk.hide (h:EnvOk K He O Fs H σ Γ) (e:Same H H') (nd:G.Nodup) (hn:∀a∈G,H a=none) (hi:∀a∈G,H' a≠none):EnvOk K He (G++O) Fs H' σ Γ:=by
 refine ⟨h.len1,h.len2,h.same.trans e,?_,fun a ha=>?_,h.fresh,fun i p q=>let ⟨a,v,F,b,c,d⟩:=h.slot i p q;⟨a,v,F,b,c,d.mono e fun a z=>?_⟩⟩
 ·rw [append_assoc]
  exact List.nodup_append.mpr ⟨nd,h.nd,fun a ha b hb z=>h.inH b hb (by rw [<-z];exact hn a ha)⟩
 ·rw [append_assoc] at ha
  rcases List.mem_append.mp ha with z | z
  ·exact hi a z
  ·exact fun q=>h.inH a z (e.free q)
 ·rw [append_assoc] at z
  rcases List.mem_append.mp z with z | z
  ·exact .inr (hn a z)
  ·exact .inl z
end
structure Aft (K:Fg) (He:Hp) (O:List Addr) (Fs:List (List Addr)) (H:Hp) (σ:St) (Γ':Ev) (p:PV) (v:V) (H':Hp) (G:List Addr) (Fs':List (List Addr)):Prop where
 same:Same H H'
 env:EnvOk K He (G++O) Fs' H' σ Γ'
 new:∀a∈G++Fs'.flatten,a∈Fs.flatten\/H a=none
 own:Own K (G++O++Fs'.flatten) H' p.s G v p.d
abbrev XW:=Str->St->Hp->Prop
abbrev F1:=Ev->Out PV
def tE (K:Fg) (W:XW) (f:F1):TE:=fun σ H Q=>∃He O Fs Γ,EnvOk K He O Fs H σ Γ/\match f Γ with
 | .ok p Γ'=>∀v H' G Fs',Aft K He O Fs H σ Γ' p v H' G Fs'->Q v H'
 | .er c Γ'=>∀H' Fs',Same H H'->EnvOk K He O Fs' H' σ Γ'->W c σ H'
 | .no=>False
def Wants (K:Fg) (W:XW) (He:Hp) (O:List Addr) (Fs:List (List Addr)) (H:Hp) (σ:St) (Q:VK) (o:Out PV):Prop:=match o with
 | .ok p Γ'=>∀v H' G Fs',Aft K He O Fs H σ Γ' p v H' G Fs'->Q v H'
 | .er c Γ'=>∀H' Fs',Same H H'->EnvOk K He O Fs' H' σ Γ'->W c σ H'
 | .no=>False
section
variable {K:Fg} {W:XW} {He H:Hp} {O:List Addr} {Fs:List (List Addr)} {σ:St} {Γ Γ':Ev} {Q:VK}
theorem Wants.scal {H2:Hp} {O2:List Addr} {Fs2:List (List Addr)} {v:V} {d:D} (h:Wants K W He O Fs H σ Q (.ok ⟨.leaf,d⟩ Γ')) (s:Sc v d) (e:Same H H2) (E:EnvOk K He O2 Fs2 H2 σ Γ')
  (hO:∀a∈O,a∈O2) (nd:O.Nodup) (new:∀a∈Fs2.flatten,a∈Fs.flatten\/H a=none):Q v H2:=
 h v H2 [] Fs2 ⟨e,by rw [nil_append];exact E.drop hO nd,by rw [nil_append];exact new,.leaf s.rep⟩
theorem EnvOk.ndO (E:EnvOk K He O Fs H σ Γ):O.Nodup:=(List.nodup_append.mp E.nd).1
end
def aW {β:Type} (f:F1) (k:PV->Ev->Out β):Ev->Out β:=fun Γ=>(f Γ).bind k
section
variable {K:Fg} {W:XW} {σ:St} {H:Hp} {Q:VK} {fa fb:F1}
theorem zF {k:PV->F1} {R:VK} (h:tE K W (aW fa k) σ H Q)
  (hk:∀He O Fs Γ1 p v H1 G Fs1,O.Nodup->Aft K He O Fs H σ Γ1 p v H1 G Fs1->Wants K W He O Fs H σ Q (k p Γ1)->R v H1):tE K W fa σ H R:=by
 obtain ⟨He,O,Fs,Γ,E,h⟩:=h;refine ⟨He,O,Fs,Γ,E,?_⟩
 unfold aW at h
 cases e:fa Γ with
 | ok p Γ1=>
  rw [e] at h;exact fun v H' G Fs' A=>hk He O Fs Γ1 p v H' G Fs' E.ndO A h
 | er c Γ1=>
  rw [e] at h;exact h
 | no=>
  rw [e] at h;exact h
theorem Cn {k:PV->PV->F1} {R:V->V->Hp->Prop} (h:tE K W (aW fa fun p=>aW fb fun q=>k p q) σ H Q)
  (hk:∀He O Fs Γ2 p q v u H1 H2 G1 G2 Fs2,O.Nodup->Same H H1->Same H1 H2->EnvOk K He (G2++(G1++O)) Fs2 H2 σ Γ2->(∀a∈G2++(G1++Fs2.flatten),a∈Fs.flatten\/H a=none) ->
   Own K (G2++(G1++O)++Fs2.flatten) H2 p.s G1 v p.d->Own K (G2++(G1++O)++Fs2.flatten) H2 q.s G2 u q.d->Wants K W He O Fs H σ Q (k p q Γ2)->R v u H2) :
  tE K W fa σ H fun v H1=>tE K W fb σ H1 fun u H2=>R v u H2:=by
 refine zF (k:=fun p=>aW fb fun q=>k p q) h fun He O Fs Γ1 p v H1 G1 Fs1 nd A1 h1=>?_
 refine ⟨He,G1++O,Fs1,Γ1,A1.env,?_⟩
 unfold aW at h1
 cases e:fb Γ1 with
 | ok q Γ2=>
  rw [e] at h1;intro u H2 G2 Fs2 A2;have new:∀a∈G2++(G1++Fs2.flatten),a∈Fs.flatten\/H a=none:=fun a ha=>by
   have up:a∈G1++Fs1.flatten->a∈Fs.flatten\/H a=none:=A1.new a
   rcases List.mem_append.mp ha with z | z
   ·rcases A2.new a (mem_append_left _ z) with y | y
    ·exact up (mem_append_right _ y)
    ·exact .inr (A1.same.free y)
   ·rcases List.mem_append.mp z with z | z
    ·exact up (mem_append_left _ z)
    ·rcases A2.new a (mem_append_right _ z) with y | y
     ·exact up (mem_append_right _ y)
     ·exact .inr (A1.same.free y)
  refine hk He O Fs Γ2 p q v u H1 H2 G1 G2 Fs2 nd A1.same A2.same A2.env new (A1.own.mono A2.same fun a ha=>?_) A2.own h1
  rcases List.mem_append.mp ha with z | z
  ·rcases List.mem_append.mp z with z | z
   ·rcases A2.new a (mem_append_left _ z) with y | y
    ·exact .inl (mem_append_right _ y)
    ·exact .inr y
   ·exact .inl (mem_append_left _ z)
  ·rcases A2.new a (mem_append_right _ z) with y | y
   ·exact .inl (mem_append_right _ y)
   ·exact .inr y
 | er c Γ2=>
  rw [e] at h1;intro H2 Fs2 hs E2;exact h1 H2 Fs2 (A1.same.trans hs) E2.dropL
 | no=>
  rw [e] at h1;exact h1
end
section
variable {X:Cx} {e:Expr}
theorem bh {t t':TE} (h:PE X e t) (i:∀σ H Q,t' σ H Q->t σ H Q):PE X e t':=fun pins s σ H Q I q=>h pins s σ H Q I (i σ H Q q)
theorem qi {t t':TT} (h:PT X e t) (i:∀σ H Q,t' σ H Q->t σ H Q):PT X e t':=fun pins s σ H Q I q=>h pins s σ H Q I (i σ H Q q)
theorem zA {t t':TT} (h:PW X e t) (i:∀σ H Q,t' σ H Q->t σ H Q):PW X e t':=fun whole pins s σ H Q I q=>h whole pins s σ H Q I (i σ H Q q)
theorem zB {es:List Expr} {t t':TA} (h:PA X es t) (i:∀σ H Q,t' σ H Q->t σ H Q):PA X es t':=fun pos pins s σ H Q I q=>h pos pins s σ H Q I (i σ H Q q)
theorem dy {st:Stmt} {t t':TS} (h:PS X st t) (i:∀D σ H,t' D σ H->t D σ H):PS X st t':=fun pins s σ H D I q=>h pins s σ H D I (i D σ H q)
theorem vI {st:List Stmt} {t t':TS} (h:PSs X st t) (i:∀D σ H,t' D σ H->t D σ H):PSs X st t':=fun pins s σ H D I q=>h pins s σ H D I (i D σ H q)
theorem D9 {es:List Expr} {t t':TT} (h:PF X es t) (i:∀σ H Q,t' σ H Q->t σ H Q):PF X es t':=fun pins s σ H Q I q=>h pins s σ H Q I (i σ H Q q)
end
theorem HC {h:Heap}:∀{vs:List V} {its:List Value} {ds:List D},Vals vs its->vs.length=ds.length->(∀(i:Nat) v d,vs[i]?=some v->ds[i]?=some d->∀u,RelV v u->∃as,Reads h u d as)->∃as,ReadsAll h its ds as
 | _,_,[],.nil,_,_=>⟨_,.nil⟩
 | _,_,d::ds,.cons (a:=v) (b:=u) r t,hl,h=>by
  obtain ⟨as,ra⟩:=h 0 v d rfl rfl u r;obtain ⟨bs,rb⟩:=HC t (by simpa using hl) fun i v d h1 h2=>h (i+1) v d (by simpa using h1) (by simpa using h2)
  exact ⟨_,.cons ra rb⟩
 | _,_,[],.cons _ _,hl,_=>by simp at hl
 | _,_,_::_,.nil,hl,_=>by simp at hl
theorem Rep.reads {X:Cx} {pins:List (Addr×Obj)} {σ:St} {H:Hp} {s:Shared} {x:V} {d:D} (I:Inv X pins σ H s) (r:Rep X.K H x d):∀u,RelV x u->∃as,Reads s.heap u d as:=by
 induction r with
 | non=>rintro u rfl;exact ⟨_,.none⟩
 | bl b=>rintro u rfl;exact ⟨_,.bool b⟩
 | int i=>rintro u ⟨t,rfl⟩;exact ⟨_,.int i t⟩
 | str x=>rintro u ⟨t,rfl⟩;exact ⟨_,.str x t⟩
 | lst hq hl _ ih=>
  rintro u rfl
  obtain ⟨its,rv,⟨o,n,e1,e2,e3,e4⟩,_⟩:=I.list hq;obtain ⟨as,ra⟩:=HC rv hl ih;exact ⟨_,.list e1 e2 e4 (by simpa using ra)⟩
 | tup hq hl _ ih=>
  rintro u rfl
  obtain ⟨its,rv,⟨o,e1,e2,n,e4⟩,_⟩:=I.tuple hq;obtain ⟨as,ra⟩:=HC rv hl ih;exact ⟨_,.tuple e1 e2 e4 (by simpa using ra)⟩
theorem nX {α:Type} {F G:List α}:∀{Fs:List (List α)} {i:Nat},Fs[i]?=some F->(F++(Fs.set i G).flatten).Perm (G++Fs.flatten)
 | [],_,h=>by simp at h
 | A::r,0,h=>by
  simp at h
  subst h;simp only [List.set_cons_zero,flatten_cons]
  rw [<-append_assoc,<-append_assoc];exact List.Perm.append_right _ perm_append_comm
 | A::r,i+1,h=>by
  have ih:=nX (G:=G) (Fs:=r) (i:=i) (by simpa using h)
  simp only [List.set_cons_succ,flatten_cons]
  calc (F++(A++(r.set i G).flatten)).Perm (A++(F++(r.set i G).flatten)):=by
        rw [<-append_assoc,<-append_assoc];exact List.Perm.append_right _ perm_append_comm
    _ |>.Perm (A++(G++r.flatten)):=List.Perm.append_left _ ih
    _ |>.Perm (G++(A++r.flatten)):=by
        rw [<-append_assoc,<-append_assoc];exact List.Perm.append_right _ perm_append_comm
section
variable {K:Fg} {He H:Hp} {O G:List Addr} {Fs:List (List Addr)} {σ:St} {Γ:Ev}
theorem EnvOk.lt (E:EnvOk K He O Fs H σ Γ) {i:Nat} (h:i<Γ.length):∃F,Fs[i]?=some F:=⟨Fs[i]'(by rw [E.len2];exact h),getElem?_eq_getElem _⟩
theorem EnvOk.move {i:Nat} {p:PV} (E:EnvOk K He O Fs H σ Γ) (h:Γ[i]?=some (some p)) :
  p.s.isView=false/\∃v F,σ[i]?=some (some v)/\EnvOk K He (F++O) (Fs.set i []) H σ (Γ.set i none)/\Own K (F++O++(Fs.set i []).flatten) H p.s F v p.d/\(∀a∈F++(Fs.set i []).flatten,a∈Fs.flatten):=by
 obtain ⟨hv,v,F,h1,h2,h3⟩:=E.slot i p h;have pm:(F++(Fs.set i []).flatten).Perm Fs.flatten:=by simpa using nX (G:=[]) h2
 have pm2:(F++O++(Fs.set i []).flatten).Perm (O++Fs.flatten):=by
  rw [append_assoc]
  calc (F++(O++(Fs.set i []).flatten)).Perm (O++(F++(Fs.set i []).flatten)):=by
        rw [<-append_assoc,<-append_assoc];exact List.Perm.append_right _ perm_append_comm
    _ |>.Perm (O++Fs.flatten):=List.Perm.append_left _ pm
 refine ⟨hv,v,F,h1,⟨by rw [length_set];exact E.len1,by rw [length_set,length_set];exact E.len2,E.same,pm2.nodup_iff.mpr E.nd,fun a ha=>E.inH a (pm2.mem_iff.mp ha),fun a ha=>E.fresh a (pm.mem_iff.mp (mem_append_right _ ha)),fun j q hq=>?_⟩,h3.mono (Same.refl _) fun a ha=>.inl (pm2.mem_iff.mp ha),fun a ha=>pm.mem_iff.mp ha⟩
 by_cases hj:j=i
 ·subst hj
  rw [List.getElem?_set] at hq;split at hq
  ·split at hq<;>cases hq
  ·rename_i z
   exact absurd rfl z
 ·rw [getElem?_set_ne (Ne.symm hj)] at hq
  obtain ⟨w1,v',F',e1,e2,e3⟩:=E.slot j q hq;exact ⟨w1,v',F',e1,by rw [getElem?_set_ne (Ne.symm hj)];exact e2,e3.mono (Same.refl _) fun a ha=>.inl (pm2.mem_iff.mp ha)⟩
theorem EnvOk.put {i:Nat} {p:PV} {v:V} (E:EnvOk K He (G++O) Fs H σ Γ) (ho:Own K (G++O++Fs.flatten) H p.s G v p.d) (hv:p.s.isView=false) (hn:∀a∈G,He a=none) (hi:i<Γ.length) :
  EnvOk K He O (Fs.set i G) H (σ.set i (some v)) (Γ.set i (some p)):=by
 obtain ⟨F,hF⟩:=E.lt hi;have pm:=nX (G:=G) hF
 have nd:=E.nd
 rw [append_assoc] at nd;have sub:∀a∈O++(Fs.set i G).flatten,a∈G++O++Fs.flatten:=fun a ha=>by
  rw [append_assoc];rcases List.mem_append.mp ha with z | z
  ·exact mem_append_right _ (mem_append_left _ z)
  ·rcases List.mem_append.mp (pm.mem_iff.mp (mem_append_right _ z)) with y | y
   ·exact mem_append_left _ y
   ·exact mem_append_right _ (mem_append_right _ y)
 refine ⟨by rw [length_set,length_set];exact E.len1,by rw [length_set,length_set];exact E.len2,E.same,?_,fun a ha=>E.inH a (sub a ha),fun a ha=>?_,fun j q hq=>?_⟩
 ·have p1:(O++(F++(Fs.set i G).flatten)).Perm (G++(O++Fs.flatten)):=by
   calc (O++(F++(Fs.set i G).flatten)).Perm (O++(G++Fs.flatten)):=List.Perm.append_left _ pm
     _ |>.Perm (G++(O++Fs.flatten)):=by
       rw [<-append_assoc,<-append_assoc];exact List.Perm.append_right _ perm_append_comm
  have p2:=p1.nodup_iff.mpr nd
  refine p2.sublist ?_
  exact List.Sublist.append_left (List.sublist_append_right _ _) _
 ·rcases List.mem_append.mp (pm.mem_iff.mp (mem_append_right _ ha)) with y | y
  ·exact hn a y
  ·exact E.fresh a y
 ·by_cases hj:j=i
  ·subst hj
   rw [getElem?_set_self hi] at hq
   cases hq;refine ⟨hv,v,G,?_,?_,ho.mono (Same.refl _) fun a ha=>.inl (sub a ha)⟩
   ·rw [getElem?_set_self (by rw [E.len1];exact hi)]
   ·rw [getElem?_set_self (by rw [E.len2];exact hi)]
  ·rw [getElem?_set_ne (Ne.symm hj)] at hq
   obtain ⟨w1,v',F',e1,e2,e3⟩:=E.slot j q hq;exact ⟨w1,v',F',by rw [getElem?_set_ne (Ne.symm hj)];exact e1,by rw [getElem?_set_ne (Ne.symm hj)];exact e2,e3.mono (Same.refl _) fun a ha=>.inl (sub a ha)⟩
theorem Aft.freshG {Γ':Ev} {p:PV} {v:V} {H':Hp} {Fs':List (List Addr)} (E:EnvOk K He O Fs H σ Γ) (A:Aft K He O Fs H σ Γ' p v H' G Fs'):∀a∈G,He a=none:=fun a ha=>by
 rcases A.new a (mem_append_left _ ha) with z | z
 ·exact E.fresh a z
 ·exact E.same.free z
end
def ae (i:Nat):F1:=fun Γ=>match Γ[i]? with
 | some (some p)=>(match p.s with
  | .leaf=>.ok ⟨.leaf,p.d⟩ Γ
  | _=>.ok ⟨.view,p.d⟩ Γ)
 | _=>.no
def cz (i:Nat):F1:=fun Γ=>match Γ[i]? with
 | some (some p)=>.ok p (Γ.set i none)
 | _=>.no
def eK (d:D):F1:=fun Γ=>.ok ⟨.leaf,d⟩ Γ
section
variable {X:Cx} {W:XW} {i:Nat} {e:Expr} {pos:Pos}
theorem Ap {K:Fg} {σ:St} {H:Hp} {Q:VK} (h:tE K W (ae i) σ H Q):br i σ H Q:=by
 obtain ⟨He,O,Fs,Γ,E,h⟩:=h;unfold ae at h
 cases e:Γ[i]? with
 | none=>rw [e] at h;exact h.elim
 | some o=>
  rw [e] at h
  cases o with
  | none=>exact h.elim
  | some p=>
   obtain ⟨hv,v,F,h1,h2,h3⟩:=E.slot i p e;obtain ⟨s,d⟩:=p;have new:∀a∈[]++Fs.flatten,a∈Fs.flatten\/H a=none:=fun a ha=>.inl (by simpa using ha)
   cases s with
   | leaf=>
    cases h3 with
    | leaf r=>exact ⟨v,h1,h v H [] Fs ⟨Same.refl _,by simpa using E,new,.leaf r⟩⟩
   | view=>cases hv
   | lst s=>exact ⟨v,h1,h v H [] Fs ⟨Same.refl _,by simpa using E,new,.view h3.rep⟩⟩
   | tup ss=>exact ⟨v,h1,h v H [] Fs ⟨Same.refl _,by simpa using E,new,.view h3.rep⟩⟩
theorem wZ {K:Fg} {σ:St} {H:Hp} {Q:VK} (h:tE K W (cz i) σ H Q):br i σ H Q:=by
 obtain ⟨He,O,Fs,Γ,E,h⟩:=h;unfold cz at h
 cases e:Γ[i]? with
 | none=>rw [e] at h;exact h.elim
 | some o=>
  rw [e] at h
  cases o with
  | none=>exact h.elim
  | some p=>
   obtain ⟨hv,v,F,h1,E',o',sub⟩:=E.move e;exact ⟨v,h1,h v H F (Fs.set i []) ⟨Same.refl _,E',fun a ha=>.inl (sub a ha),o'⟩⟩
theorem B5 (h:PE X e (br i)):PE X e (tE X.K W (ae i)):=bh h fun _ _ _=>Ap
theorem yh (h:PE X e (br i)):PE X e (tE X.K W (cz i)):=bh h fun _ _ _=>wZ
theorem tV {K:Fg} {σ:St} {H:Hp} {Q:VK} {v:V} {d:D} (hs:∀H,Rep K H v d) (h:tE K W (eK d) σ H Q):Q v H:=by
 obtain ⟨He,O,Fs,Γ,E,h⟩:=h;exact h v H [] Fs ⟨Same.refl _,by simpa using E,fun a ha=>.inl (by simpa using ha),.leaf (hs _)⟩
theorem yi {x:Str} {v:V} {u:Value} {d:D} (hg:Gl X x) (hm:X.mg x=some u) (r:RelV v u) (hr:∀H,Rep X.K H v d) (hd:(x==("__debug__":Str))=false:=by decide):PE X (.Name x pos) (tE X.K W (eK d)):=
 bh (xt hg hm r hd) fun _ _ _=>tV hr
end
def aE (g:D->D->Option D) (fa fb:F1):F1:=aW fa fun p=>aW fb fun q=>fun Γ=>match g p.d q.d with
 | some d=>.ok ⟨.leaf,d⟩ Γ
 | none=>.no
def GOp (K:Fg) (r:R2) (g:D->D->Option D):Prop:=∀x y H Q a b d,Rep K H x a->Rep K H y b->g a b=some d->(∀v,Sc v d->Q v H)->r x y H Q
section
variable {K:Fg} {W:XW} {σ:St} {H:Hp} {Q:VK} {fa fb:F1} {r:R2} {g:D->D->Option D}
theorem gF (hg:GOp K r g) (h:tE K W (aE g fa fb) σ H Q):vT r (tE K W fa) (tE K W fb) σ H Q:=by
 refine Cn h ?_
 intro He O Fs Γ2 p q v u H1 H2 G1 G2 Fs2 nd s1 s2 E new o1 o2 w
 cases e:g p.d q.d with
 | none=>rw [e] at w;exact w.elim
 | some d=>
  rw [e] at w;exact hg v u H2 Q p.d q.d d o1.rep o2.rep e fun z s=>w.scal s (s1.trans s2) E (fun a ha=>mem_append_right _ (mem_append_right _ ha)) nd fun a ha=>new a (mem_append_right _ (mem_append_right _ ha))
end
theorem GOp.or {K:Fg} {r r':R2} {g g':D->D->Option D} (h:GOp K r g) (h':GOp K r' g'):GOp K (fun x y H Q=>r x y H Q\/r' x y H Q) (fun a b=>(g a b).or (g' a b)):=by
 intro x y H Q a b d ra rb e k;have e:(g a b).or (g' a b)=some d:=e
 cases e1:g a b with
 | some z=>rw [e1] at e;cases e;exact .inl (h x y H Q a b _ ra rb e1 k)
 | none=>rw [e1] at e;exact .inr (h' x y H Q a b d ra rb (by simpa using e) k)
def gI (C:Int->Int->Bool) (f:Int->Int->D):D->D->Option D
 | .int i,.int j=>if C i j then some (f i j) else none
 | _,_=>none
theorem pZ {K:Fg} {C:Int->Int->Prop} {C':Int->Int->Bool} {g:Int->Int->V} {f:Int->Int->D} (hC:∀i j,C' i j=true->C i j) (hs:∀i j,Sc (g i j) (f i j)):GOp K (rI C g) (gI C' f):=by
 intro x y H Q a b d ra rb e k
 cases ra<;>cases rb<;>simp only [gI] at e<;>try cases e
 rename_i i j;split at e
 ·rename_i c
  cases e;exact ⟨i,j,rfl,rfl,hC i j c,k _ (hs i j)⟩
 ·cases e
def zr (f:Int->Int->D):D->D->Option D
 | .int i,.int j=>some (f i j)
 | _,_=>none
theorem Cj {K:Fg} {g:Int->Int->V} {f:Int->Int->D} (hs:∀i j,Sc (g i j) (f i j)):GOp K (pJ g) (zr f):=by
 intro x y H Q a b d ra rb e k
 cases ra<;>cases rb<;>simp only [zr] at e<;>try cases e
 rename_i i j;exact ⟨i,j,rfl,rfl,k _ (hs i j)⟩
abbrev gSub:=zr fun i j=>.int (i-j)
abbrev bf:=zr fun i j=>.int (i+j)
def r6 (i j:Int):Bool:=(decide (-(2 ^ 64)<i)&&decide (i<2 ^ 64))||(decide (-(2 ^ 64)<j)&&decide (j<2 ^ 64))
abbrev mS:=gI r6 fun i j=>.int (i*j)
def yu (_ j:Int):Bool:=decide (0<j)&&decide (j<1073741824)
abbrev vb:=gI yu fun i j=>.int (i / j)
def yt (_ j:Int):Bool:=decide (0<j)
abbrev gc:=gI yt fun i j=>.int (i % j)
def yr (i j:Int):Bool:=decide (0<=j)&&decide (j<=1000000)&&decide (i.natAbs<2 ^ 64)
abbrev x2:=gI yr fun i j=>.int (i ^ j.toNat)
mutual
def Sh.same:Sh->Sh->Bool
 | .view,.view=>true
 | .leaf,.leaf=>true
 | .lst a,.lst b=>Sh.same a b
 | .tup as,.tup bs=>Sh.sameL as bs
 | _,_=>false
def Sh.sameL:List Sh->List Sh->Bool
 | [],[]=>true
 | a::as,b::bs=>Sh.same a b&&Sh.sameL as bs
 | _,_=>false
end
mutual
theorem Sh.same_eq:∀{a b:Sh},Sh.same a b=true->a=b
 | .view,.view,_=>rfl
 | .leaf,.leaf,_=>rfl
 | .lst a,.lst b,h=>by rw [Sh.same_eq (a:=a) (b:=b) (by simpa [Sh.same] using h)]
 | .tup as,.tup bs,h=>by rw [Sh.sameL_eq (as:=as) (bs:=bs) (by simpa [Sh.same] using h)]
 | .view,.leaf,h=>by simp [Sh.same] at h
 | .view,.lst _,h=>by simp [Sh.same] at h
 | .view,.tup _,h=>by simp [Sh.same] at h
 | .leaf,.view,h=>by simp [Sh.same] at h
 | .leaf,.lst _,h=>by simp [Sh.same] at h
 | .leaf,.tup _,h=>by simp [Sh.same] at h
 | .lst _,.view,h=>by simp [Sh.same] at h
 | .lst _,.leaf,h=>by simp [Sh.same] at h
 | .lst _,.tup _,h=>by simp [Sh.same] at h
 | .tup _,.view,h=>by simp [Sh.same] at h
 | .tup _,.leaf,h=>by simp [Sh.same] at h
 | .tup _,.lst _,h=>by simp [Sh.same] at h
theorem Sh.sameL_eq:∀{as bs:List Sh},Sh.sameL as bs=true->as=bs
 | [],[],_=>rfl
 | a::as,b::bs,h=>by
  have h:Sh.same a b=true/\Sh.sameL as bs=true:=by simpa [Sh.sameL] using h
  rw [Sh.same_eq h.1,Sh.sameL_eq h.2]
 | [],_::_,h=>by simp [Sh.sameL] at h
 | _::_,[],h=>by simp [Sh.sameL] at h
end
def coer (s:Sh) (p:PV):Bool:=match s with
 | .leaf=>!p.s.isView||bJ p.d
 | .view=>false
 | s=>Sh.same s p.s
def aV (s:Sh) (G:List Addr):List Addr:=match s with
 | .leaf=>[]
 | _=>G
theorem Hq {s:Sh} {G:List Addr} {a:Addr} (h:a∈aV s G):a∈G:=by
 unfold aV at h;split at h
 ·simp at h
 ·exact h
theorem Own.coer {K:Fg} {O O':List Addr} {H:Hp} {s:Sh} {p:PV} {G:List Addr} {v:V} (h:Own K O H p.s G v p.d) (c:coer s p=true) (h1:∀a∈O',a∈O) (h2:∀a∈G,a∈O'->a∈aV s G):Own K O' H s (aV s G) v p.d:=by
 cases s with
 | view=>simp [T.coer] at c
 | leaf=>
  show Own K O' H .leaf [] v p.d
  have c:(!p.s.isView||bJ p.d)=true:=c
  cases hv:p.s.isView with
  | false=>exact .leaf (h.freeze hv h1 fun a ha z=>by simpa [aV] using h2 a ha z)
  | true=>
   rw [hv] at c;exact .leaf (h.rep.sc (by simpa using c)).rep
 | lst s=>
  have e:Sh.lst s=p.s:=Sh.same_eq c
  show Own K O' H (.lst s) G v p.d
  rw [e];exact h.mono (Same.refl _) fun a ha=>.inl (h1 a ha)
 | tup ss=>
  have e:Sh.tup ss=p.s:=Sh.same_eq c
  show Own K O' H (.tup ss) G v p.d
  rw [e];exact h.mono (Same.refl _) fun a ha=>.inl (h1 a ha)
open PySem.SeqAt in
def cV:D->D->Option D:=fun a b=>if shaped a&&shaped b then some (.bool (PyData.eqv a b)) else none
open PySem.SeqAt in
def iR:D->D->Option D:=fun a b=>if shaped a&&shaped b then some (.bool (!PyData.eqv a b)) else none
open PySem.SeqAt in
def qK (K:Fg) (neg:Bool):R2:=fun x y H Q=>∃a b,Rep K H x a/\Rep K H y b/\shaped a=true/\shaped b=true/\Q (.bl (if neg then !PyData.eqv a b else PyData.eqv a b)) H
section
variable {X:Cx}
theorem Bl (hu:X.A.units+64<cLine):OpR X (compareOp .Eq) (qK X.K false):=by
 intro pins s σ H x y v u Q I rx ry h;obtain ⟨a,b,ra,rb,sa,sb,q⟩:=h;obtain ⟨as,r1⟩:=ra.reads I v rx;obtain ⟨bs,r2⟩:=rb.reads I u ry;exact SeqAt.compareEq_shaped r1 r2 sa sb hu ⟨.bl _,H,I,rfl,q⟩
theorem Bg (hu:X.A.units+64<cLine):OpR X (compareOp .NotEq) (qK X.K true):=by
 intro pins s σ H x y v u Q I rx ry h;obtain ⟨a,b,ra,rb,sa,sb,q⟩:=h;obtain ⟨as,r1⟩:=ra.reads I v rx;obtain ⟨bs,r2⟩:=rb.reads I u ry;exact SeqAt.compareNe_shaped r1 r2 sa sb hu ⟨.bl _,H,I,rfl,q⟩
end
theorem BN {K:Fg}:GOp K (qK K false) cV:=by
 intro x y H Q a b d ra rb e k;unfold cV at e;split at e
 ·rename_i c
  cases e;simp only [Bool.and_eq_true] at c
  exact ⟨a,b,ra,rb,c.1,c.2,k _ (.bl _)⟩
 ·cases e
theorem BK {K:Fg}:GOp K (qK K true) iR:=by
 intro x y H Q a b d ra rb e k;unfold iR at e;split at e
 ·rename_i c
  cases e;simp only [Bool.and_eq_true] at c
  exact ⟨a,b,ra,rb,c.1,c.2,k _ (.bl _)⟩
 ·cases e
def BQ:D->D->Option D
 | .str i,.str j=>some (.bool (decide (i.cps.toList<j.cps.toList)))
 | _,_=>none
abbrev IM:=zr fun i j=>.bool (decide (i<j))
abbrev ia:D->D->Option D:=fun a b=>(IM a b).or (BQ a b)
abbrev zq:=zr fun i j=>.bool (decide (i<=j))
abbrev mT:=zr fun i j=>.bool (decide (j<i))
abbrev Ki:=zr fun i j=>.bool (decide (j<=i))
theorem xU {K:Fg}:GOp K (fun x y H Q=>∃i j,x=.str i/\y=.str j/\Q (.bl (decide (i.cps.toList<j.cps.toList))) H) BQ:=by
 intro x y H Q a b d ra rb e k
 cases ra<;>cases rb<;>simp only [BQ] at e<;>try cases e
 rename_i i j;exact ⟨i,j,rfl,rfl,k _ (.bl _)⟩
theorem BL {K:Fg}:GOp K (fun x y H Q=>pJ (fun i j=>.bl (decide (i<j))) x y H Q\/∃i j,x=.str i/\y=.str j/\Q (.bl (decide (i.cps.toList<j.cps.toList))) H) ia:=
 (Cj fun _ _=>.bl _).or xU
open PySem.SeqAt in
def bG (neg:Bool):D->D->Option D
 | a,.list xs=>if shaped a&&shaped (.list xs) then some (.bool (if neg then !xs.any fun y=>PyData.eqv y a else xs.any fun y=>PyData.eqv y a)) else none
 | a,.tuple xs=>if shaped a&&shaped (.tuple xs) then some (.bool (if neg then !xs.any fun y=>PyData.eqv y a else xs.any fun y=>PyData.eqv y a)) else none
 | _,_=>none
def t9 (K:Fg) (neg:Bool):R2:=fun x y H Q=>∃a b d,Rep K H x a/\Rep K H y b/\bG neg a b=some (.bool d)/\Q (.bl d) H
theorem u6 {K:Fg} {neg:Bool}:GOp K (t9 K neg) (bG neg):=by
 intro x y H Q a b d ra rb e k;have:∃c,d=.bool c:=by
  cases b<;>simp only [bG] at e<;>(try cases e)<;>(split at e<;>cases e<;>exact ⟨_,rfl⟩)
 obtain ⟨c,rfl⟩:=this;exact ⟨a,b,c,ra,rb,e,k _ (.bl c)⟩
theorem Fc {d:D} {xs:List D} (h:SeqAt.shaped d=true) (e:d=.list xs\/d=.tuple xs):PyData.canLayAll0 xs=true/\PyData.depthAll xs+1<=64:=by
 have h1:=SeqAt.canLay_of_shaped h
 have h2:=SeqAt.depth_of_shaped h
 rcases e with e | e<;>subst e<;>exact ⟨by simpa [PyData.canLay0] using h1,by simpa [PyData.depth] using h2⟩
section
variable {X:Cx}
theorem Bk (hu:X.A.units+64<cLine):OpR X (compareOp .In) (t9 X.K false):=by
 intro pins s σ H x y v u Q I rx ry h;obtain ⟨a,b,d,ra,rb,e,q⟩:=h;obtain ⟨as,r1⟩:=ra.reads I v rx;obtain ⟨bs,r2⟩:=rb.reads I u ry
 cases b<;>simp only [bG] at e<;>try cases e
 all_goals
  split at e
  ·rename_i c
   simp only [Bool.and_eq_true] at c
   simp only [Option.some.injEq,PyData.bool.injEq] at e
   subst e;first
    | (obtain ⟨p1,p2⟩:=Fc c.2 (.inl rfl)
       exact SeqAt.in_list_reads r2 r1 p1 (SeqAt.canLay_of_shaped c.1) (Nat.lt_of_le_of_lt (by have:=Nat.min_le_left (PyData.depthAll ‹_›) a.depth;omega) hu) ⟨.bl _,H,I,rfl,q⟩)
    | (obtain ⟨p1,p2⟩:=Fc c.2 (.inr rfl)
       exact SeqAt.in_tuple_reads r2 r1 p1 (SeqAt.canLay_of_shaped c.1) (Nat.lt_of_le_of_lt (by have:=Nat.min_le_left (PyData.depthAll ‹_›) a.depth;omega) hu) ⟨.bl _,H,I,rfl,q⟩)
  ·cases e
theorem qR (hu:X.A.units+64<cLine):OpR X (compareOp .NotIn) (t9 X.K true):=by
 intro pins s σ H x y v u Q I rx ry h;obtain ⟨a,b,d,ra,rb,e,q⟩:=h;obtain ⟨as,r1⟩:=ra.reads I v rx;obtain ⟨bs,r2⟩:=rb.reads I u ry
 cases b<;>simp only [bG] at e<;>try cases e
 all_goals
  split at e
  ·rename_i c
   simp only [Bool.and_eq_true] at c
   simp only [Option.some.injEq,PyData.bool.injEq] at e
   subst e;first
    | (obtain ⟨p1,p2⟩:=Fc c.2 (.inl rfl)
       exact SeqAt.notIn_list_reads r2 r1 p1 (SeqAt.canLay_of_shaped c.1) (Nat.lt_of_le_of_lt (by have:=Nat.min_le_left (PyData.depthAll ‹_›) a.depth;omega) hu) ⟨.bl _,H,I,rfl,q⟩)
    | (obtain ⟨p1,p2⟩:=Fc c.2 (.inr rfl)
       exact SeqAt.notIn_tuple_reads r2 r1 p1 (SeqAt.canLay_of_shaped c.1) (Nat.lt_of_le_of_lt (by have:=Nat.min_le_left (PyData.depthAll ‹_›) a.depth;omega) hu) ⟨.bl _,H,I,rfl,q⟩)
  ·cases e
end
def WantsB (K:Fg) (W:XW) (He:Hp) (O:List Addr) (Fs:List (List Addr)) (H:Hp) (σ:St) (Q:Bool->Hp->Prop) (o:Out Bool):Prop:=match o with
 | .ok b Γ'=>∀H' Fs',Same H H'->EnvOk K He O Fs' H' σ Γ'->(∀a∈Fs'.flatten,a∈Fs.flatten\/H a=none)->Q b H'
 | .er c Γ'=>∀H' Fs',Same H H'->EnvOk K He O Fs' H' σ Γ'->W c σ H'
 | .no=>False
abbrev FB:=Ev->Out Bool
def tT (K:Fg) (W:XW) (f:FB):TT:=fun σ H Q=>∃He O Fs Γ,EnvOk K He O Fs H σ Γ/\WantsB K W He O Fs H σ Q (f Γ)
section
variable {K:Fg} {W:XW} {He H H1:Hp} {O:List Addr} {Fs Fs1:List (List Addr)} {σ:St} {Γ Γ':Ev} {Q:VK} {QB:Bool->Hp->Prop}
theorem Wants.after {o:Out PV} (h:Wants K W He O Fs H σ Q o) (s:Same H H1) (n:∀a∈Fs1.flatten,a∈Fs.flatten\/H a=none):Wants K W He O Fs1 H1 σ Q o:=by
 cases o with
 | ok p Γ'=>exact fun v H' G Fs' A=>h v H' G Fs' ⟨s.trans A.same,A.env,fun a ha=>(A.new a ha).elim (n a) fun z=>.inr (s.free z),A.own⟩
 | er c Γ'=>exact fun H' Fs' e E=>h H' Fs' (s.trans e) E
 | no=>exact h
theorem WantsB.after {o:Out Bool} (h:WantsB K W He O Fs H σ QB o) (s:Same H H1) (n:∀a∈Fs1.flatten,a∈Fs.flatten\/H a=none):WantsB K W He O Fs1 H1 σ QB o:=by
 cases o with
 | ok p Γ'=>exact fun H' Fs' e E n'=>h H' Fs' (s.trans e) E fun a ha=>(n' a ha).elim (n a) fun z=>.inr (s.free z)
 | er c Γ'=>exact fun H' Fs' e E=>h H' Fs' (s.trans e) E
 | no=>exact h
theorem Aft.go {p:PV} {v:V} {G:List Addr} (A:Aft K He O Fs H σ Γ' p v H1 G Fs1):EnvOk K He O Fs1 H1 σ Γ':=A.env.dropL
theorem Aft.newF {p:PV} {v:V} {G:List Addr} (A:Aft K He O Fs H σ Γ' p v H1 G Fs1):∀a∈Fs1.flatten,a∈Fs.flatten\/H a=none:=fun a ha=>A.new a (mem_append_right _ ha)
end
section
variable {K:Fg} {W:XW} {σ:St} {H:Hp} {Q:VK} {QB:Bool->Hp->Prop} {fa fb fc:F1} {ga gb:FB}
def aQ (g:D->Option Bool) (f:F1):FB:=fun Γ=>(f Γ).bind fun p Γ'=>match g p.d with
 | some b=>.ok b Γ'
 | none=>.no
theorem pv {g:D->Option Bool} {R:VK} (h:tT K W (aQ g fa) σ H QB) (hR:∀v d b H1,Rep K H1 v d->g d=some b->QB b H1->R v H1):tE K W fa σ H R:=by
 obtain ⟨He,O,Fs,Γ,E,h⟩:=h;refine ⟨He,O,Fs,Γ,E,?_⟩
 unfold aQ at h
 cases e:fa Γ with
 | ok p Γ'=>
  rw [e] at h;intro v H' G Fs' A
  have h:WantsB K W He O Fs H σ QB (match g p.d with | some b=>.ok b Γ' | none=>.no):=h
  cases e2:g p.d with
  | some b=>
   rw [e2] at h;exact hR v p.d b H' A.own.rep e2 (h H' Fs' A.same A.go A.newF)
  | none=>rw [e2] at h;exact h.elim
 | er c Γ'=>rw [e] at h;exact h
 | no=>rw [e] at h;exact h
def ax:D->Option Bool
 | .bool b=>some b
 | _=>none
theorem pG {t:TE} (hi:∀Q,tE K W fa σ H Q->t σ H Q) (h:tT K W (aQ ax fa) σ H QB):tf t σ H QB:=by
 refine hi _ (pv h fun v d b H1 r e q=>?_)
 cases r<;>simp only [ax] at e<;>try cases e
 exact ⟨_,rfl,q⟩
def bF:D->Option Bool
 | .none=>some false
 | .bool b=>some b
 | .int i=>some (i != 0)
 | .str x=>if x.length<=sizeLine then some ((x.length:Int) != 0) else none
 | .list xs=>some (!xs.isEmpty)
 | .tuple xs=>some (!xs.isEmpty)
 | .dict _=>none
theorem Ar (h:tT K W (aQ bF fa) σ H QB):tE K W fa σ H fun x H'=>∃k,yA K x H' k/\QB k H':=by
 refine pv h fun v d b H1 r e q=>?_
 cases r with
 | non=>cases e;exact ⟨_,rfl,q⟩
 | bl c=>cases e;exact ⟨_,rfl,q⟩
 | int i=>cases e;exact ⟨_,rfl,q⟩
 | str x=>
  simp only [bF] at e
  split at e
  ·rename_i z;cases e;exact ⟨_,⟨z,rfl⟩,q⟩
  ·cases e
 | @lst p vs ds hq hl _=>
  cases e;exact ⟨_,.inl ⟨vs,hq,by cases vs<;>cases ds<;>simp_all⟩,q⟩
 | @tup p vs ds hq hl _=>
  cases e;exact ⟨_,.inr (.inl ⟨vs,hq,by cases vs<;>cases ds<;>simp_all⟩),q⟩
def gz (a b:FB):FB:=fun Γ=>(a Γ).bind fun c Γ'=>if c then b Γ' else .ok false Γ'
def nK (a b:FB):FB:=fun Γ=>(a Γ).bind fun c Γ'=>if c then .ok true Γ' else b Γ'
def dr (a:FB):FB:=fun Γ=>(a Γ).bind fun c Γ'=>.ok (!c) Γ'
theorem GU {k:Bool->Ev->Out Bool} {R:Bool->Hp->Prop} (h:tT K W (fun Γ=>(ga Γ).bind k) σ H QB)
  (hk:∀(He:Hp) (O:List Addr) Γ1 b H1 Fs1,Same H H1->EnvOk K He O Fs1 H1 σ Γ1->WantsB K W He O Fs1 H1 σ QB (k b Γ1)->R b H1):tT K W ga σ H R:=by
 obtain ⟨He,O,Fs,Γ,E,h⟩:=h;have h:WantsB K W He O Fs H σ QB ((ga Γ).bind k):=h
 refine ⟨He,O,Fs,Γ,E,?_⟩
 cases e:ga Γ with
 | ok b Γ1=>rw [e] at h;exact fun H' Fs' s E' n=>hk He O Γ1 b H' Fs' s E' (WantsB.after (o:=k b Γ1) h s n)
 | er c Γ1=>rw [e] at h;exact h
 | no=>rw [e] at h;exact h
theorem WantsB.now {He:Hp} {O:List Addr} {Fs:List (List Addr)} {Γ:Ev} {b:Bool} (h:WantsB K W He O Fs H σ QB (.ok b Γ)) (E:EnvOk K He O Fs H σ Γ):QB b H:=h H Fs (Same.refl _) E fun _ z=>.inl z
theorem xi (h:tT K W (gz ga gb) σ H QB):C8 (tT K W ga) (tT K W gb) σ H QB:=by
 refine GU h fun He O Γ1 b H1 Fs1 s E w=>?_
 cases b with
 | true=>exact g5 ⟨He,O,Fs1,Γ1,E,w⟩
 | false=>exact g6 (WantsB.now w E)
theorem AG (h:tT K W (nK ga gb) σ H QB):Jv (tT K W ga) (tT K W gb) σ H QB:=by
 refine GU h fun He O Γ1 b H1 Fs1 s E w=>?_
 cases b with
 | false=>exact g6 ⟨He,O,Fs1,Γ1,E,w⟩
 | true=>exact g5 (WantsB.now w E)
theorem xh (h:tT K W (dr ga) σ H QB):C5 (tT K W ga) σ H QB:=GU h fun He O Γ1 b H1 Fs1 s E w=>WantsB.now w E
def eF (fa fb:F1):F1:=aW fa fun p Γ=>match p.d with
 | .bool true=>fb Γ
 | .bool false=>.ok ⟨.leaf,.bool false⟩ Γ
 | _=>.no
def DP (fa fb:F1):F1:=aW fa fun p Γ=>match p.d with
 | .bool true=>.ok ⟨.leaf,.bool true⟩ Γ
 | .bool false=>fb Γ
 | _=>.no
def IX (fa:F1):F1:=aW fa fun p Γ=>match p.d with
 | .bool b=>.ok ⟨.leaf,.bool (!b)⟩ Γ
 | _=>.no
theorem AJ (h:tE K W (eF fa fb) σ H Q):y0 (tE K W fa) (tE K W fb) σ H Q:=by
 refine zF h fun He O Fs Γ1 p v H1 G Fs1 nd A w=>?_
 have r:=A.own.rep
 obtain ⟨s,d⟩:=p
 cases r with
 | bl b=>
  cases b with
  | true=>exact ⟨true,rfl,g5 ⟨He,O,Fs1,Γ1,A.go,Wants.after w A.same A.newF⟩⟩
  | false=>exact ⟨false,rfl,g6 (Wants.scal w (.bl false) A.same A.env (fun a ha=>mem_append_right _ ha) nd A.newF)⟩
 | _=>exact w.elim
theorem Dh (h:tE K W (DP fa fb) σ H Q):C4 (tE K W fa) (tE K W fb) σ H Q:=by
 refine zF h fun He O Fs Γ1 p v H1 G Fs1 nd A w=>?_
 have r:=A.own.rep
 obtain ⟨s,d⟩:=p
 cases r with
 | bl b=>
  cases b with
  | false=>exact ⟨false,rfl,g6 ⟨He,O,Fs1,Γ1,A.go,Wants.after w A.same A.newF⟩⟩
  | true=>exact ⟨true,rfl,g5 (Wants.scal w (.bl true) A.same A.env (fun a ha=>mem_append_right _ ha) nd A.newF)⟩
 | _=>exact w.elim
def vW (c:FB) (fa fb:F1):F1:=fun Γ=>(c Γ).bind fun b Γ'=>if b then fa Γ' else fb Γ'
theorem Di (h:tE K W (vW ga fa fb) σ H Q):Jx (tT K W ga) (tE K W fa) (tE K W fb) σ H Q:=by
 obtain ⟨He,O,Fs,Γ,E,h⟩:=h;refine ⟨He,O,Fs,Γ,E,?_⟩
 unfold vW at h
 cases e:ga Γ with
 | ok b Γ1=>
  rw [e] at h;intro H' Fs' s E' n
  have h':=Wants.after (o:=if b then fa Γ1 else fb Γ1) h s n
  cases b with
  | true=>exact g5 ⟨He,O,Fs',Γ1,E',h'⟩
  | false=>exact g6 ⟨He,O,Fs',Γ1,E',h'⟩
 | er c Γ1=>rw [e] at h;exact h
 | no=>rw [e] at h;exact h
def sC (g g':D->D->Option D) (fa fb fc:F1):F1:=aW fa fun p=>aW fb fun q=>fun Γ=>match g p.d q.d with
 | some (.bool true)=>if bJ q.d then (fc Γ).bind fun z Γ'=>(match g' q.d z.d with | some d=>.ok ⟨.leaf,d⟩ Γ' | none=>.no) else .no
 | some (.bool false)=>.ok ⟨.leaf,.bool false⟩ Γ
 | _=>.no
theorem mf {r r':R2} {g g':D->D->Option D} (hg:GOp K r g) (hg':GOp K r' g') (h:tE K W (sC g g' fa fb fc) σ H Q):Gp r r' (tE K W fa) (tE K W fb) (tE K W fc) σ H Q:=by
 refine Cn h ?_
 intro He O Fs Γ2 p q v u H1 H2 G1 G2 Fs2 nd s1 s2 E new o1 o2 w;have sub:∀a∈O,a∈G2++(G1++O):=fun a ha=>mem_append_right _ (mem_append_right _ ha)
 have newF:∀a∈Fs2.flatten,a∈Fs.flatten\/H a=none:=fun a ha=>new a (mem_append_right _ (mem_append_right _ ha))
 cases e:g p.d q.d with
 | none=>rw [e] at w;exact w.elim
 | some d=>
  rw [e] at w;refine hg v u H2 _ p.d q.d d o1.rep o2.rep e fun z s=>?_
  cases s with
  | bl b=>
   cases b with
   | false=>exact ⟨false,rfl,g6 (Wants.scal w (.bl false) (s1.trans s2) E sub nd newF)⟩
   | true=>
    refine ⟨true,rfl,g5 ?_⟩
    have w:Wants K W He O Fs H σ Q (if bJ q.d then (fc Γ2).bind fun z Γ'=>(match g' q.d z.d with | some d=>.ok ⟨.leaf,d⟩ Γ' | none=>.no) else .no):=w
    cases hs:bJ q.d with
    | false=>rw [hs] at w;exact w.elim
    | true=>
     rw [hs] at w;have w:Wants K W He O Fs H σ Q ((fc Γ2).bind fun z Γ'=>(match g' q.d z.d with | some d=>.ok ⟨.leaf,d⟩ Γ' | none=>.no)):=w
     have su:=o2.rep.sc hs
     refine ⟨He,O,Fs2,Γ2,E.drop sub nd,?_⟩
     cases e3:fc Γ2 with
     | ok p3 Γ3=>
      rw [e3] at w;intro v3 H3 G3 Fs3 A3;have w:Wants K W He O Fs H σ Q (match g' q.d p3.d with | some d=>.ok ⟨.leaf,d⟩ Γ3 | none=>.no):=w
      cases e4:g' q.d p3.d with
      | none=>rw [e4] at w;exact w.elim
      | some d4=>
       rw [e4] at w;exact hg' u v3 H3 Q q.d p3.d d4 su.rep A3.own.rep e4 fun z s=>Wants.scal w s ((s1.trans s2).trans A3.same) A3.env (fun a ha=>mem_append_right _ ha) nd fun a ha=>(A3.new a (mem_append_right _ ha)).elim (newF a) fun z=>.inr ((s1.trans s2).free z)
     | er c Γ3=>
      rw [e3] at w;exact fun H' Fs' s E'=>w H' Fs' ((s1.trans s2).trans s) E'
     | no=>rw [e3] at w;exact w
  | non=>exact w.elim
  | int i=>exact w.elim
  | str x=>exact w.elim
end
structure AftL (K:Fg) (He:Hp) (O:List Addr) (Fs:List (List Addr)) (H:Hp) (σ:St) (Γ':Ev) (ps:List PV) (vs:List V) (H':Hp) (Gs Fs':List (List Addr)):Prop where
 same:Same H H'
 len1:vs.length=ps.length
 len2:Gs.length=ps.length
 env:EnvOk K He (Gs.flatten++O) Fs' H' σ Γ'
 new:∀a∈Gs.flatten++Fs'.flatten,a∈Fs.flatten\/H a=none
 own:∀(i:Nat) v p G,vs[i]?=some v->ps[i]?=some p->Gs[i]?=some G->Own K (Gs.flatten++O++Fs'.flatten) H' p.s G v p.d
abbrev FL:=Ev->Out (List PV)
def vE (K:Fg) (W:XW) (He:Hp) (O:List Addr) (Fs:List (List Addr)) (H:Hp) (σ:St) (Q:List V->Hp->Prop) (o:Out (List PV)):Prop:=match o with
 | .ok ps Γ'=>∀vs H' Gs Fs',AftL K He O Fs H σ Γ' ps vs H' Gs Fs'->Q vs H'
 | .er c Γ'=>∀H' Fs',Same H H'->EnvOk K He O Fs' H' σ Γ'->W c σ H'
 | .no=>False
def tA (K:Fg) (W:XW) (f:FL):TA:=fun σ H Q=>∃He O Fs Γ,EnvOk K He O Fs H σ Γ/\vE K W He O Fs H σ Q (f Γ)
def ai:FL:=fun Γ=>.ok [] Γ
def ah (fa:F1) (fl:FL):FL:=fun Γ=>(fa Γ).bind fun p Γ1=>(fl Γ1).bind fun ps Γ2=>.ok (p::ps) Γ2
section
variable {K:Fg} {W:XW} {σ:St} {H:Hp} {Q:VK} {QL:List V->Hp->Prop} {fa fb:F1} {fl:FL}
theorem Ax (h:tA K W ai σ H QL):ip σ H QL:=by
 obtain ⟨He,O,Fs,Γ,E,h⟩:=h;exact h [] H [] Fs ⟨Same.refl _,rfl,rfl,by simpa using E,fun a ha=>.inl (by simpa using ha),fun i v p G e=>by simp at e⟩
theorem mw {α:Type} (A B C:List α):(A++(B++C)).Perm (B++(A++C)):=by
 rw [<-append_assoc,<-append_assoc];exact List.Perm.append_right _ perm_append_comm
theorem EnvOk.perm {He H:Hp} {O O':List Addr} {Fs:List (List Addr)} {Γ:Ev} (E:EnvOk K He O Fs H σ Γ) (p:O'.Perm O):EnvOk K He O' Fs H σ Γ:=E.drop (fun a ha=>p.mem_iff.mp ha) (p.nodup_iff.mpr E.ndO)
theorem Own.perm {H:Hp} {O O':List Addr} {s:Sh} {G:List Addr} {v:V} {d:D} (h:Own K O H s G v d) (p:∀a∈O',a∈O):Own K O' H s G v d:=h.mono (Same.refl _) fun a ha=>.inl (p a ha)
theorem xf (h:tA K W (ah fa fl) σ H QL):dh (tE K W fa) (tA K W fl) σ H QL:=by
 obtain ⟨He,O,Fs,Γ,E,h⟩:=h;refine ⟨He,O,Fs,Γ,E,?_⟩
 unfold ah at h
 cases e:fa Γ with
 | ok p Γ1=>
  rw [e] at h;intro v H1 G1 Fs1 A1;refine ⟨He,G1++O,Fs1,Γ1,A1.env,?_⟩
  have h:vE K W He O Fs H σ QL ((fl Γ1).bind fun ps Γ2=>.ok (p::ps) Γ2):=h
  cases e2:fl Γ1 with
  | ok ps Γ2=>
   rw [e2] at h;intro vs H2 Gs Fs2 A2;have pm:((G1::Gs).flatten++O).Perm (Gs.flatten++(G1++O)):=by
    rw [flatten_cons,append_assoc];exact mw _ _ _
   refine h (v::vs) H2 (G1::Gs) Fs2 ⟨A1.same.trans A2.same,by simp [A2.len1],by simp [A2.len2],A2.env.perm pm,fun a ha=>?_,fun i u q G h1 h2 h3=>?_⟩
   ·rcases List.mem_append.mp ha with z | z
    ·rw [flatten_cons] at z
     rcases List.mem_append.mp z with z | z
     ·exact A1.new a (mem_append_left _ z)
     ·exact (A2.new a (mem_append_left _ z)).elim (fun y=>A1.new a (mem_append_right _ y)) fun y=>.inr (A1.same.free y)
    ·exact (A2.new a (mem_append_right _ z)).elim (fun y=>A1.new a (mem_append_right _ y)) fun y=>.inr (A1.same.free y)
   ·have sub:∀a∈(G1::Gs).flatten++O++Fs2.flatten,a∈Gs.flatten++(G1++O)++Fs2.flatten:=fun a ha=>by
     rcases List.mem_append.mp ha with z | z
     ·exact mem_append_left _ (pm.mem_iff.mp z)
     ·exact mem_append_right _ z
    cases i with
    | zero=>
     simp at h1 h2 h3
     subst h1 h2 h3;refine (A1.own.mono A2.same fun a ha=>?_).perm sub
     rcases List.mem_append.mp ha with z | z
     ·rcases List.mem_append.mp z with z | z
      ·exact (A2.new a (mem_append_left _ z)).elim (fun y=>.inl (mem_append_right _ y)) .inr
      ·exact .inl (mem_append_left _ z)
     ·exact (A2.new a (mem_append_right _ z)).elim (fun y=>.inl (mem_append_right _ y)) .inr
    | succ i=>
     simp at h1 h2 h3
     exact (A2.own i u q G h1 h2 h3).perm sub
  | er c Γ2=>
   rw [e2] at h;exact fun H2 Fs2 s E2=>h H2 Fs2 (A1.same.trans s) E2.dropL
  | no=>rw [e2] at h;exact h
 | er c Γ1=>rw [e] at h;exact h
 | no=>rw [e] at h;exact h
theorem AftL.reps {He:Hp} {O:List Addr} {Fs Gs Fs':List (List Addr)} {Γ':Ev} {ps:List PV} {vs:List V} {H':Hp} (A:AftL K He O Fs H σ Γ' ps vs H' Gs Fs'):Reps K H' vs (ps.map (·.d)):=by
 refine ⟨by rw [length_map];exact A.len1,fun i v d h1 h2=>?_⟩
 rw [getElem?_map] at h2
 cases e:ps[i]? with
 | none=>rw [e] at h2;cases h2
 | some p=>
  rw [e] at h2
  cases h2;have hi:=(List.getElem?_eq_some_iff.mp e).1
  exact (A.own i v p (Gs[i]'(by rw [A.len2];exact hi)) h1 e (getElem?_eq_getElem _)).rep
def bM (g:List D->Option D) (fl:FL):F1:=fun Γ=>(fl Γ).bind fun ps Γ'=>match g (ps.map (·.d)) with
 | some d=>.ok ⟨.leaf,d⟩ Γ'
 | none=>.no
def GCall (K:Fg) (r:List V->Hp->VK->Prop) (g:List D->Option D):Prop:=∀vs H Q ds d,Reps K H vs ds->g ds=some d->(∀v,Sc v d->Q v H)->r vs H Q
theorem tX {r:List V->Hp->VK->Prop} {g:List D->Option D} (hg:GCall K r g) (h:tE K W (bM g fl) σ H Q):Aa r (tA K W fl) σ H Q:=by
 obtain ⟨He,O,Fs,Γ,E,h⟩:=h;refine ⟨He,O,Fs,Γ,E,?_⟩
 unfold bM at h
 cases e:fl Γ with
 | ok ps Γ'=>
  rw [e] at h;intro vs H' Gs Fs' A
  have h:Wants K W He O Fs H σ Q (match g (ps.map (·.d)) with | some d=>.ok ⟨.leaf,d⟩ Γ' | none=>.no):=h
  cases e2:g (ps.map (·.d)) with
  | none=>rw [e2] at h;exact h.elim
  | some d=>
   rw [e2] at h;exact hg vs H' Q _ d A.reps e2 fun v s=>Wants.scal h s A.same A.env (fun a ha=>mem_append_right _ ha) E.ndO fun a ha=>A.new a (mem_append_right _ ha)
 | er c Γ'=>rw [e] at h;exact h
 | no=>rw [e] at h;exact h
theorem GCall.or {r r':List V->Hp->VK->Prop} {g g':List D->Option D} (h:GCall K r g) (h':GCall K r' g'):GCall K (fun xs H Q=>r xs H Q\/r' xs H Q) (fun ds=>(g ds).or (g' ds)):=by
 intro vs H Q ds d rs e k;have e:(g ds).or (g' ds)=some d:=e
 cases e1:g ds with
 | some z=>rw [e1] at e;cases e;exact .inl (h vs H Q ds _ rs e1 k)
 | none=>rw [e1] at e;exact .inr (h' vs H Q ds d rs (by simpa using e) k)
theorem Reps.one {vs:List V} {d:D} (h:Reps K H vs [d]):∃v,vs=[v]/\Rep K H v d:=by
 obtain ⟨hl,h⟩:=h;match vs,hl with
 | [v],_=>exact ⟨v,rfl,h 0 v d rfl rfl⟩
theorem Reps.two {vs:List V} {d e:D} (h:Reps K H vs [d,e]):∃v u,vs=[v,u]/\Rep K H v d/\Rep K H u e:=by
 obtain ⟨hl,h⟩:=h;match vs,hl with
 | [v,u],_=>exact ⟨v,u,rfl,h 0 v d rfl rfl,h 1 u e rfl rfl⟩
end
def zp:List D->Option D
 | [.list xs]=>some (.int xs.length)
 | [.tuple xs]=>some (.int xs.length)
 | _=>none
def va:List D->Option D
 | [.str x]=>if x.length<=sizeLine then some (.int x.length) else none
 | _=>none
abbrev bL:List D->Option D:=fun ds=>(zp ds).or (va ds)
theorem BO {K:Fg}:GCall K (fun xs H Q=>(∃p ys,xs=[.ref p]/\(SqL K H p ys\/SqT K H p ys)/\Q (.int ys.length) H)\/∃z,xs=[.str z]/\z.length<=sizeLine/\Q (.int z.length) H) bL:=by
 refine GCall.or (g:=zp) (g':=va) (r:=fun xs H Q=>∃p ys,xs=[.ref p]/\(SqL K H p ys\/SqT K H p ys)/\Q (.int ys.length) H) (r':=fun xs H Q=>∃z,xs=[.str z]/\z.length<=sizeLine/\Q (.int z.length) H) ?_ ?_
 ·intro vs H Q ds d rs e k
  match ds,e with
  | [.list xs],e=>
   obtain ⟨v,rfl,r⟩:=rs.one
   cases e
   cases r with
   | @lst p us _ hq hl _=>exact ⟨p,us,rfl,.inl hq,by rw [hl];exact k _ (.int _)⟩
  | [.tuple xs],e=>
   obtain ⟨v,rfl,r⟩:=rs.one
   cases e
   cases r with
   | @tup p us _ hq hl _=>exact ⟨p,us,rfl,.inr hq,by rw [hl];exact k _ (.int _)⟩
 ·intro vs H Q ds d rs e k
  match ds,e with
  | [.str x],e=>
   obtain ⟨v,rfl,r⟩:=rs.one;simp only [va] at e
   split at e
   ·rename_i z
    cases e
    cases r;exact ⟨x,rfl,z,k _ (.int _)⟩
   ·cases e
def oG:List D->Option D
 | [.int i]=>some (.int i)
 | [.bool b]=>some (.int (if b then 1 else 0))
 | _=>none
theorem BP {K:Fg}:GCall K (fun xs H Q=>(∃i,xs=[.int i]/\Q (.int i) H)\/∃k,xs=[.bl k]/\Q (.int (if k then 1 else 0)) H) oG:=by
 intro vs H Q ds d rs e k;match ds,e with
 | [.int i],e=>
  obtain ⟨v,rfl,r⟩:=rs.one
  cases e;cases r;exact .inl ⟨i,rfl,k _ (.int _)⟩
 | [.bool b],e=>
  obtain ⟨v,rfl,r⟩:=rs.one
  cases e;cases r;exact .inr ⟨b,rfl,k _ (.int _)⟩
def Kh:List D->Option D
 | [.int i,.int j]=>some (.int (if j>i then j else i))
 | _=>none
def sx:List D->Option (List Bool)
 | []=>some []
 | .bool b::r=>(sx r).map (b :: ·)
 | _=>none
theorem i7:∀{ds:List D} {bs:List Bool},sx ds=some bs->ds=bs.map PyData.bool
 | [],bs,h=>by cases h;rfl
 | .bool b::r,bs,h=>by
  simp only [sx] at h
  cases e:sx r with
  | none=>rw [e] at h;cases h
  | some cs=>rw [e] at h;cases h;rw [i7 e];rfl
 | .none::_,_,h=>by cases h
 | .int _::_,_,h=>by cases h
 | .str _::_,_,h=>by cases h
 | .list _::_,_,h=>by cases h
 | .tuple _::_,_,h=>by cases h
 | .dict _::_,_,h=>by cases h
def b8 (any:Bool):List D->Option D
 | [.list xs]=>(sx xs).map fun bs=>.bool (if any then bs.any id else bs.all id)
 | _=>none
theorem iA {K:Fg} {H:Hp}:∀{vs:List V} {bs:List Bool},Reps K H vs (bs.map PyData.bool)->vs=bs.map V.bl
 | [],[],_=>rfl
 | v::vs,b::bs,⟨hl,h⟩=>by
  have r:=h 0 v (.bool b) rfl rfl
  cases r;rw [iA (bs:=bs) (vs:=vs) ⟨by simpa using hl,fun i v d h1 h2=>h (i+1) v d (by simpa using h1) (by simpa using h2)⟩]
  rfl
 | [],_::_,⟨hl,_⟩=>by simp at hl
 | _::_,[],⟨hl,_⟩=>by simp at hl
def AU (K:Fg) (any:Bool):List V->Hp->VK->Prop:=fun xs H Q=>∃(p:Addr) (bs:List Bool),xs=[.ref p]/\SqL K H p (bs.map V.bl)/\Q (.bl (if any then bs.any id else bs.all id)) H
theorem u9 {K:Fg} {any:Bool}:GCall K (AU K any) (b8 any):=by
 intro vs H Q ds d rs e k;match ds,e with
 | [.list xs],e=>
  obtain ⟨v,rfl,r⟩:=rs.one;simp only [b8] at e
  cases eb:sx xs with
  | none=>rw [eb] at e;cases e
  | some bs=>
   rw [eb] at e
   cases e;have:=i7 eb
   subst this
   cases r with
   | @lst p us _ hq hl hr=>
    have:=iA ⟨hl,hr⟩
    subst this;exact ⟨p,bs,rfl,hq,k _ (.bl _)⟩
section
variable {X:Cx}
theorem j7 {bs:List Bool}:∀{its:List Value},Vals (bs.map V.bl) its->its=bs.map Value.bool:=by
 induction bs with
 | nil=>intro its h;cases h;rfl
 | cons b bs ih=>
  intro its h
  cases h with
  | cons r t=>
   cases (show _=Value.bool b from r)
   rw [ih t];rfl
theorem qJ (bs:List Bool):(List.range bs.length).all (fun i=>bs.getD i false)=bs.all id:=by
 rw [Bool.eq_iff_iff,all_eq_true,all_eq_true];constructor
 ·intro h b hb
  obtain ⟨i,hi,e⟩:=List.mem_iff_getElem.mp hb;have:=h i (List.mem_range.mpr hi)
  rw [getD_eq_getElem?_getD,getElem?_eq_getElem hi] at this;rw [<-e];simpa using this
 ·intro h i hi
  have hi:=List.mem_range.mp hi
  rw [getD_eq_getElem?_getD,getElem?_eq_getElem hi];exact h _ (getElem_mem hi)
theorem qI (bs:List Bool):(List.range bs.length).any (fun i=>bs.getD i false)=bs.any id:=by
 rw [Bool.eq_iff_iff,any_eq_true,any_eq_true];constructor
 ·rintro ⟨i,hi,h⟩
  have hi:=List.mem_range.mp hi
  rw [getD_eq_getElem?_getD,getElem?_eq_getElem hi] at h;exact ⟨_,getElem_mem hi,h⟩
 ·rintro ⟨b,hb,h⟩
  obtain ⟨i,hi,e⟩:=List.mem_iff_getElem.mp hb;refine ⟨i,List.mem_range.mpr hi,?_⟩
  rw [getD_eq_getElem?_getD,getElem?_eq_getElem hi,e];exact h
theorem gD {prog:Program} {w:World} {A:Around} {bs:List Bool}:TruthOf prog w A (fun i v=>(bs.map Value.bool).toArray[i]?=some v) (fun i=>bs.getD i false):=by
 intro i v s Q E hP hQ;simp only [List.getElem?_toArray,getElem?_map] at hP
 cases e:bs[i]? with
 | none=>rw [e] at hP;cases hP
 | some b=>
  rw [e] at hP
  cases hP;have hQ:Q (bs.getD i false) s:=hQ
  rw [getD_eq_getElem?_getD,e] at hQ;exact wpAny_truthy_bool hQ
theorem rZ (hc:X.calm=true):CallR X (.builtin "all") (AU X.K false):=by
 intro pins s σ H vs us Q I rv h;obtain ⟨p,bs,rfl,hq,q⟩:=h;obtain ⟨u,rfl,ru⟩:=vals1 rv
 cases ru;obtain ⟨its,rv,pl,hz⟩:=I.list hq;have:=j7 rv
 subst this;have hd:=I.ok.hd hc
 refine call_all_walk (wpAny_pyIter_list pl.isList ?_)
 have ne:p≠s.heap.objs.size:=by
  obtain ⟨o,n,e,_⟩:=pl;exact Nat.ne_of_lt (Heap.lt_size e)
 refine ⟨s.heap.objs.size,_,_,_,_,_,fun i=>bs.getD i false,rfl,Walks.list (prog:=X.prog) (w:=X.w) (A:=X.A.in1) hd s.heap.objs.size p ne (bs.map Value.bool).toArray,⟨⟨_,Heap.get?_push_size _ rfl,rfl,rfl⟩,pl.isList.at fun o e=>Heap.get?_push_of_some _ e⟩,gD,fun h' tk hk=>?_⟩
 refine ⟨.bl _,H,I.kept (h':=h') (t':=tk) fun b o e=>hk b o (fun z=>?_) (Heap.get?_push_of_some _ e),rfl,?_⟩
 ·have z:b=s.heap.objs.size:=by simpa using z
  exact absurd (Heap.lt_size e) (by rw [z];exact Nat.lt_irrefl _)
 ·rw [size_toArray,length_map,qJ]
  exact q
theorem rY (hc:X.calm=true):CallR X (.builtin "any") (AU X.K true):=by
 intro pins s σ H vs us Q I rv h;obtain ⟨p,bs,rfl,hq,q⟩:=h;obtain ⟨u,rfl,ru⟩:=vals1 rv
 cases ru;obtain ⟨its,rv,pl,hz⟩:=I.list hq;have:=j7 rv
 subst this;have hd:=I.ok.hd hc
 refine call_any_walk (wpAny_pyIter_list pl.isList ?_)
 have ne:p≠s.heap.objs.size:=by
  obtain ⟨o,n,e,_⟩:=pl;exact Nat.ne_of_lt (Heap.lt_size e)
 refine ⟨s.heap.objs.size,_,_,_,_,_,fun i=>bs.getD i false,rfl,Walks.list (prog:=X.prog) (w:=X.w) (A:=X.A.in1) hd s.heap.objs.size p ne (bs.map Value.bool).toArray,⟨⟨_,Heap.get?_push_size _ rfl,rfl,rfl⟩,pl.isList.at fun o e=>Heap.get?_push_of_some _ e⟩,gD,fun h' tk hk=>?_⟩
 refine ⟨.bl _,H,I.kept (h':=h') (t':=tk) fun b o e=>hk b o (fun z=>?_) (Heap.get?_push_of_some _ e),rfl,?_⟩
 ·have z:b=s.heap.objs.size:=by simpa using z
  exact absurd (Heap.lt_size e) (by rw [z];exact Nat.lt_irrefl _)
 ·rw [size_toArray,length_map,qI]
  exact q
end
def nQ (s:Sh) (j:Nat) (d:D):Option Sh:=match s with
 | .leaf=>some .leaf
 | .view=>some (if bJ d then .leaf else .view)
 | .lst s=>some s
 | .tup ss=>ss[j]?
def ak (fa fb:F1):F1:=aW fa fun p=>aW fb fun q=>fun Γ=>match q.d with
 | .int i=>(match p.d with
  | .list ds=>(match d9 ds.length i with
   | some j=>(match ds[j]? with
    | some d=>(match nQ p.s j d with
     | some s=>.ok ⟨s,d⟩ Γ
     | none=>.no)
    | none=>.no)
   | none=>.no)
  | .tuple ds=>(match d9 ds.length i with
   | some j=>(match ds[j]? with
    | some d=>(match nQ p.s j d with
     | some s=>.ok ⟨s,d⟩ Γ
     | none=>.no)
    | none=>.no)
   | none=>.no)
  | .str z=>if z.length<=sizeLine then (match eh z.cps.toList i with
   | some c=>.ok ⟨.leaf,.str ⟨#[c]⟩⟩ Γ
   | none=>.no) else .no
  | _=>.no)
 | _=>.no
theorem Own.item {K:Fg} {O:List Addr} {H:Hp} {s s':Sh} {G:List Addr} {p:Addr} {ds:List D} {j:Nat} {d:D} (h:Own K O H s G (.ref p) (.list ds)) (hd:ds[j]?=some d) (hs:nQ s j d=some s') :
  ∃vs v G',SqL K H p vs/\vs.length=ds.length/\vs[j]?=some v/\(∀a∈G',a∈G)/\G'.Nodup/\Own K O H s' G' v d:=by
 have hi:=(List.getElem?_eq_some_iff.mp hd).1
 cases h with
 | view r=>
  cases r with
  | @lst _ vs _ hq hl hr=>
   have hv:vs[j]?=some (vs[j]'(by omega)):=getElem?_eq_getElem _
   have r':=hr j _ d hv hd
   simp only [nQ,Option.some.injEq] at hs
   cases e:bJ d with
   | true=>
    rw [e] at hs
    cases hs;exact ⟨vs,_,[],hq,hl,hv,(fun _ z=>nomatch z),nodup_nil,.leaf (r'.sc e).rep⟩
   | false=>
    rw [e] at hs
    cases hs;exact ⟨vs,_,[],hq,hl,hv,(fun _ z=>nomatch z),nodup_nil,.view r'⟩
 | leaf r=>
  cases r with
  | @lst _ vs _ hq hl hr=>
   have hv:vs[j]?=some (vs[j]'(by omega)):=getElem?_eq_getElem _
   cases hs;exact ⟨vs,_,[],hid_le.seq hq,hl,hv,(fun _ z=>nomatch z),nodup_nil,.leaf (hr j _ d hv hd)⟩
 | @lst s₀ _ vs _ Fs hv hp hl hf nd hr=>
  have hv':vs[j]?=some (vs[j]'(by omega)):=getElem?_eq_getElem _
  have hF:Fs[j]?=some (Fs[j]'(by omega)):=getElem?_eq_getElem _
  cases hs;refine ⟨vs,_,_,.of hp,hl,hv',fun a ha=>mem_cons_of_mem _ (nS hF ha),?_,hr j _ d _ hv' hd hF⟩
  exact ((List.nodup_cons.mp nd).2).sublist (List.sublist_flatten_of_mem (mem_of_getElem? hF))
theorem Own.itemT {K:Fg} {O:List Addr} {H:Hp} {s s':Sh} {G:List Addr} {p:Addr} {ds:List D} {j:Nat} {d:D} (h:Own K O H s G (.ref p) (.tuple ds)) (hd:ds[j]?=some d) (hs:nQ s j d=some s') :
  ∃vs v G',SqT K H p vs/\vs.length=ds.length/\vs[j]?=some v/\(∀a∈G',a∈G)/\G'.Nodup/\Own K O H s' G' v d:=by
 have hi:=(List.getElem?_eq_some_iff.mp hd).1
 cases h with
 | view r=>
  cases r with
  | @tup _ vs _ hq hl hr=>
   have hv:vs[j]?=some (vs[j]'(by omega)):=getElem?_eq_getElem _
   have r':=hr j _ d hv hd
   simp only [nQ,Option.some.injEq] at hs
   cases e:bJ d with
   | true=>
    rw [e] at hs
    cases hs;exact ⟨vs,_,[],hq,hl,hv,(fun _ z=>nomatch z),nodup_nil,.leaf (r'.sc e).rep⟩
   | false=>
    rw [e] at hs
    cases hs;exact ⟨vs,_,[],hq,hl,hv,(fun _ z=>nomatch z),nodup_nil,.view r'⟩
 | leaf r=>
  cases r with
  | @tup _ vs _ hq hl hr=>
   have hv:vs[j]?=some (vs[j]'(by omega)):=getElem?_eq_getElem _
   cases hs;exact ⟨vs,_,[],ke hid_le hq,hl,hv,(fun _ z=>nomatch z),nodup_nil,.leaf (hr j _ d hv hd)⟩
 | @tup ss _ vs _ Fs hv hp hn hl hf hl2 nd hr=>
  have hv':vs[j]?=some (vs[j]'(by omega)):=getElem?_eq_getElem _
  have hF:Fs[j]?=some (Fs[j]'(by omega)):=getElem?_eq_getElem _
  have hs:ss[j]?=some s':=hs
  refine ⟨vs,_,_,.of hp,hl,hv',fun a ha=>nS hF ha,?_,hr j _ d _ _ hv' hd hF hs⟩
  exact nd.sublist (List.sublist_flatten_of_mem (mem_of_getElem? hF))
theorem Wants.part {K:Fg} {W:XW} {σ:St} {He H H2:Hp} {O G G':List Addr} {Fs Fs2:List (List Addr)} {Γ':Ev} {Q:VK} {s:Sh} {v:V} {d:D} (h:Wants K W He O Fs H σ Q (.ok ⟨s,d⟩ Γ')) (e:Same H H2)
  (E:EnvOk K He (G++O) Fs2 H2 σ Γ') (sub:∀a∈G',a∈G) (nd:G'.Nodup) (new:∀a∈G++Fs2.flatten,a∈Fs.flatten\/H a=none) (o:Own K (G++O++Fs2.flatten) H2 s G' v d):Q v H2:=by
 have sub2:∀a∈G'++O,a∈G++O:=fun a ha=>by
  rcases List.mem_append.mp ha with z | z
  ·exact mem_append_left _ (sub a z)
  ·exact mem_append_right _ z
 obtain ⟨n1,n2,n3⟩:=List.nodup_append.mp E.ndO;refine h v H2 G' Fs2 ⟨e,E.drop sub2 (List.nodup_append.mpr ⟨nd,n2,fun a ha b hb=>n3 a (sub a ha) b hb⟩),fun a ha=>new a ?_,o.perm fun a ha=>?_⟩
 ·rcases List.mem_append.mp ha with z | z
  ·exact mem_append_left _ (sub a z)
  ·exact mem_append_right _ z
 ·rcases List.mem_append.mp ha with z | z
  ·exact mem_append_left _ (sub2 a z)
  ·exact mem_append_right _ z
theorem Ga {α β:Type} {xs:List α} {ys:List β} {i:Int} {j:Nat} {v:α} (hl:xs.length=ys.length) (h:d9 ys.length i=some j) (hv:xs[j]?=some v):eh xs i=some v:=by
 unfold eh;rw [hl,h];exact hv
section
variable {K:Fg} {W:XW} {σ:St} {H:Hp} {Q:VK} {fa fb:F1}
theorem AA (h:tE K W (ak fa fb) σ H Q):vT (AQ K) (tE K W fa) (tE K W fb) σ H Q:=by
 refine Cn h ?_
 intro He O Fs Γ2 p q v u H1 H2 G1 G2 Fs2 nd s1 s2 E new o1 o2 w;obtain ⟨ps,pd⟩:=p;obtain ⟨qs,qd⟩:=q;have ri:=o2.rep
 cases qd<;>try exact w.elim
 rename_i i
 cases ri;have E':EnvOk K He ((G2++G1)++O) Fs2 H2 σ Γ2:=by rw [append_assoc];exact E
 have new':∀a∈(G2++G1)++Fs2.flatten,a∈Fs.flatten\/H a=none:=fun a ha=>new a (by rw [<-append_assoc];exact ha)
 have o1':Own K ((G2++G1)++O++Fs2.flatten) H2 ps G1 v pd:=o1.perm fun a ha=>by rw [append_assoc G2] at ha;exact ha
 have rp:=o1.rep
 cases pd with
 | list ds=>
  obtain ⟨p0,rfl⟩:∃p0,v=.ref p0:=by cases rp;exact ⟨_,rfl⟩
  have w:Wants K W He O Fs H σ Q (match d9 ds.length i with | some j=>(match ds[j]? with | some d=>(match nQ ps j d with | some s=>.ok ⟨s,d⟩ Γ2 | none=>.no) | none=>.no) | none=>.no):=w
  cases e1:d9 ds.length i with
  | none=>rw [e1] at w;exact w.elim
  | some j=>
   rw [e1] at w;have w:Wants K W He O Fs H σ Q (match ds[j]? with | some d=>(match nQ ps j d with | some s=>.ok ⟨s,d⟩ Γ2 | none=>.no) | none=>.no):=w
   cases e2:ds[j]? with
   | none=>rw [e2] at w;exact w.elim
   | some d=>
    rw [e2] at w;have w:Wants K W He O Fs H σ Q (match nQ ps j d with | some s=>.ok ⟨s,d⟩ Γ2 | none=>.no):=w
    cases e3:nQ ps j d with
    | none=>rw [e3] at w;exact w.elim
    | some s=>
     rw [e3] at w;obtain ⟨vs,v',G',h1,h2,h3,h4,h5,h6⟩:=o1'.item e2 e3
     exact .inl ⟨p0,vs,i,v',rfl,rfl,h1,Ga h2 e1 h3,Wants.part w (s1.trans s2) E' (fun a ha=>mem_append_right _ (h4 a ha)) h5 new' h6⟩
 | tuple ds=>
  obtain ⟨p0,rfl⟩:∃p0,v=.ref p0:=by cases rp;exact ⟨_,rfl⟩
  have w:Wants K W He O Fs H σ Q (match d9 ds.length i with | some j=>(match ds[j]? with | some d=>(match nQ ps j d with | some s=>.ok ⟨s,d⟩ Γ2 | none=>.no) | none=>.no) | none=>.no):=w
  cases e1:d9 ds.length i with
  | none=>rw [e1] at w;exact w.elim
  | some j=>
   rw [e1] at w;have w:Wants K W He O Fs H σ Q (match ds[j]? with | some d=>(match nQ ps j d with | some s=>.ok ⟨s,d⟩ Γ2 | none=>.no) | none=>.no):=w
   cases e2:ds[j]? with
   | none=>rw [e2] at w;exact w.elim
   | some d=>
    rw [e2] at w;have w:Wants K W He O Fs H σ Q (match nQ ps j d with | some s=>.ok ⟨s,d⟩ Γ2 | none=>.no):=w
    cases e3:nQ ps j d with
    | none=>rw [e3] at w;exact w.elim
    | some s=>
     rw [e3] at w;obtain ⟨vs,v',G',h1,h2,h3,h4,h5,h6⟩:=o1'.itemT e2 e3
     exact .inr (.inl ⟨p0,vs,i,v',rfl,rfl,h1,Ga h2 e1 h3,Wants.part w (s1.trans s2) E' (fun a ha=>mem_append_right _ (h4 a ha)) h5 new' h6⟩)
 | str z=>
  cases rp;have w:Wants K W He O Fs H σ Q (if z.length<=sizeLine then (match eh z.cps.toList i with | some c=>.ok ⟨.leaf,.str ⟨#[c]⟩⟩ Γ2 | none=>.no) else .no):=w
  by_cases hz:z.length<=sizeLine
  ·rw [if_pos hz] at w
   cases e1:eh z.cps.toList i with
   | none=>rw [e1] at w;exact w.elim
   | some c=>
    rw [e1] at w;exact .inr (.inr ⟨z,i,c,rfl,rfl,hz,e1,Wants.scal w (.str _) (s1.trans s2) E (fun a ha=>mem_append_right _ (mem_append_right _ ha)) nd fun a ha=>new a (mem_append_right _ (mem_append_right _ ha))⟩)
  ·rw [if_neg hz] at w
   exact w.elim
 | none=>exact w.elim
 | bool b=>exact w.elim
 | int k=>exact w.elim
 | dict k=>exact w.elim
end
theorem mL (s:Sh):∀Gs:List (List Addr),((Gs.map (aV s)).flatten).Sublist Gs.flatten
 | []=>List.Sublist.refl _
 | G::Gs=>by
  simp only [map_cons,flatten_cons]
  refine List.Sublist.append ?_ (mL s Gs)
  unfold aV;split
  ·exact List.nil_sublist _
  ·exact List.Sublist.refl _
theorem jS:∀Gs:List (List Addr),(Gs.map (aV .leaf)).flatten=[]
 | []=>rfl
 | _::Gs=>by simp only [map_cons,flatten_cons,jS Gs];rfl
section
variable {K:Fg} {W:XW} {σ:St} {He H H':Hp} {O:List Addr} {Fs Fs' Gs:List (List Addr)} {Γ':Ev} {ps:List PV} {vs:List V} {Q:VK}
theorem AftL.newList {s:Sh} {p:Addr} (A:AftL K He O Fs H σ Γ' ps vs H' Gs Fs') (hs:s.isView=false) (hc:ps.all (T.coer s)=true) (hp:H' p=none) :
  Aft K He O Fs H σ Γ' ⟨.lst s,.list (ps.map (·.d))⟩ (.ref p) (bA H' p (.lst vs)) (p::(Gs.map (aV s)).flatten) Fs':=by
 obtain ⟨n1,n2,n3⟩:=List.nodup_append.mp A.env.ndO;obtain ⟨m1,m2,m3⟩:=List.nodup_append.mp A.env.nd;have hsub:=mL s Gs
 have E1:EnvOk K He ((Gs.map (aV s)).flatten++O) Fs' H' σ Γ':=A.env.drop (fun a ha=>by
   rcases List.mem_append.mp ha with z | z
   ·exact mem_append_left _ (hsub.subset z)
   ·exact mem_append_right _ z) (List.nodup_append.mpr ⟨n1.sublist hsub,n2,fun a ha b hb=>n3 a (hsub.subset ha) b hb⟩)
 have E2:=E1.hide (G:=[p]) (gC (o:=.lst vs) hp) (by simp) (fun a ha=>by simp at ha;rw [ha];exact hp) (fun a ha=>by simp at ha;rw [ha,dI];exact Option.some_ne_none _)
 have pn:∀{a},a∈Gs.flatten++O++Fs'.flatten->a≠p:=fun {a} ha z=>A.env.inH a ha (by rw [z];exact hp)
 refine ⟨A.same.trans (gC hp),E2,fun a ha=>?_,?_⟩
 ·rcases List.mem_append.mp ha with z | z
  ·rcases List.mem_cons.mp z with z | z
   ·rw [z];exact .inr (A.same.free hp)
   ·exact A.new a (mem_append_left _ (hsub.subset z))
  ·exact A.new a (mem_append_right _ z)
 ·refine .lst hs dI (by rw [length_map];exact A.len1) (by rw [length_map,length_map];exact A.len2) ?_ fun i v d F h1 h2 h3=>?_
  ·refine List.nodup_cons.mpr ⟨fun z=>pn (mem_append_left _ (mem_append_left _ (hsub.subset z))) rfl,n1.sublist hsub⟩
  ·rw [getElem?_map] at h2 h3
   cases e2:ps[i]? with
   | none=>rw [e2] at h2;cases h2
   | some q=>
    cases e3:Gs[i]? with
    | none=>rw [e3] at h3;cases h3
    | some G=>
     rw [e2] at h2;rw [e3] at h3
     cases h2
     cases h3;have cq:T.coer s q=true:=List.all_eq_true.mp hc q (mem_of_getElem? e2)
     have o1:=(A.own i v q G h1 e2 e3).mono (O':=p::(Gs.flatten++O++Fs'.flatten)) (gC (o:=.lst vs) hp) fun a ha=>by
      rcases List.mem_cons.mp ha with z | z
      ·rw [z];exact .inr hp
      ·exact .inl z
     refine o1.coer cq (fun a ha=>?_) fun a ha hO=>?_
     ·rw [append_assoc] at ha
      rcases List.mem_append.mp ha with z | z
      ·rcases List.mem_cons.mp z with z | z
       ·rw [z];exact mem_cons_self
       ·exact mem_cons_of_mem _ (mem_append_left _ (mem_append_left _ (hsub.subset z)))
      ·rcases List.mem_append.mp z with z | z
       ·exact mem_cons_of_mem _ (mem_append_left _ (mem_append_right _ z))
       ·exact mem_cons_of_mem _ (mem_append_right _ z)
     ·have hG:a∈Gs.flatten:=nS e3 ha
      cases s with
      | leaf=>
       rw [jS] at hO;exfalso
       rw [append_assoc] at hO;rcases List.mem_append.mp hO with z | z
       ·have z:a=p:=by simpa using z
        exact pn (mem_append_left _ (mem_append_left _ hG)) z
       ·rcases List.mem_append.mp z with z | z
        ·exact n3 a hG a z rfl
        ·exact m3 a (mem_append_left _ hG) a z rfl
      | view=>cases hs
      | lst s=>exact ha
      | tup ss=>exact ha
def aU (s:Sh) (fl:FL):F1:=fun Γ=>(fl Γ).bind fun ps Γ'=>if !s.isView&&ps.all (T.coer s)&&decide (ps.length<=sizeLine) then .ok ⟨.lst s,.list (ps.map (·.d))⟩ Γ' else .no
theorem w6 {s:Sh} {fl:FL} (h:tE K W (aU s fl) σ H Q):zZ (tA K W fl) σ H Q:=by
 obtain ⟨He,O,Fs,Γ,E,h⟩:=h;refine ⟨He,O,Fs,Γ,E,?_⟩
 unfold aU at h
 cases e:fl Γ with
 | ok ps Γ'=>
  rw [e] at h;intro vs H' Gs Fs' A
  have h:Wants K W He O Fs H σ Q (if (!s.isView&&ps.all (T.coer s)&&decide (ps.length<=sizeLine))=true then .ok ⟨.lst s,.list (ps.map (·.d))⟩ Γ' else .no):=h
  by_cases hc:(!s.isView&&ps.all (T.coer s)&&decide (ps.length<=sizeLine))=true
  ·rw [if_pos hc] at h
   simp only [Bool.and_eq_true,decide_eq_true_eq,Bool.not_eq_true'] at hc
   exact ⟨by rw [A.len1];exact hc.2,fun p hp=>h _ _ _ _ (A.newList hc.1.1 hc.1.2 hp)⟩
  ·rw [if_neg hc] at h
   exact h.elim
 | er c Γ'=>rw [e] at h;exact h
 | no=>rw [e] at h;exact h
def wx (p:PV):Sh:=if p.s.isView then .leaf else p.s
def tok (p:PV):Bool:=!p.s.isView||bJ p.d
theorem AftL.newTup {p:Addr} (A:AftL K He O Fs H σ Γ' ps vs H' Gs Fs') (hc:ps.all tok=true) (hp:H' p=none) :
  Aft K He O Fs H σ Γ' ⟨.tup (ps.map wx),.tuple (ps.map (·.d))⟩ (.ref p) (bA H' p (.tup vs)) Gs.flatten Fs':=by
 obtain ⟨n1,n2,n3⟩:=List.nodup_append.mp A.env.ndO;have pn:p∉Gs.flatten++O++Fs'.flatten:=fun ha=>A.env.inH p ha hp
 refine ⟨A.same.trans (gC hp),A.env.grow (gC hp),A.new,?_⟩
 refine .tup (fun s hs=>?_) dI pn (by rw [length_map];exact A.len1) (by rw [length_map];exact A.len2) (by rw [length_map,length_map]) n1 fun i v d F s h1 h2 h3 h4=>?_
 ·obtain ⟨q,_,rfl⟩:=List.mem_map.mp hs
  unfold wx;split
  ·rfl
  ·rename_i z;simpa using z
 ·rw [getElem?_map] at h2 h4
  cases e2:ps[i]? with
  | none=>rw [e2] at h2;cases h2
  | some q=>
   rw [e2] at h2 h4
   cases h2
   cases h4;have cq:tok q=true:=List.all_eq_true.mp hc q (mem_of_getElem? e2)
   have o1:=(A.own i v q F h1 e2 h3).mono (O':=Gs.flatten++O++Fs'.flatten) (gC (o:=.tup vs) hp) fun a ha=>.inl ha
   unfold wx
   cases hv:q.s.isView with
   | false=>exact o1
   | true=>
    unfold tok at cq;rw [hv] at cq;obtain ⟨s,d⟩:=q
    cases s with
    | view=>
     cases o1 with
     | view r=>exact .leaf (r.sc (by simpa using cq)).rep
    | _=>cases hv
def cQ (fl:FL):F1:=fun Γ=>(fl Γ).bind fun ps Γ'=>if ps.all tok&&decide (ps.length<=sizeLine) then .ok ⟨.tup (ps.map wx),.tuple (ps.map (·.d))⟩ Γ' else .no
theorem Aq {fl:FL} (h:tE K W (cQ fl) σ H Q):zX (tA K W fl) σ H Q:=by
 obtain ⟨He,O,Fs,Γ,E,h⟩:=h;refine ⟨He,O,Fs,Γ,E,?_⟩
 unfold cQ at h
 cases e:fl Γ with
 | ok ps Γ'=>
  rw [e] at h;intro vs H' Gs Fs' A
  have h:Wants K W He O Fs H σ Q (if (ps.all tok&&decide (ps.length<=sizeLine))=true then .ok ⟨.tup (ps.map wx),.tuple (ps.map (·.d))⟩ Γ' else .no):=h
  by_cases hc:(ps.all tok&&decide (ps.length<=sizeLine))=true
  ·rw [if_pos hc] at h
   simp only [Bool.and_eq_true,decide_eq_true_eq] at hc
   exact ⟨by rw [A.len1];exact hc.2,fun p hp=>h _ _ _ _ (A.newTup hc.1 hp)⟩
  ·rw [if_neg hc] at h
   exact h.elim
 | er c Γ'=>rw [e] at h;exact h
 | no=>rw [e] at h;exact h
end
def dD (p:PV) (ds:List D):Bool:=!p.s.isView||ds.all bJ
theorem Own.items {K:Fg} {O O':List Addr} {H:Hp} {s:Sh} {G:List Addr} {v:V} {ds:List D} (h:Own K O H s G v (.list ds)) (hc:dD ⟨s,.list ds⟩ ds=true) (h1:∀a∈O',a∈O) (h2:∀a∈G,a∉O') :
  ∃p vs,v=.ref p/\SqL K H p vs/\(s.isView=false->SqL K (bY H O') p vs)/\Reps K (bY H O') vs ds:=by
 have hr:=h.rep
 cases hv:s.isView with
 | false=>
  have r:=h.freeze hv h1 h2
  cases r with
  | @lst p vs _ hq hl hr=>exact ⟨p,vs,rfl,hid_le.seq hq,fun _=>hq,hl,hr⟩
 | true=>
  unfold dD at hc;have hc:ds.all bJ=true:=by simpa [hv] using hc
  cases hr with
  | @lst p vs _ hq hl hr=>exact ⟨p,vs,rfl,hq,nofun,hl,fun i v d e1 e2=>((hr i v d e1 e2).sc (List.all_eq_true.mp hc d (mem_of_getElem? e2))).rep⟩
theorem Own.itemsT {K:Fg} {O O':List Addr} {H:Hp} {s:Sh} {G:List Addr} {v:V} {ds:List D} (h:Own K O H s G v (.tuple ds)) (hc:dD ⟨s,.tuple ds⟩ ds=true) (h1:∀a∈O',a∈O) (h2:∀a∈G,a∉O') :
  ∃p vs,v=.ref p/\SqT K H p vs/\(s.isView=false->SqT K (bY H O') p vs)/\Reps K (bY H O') vs ds:=by
 have hr:=h.rep
 cases hv:s.isView with
 | false=>
  have r:=h.freeze hv h1 h2
  cases r with
  | @tup p vs _ hq hl hr=>exact ⟨p,vs,rfl,ke hid_le hq,fun _=>hq,hl,hr⟩
 | true=>
  unfold dD at hc;have hc:ds.all bJ=true:=by simpa [hv] using hc
  cases hr with
  | @tup p vs _ hq hl hr=>exact ⟨p,vs,rfl,hq,nofun,hl,fun i v d e1 e2=>((hr i v d e1 e2).sc (List.all_eq_true.mp hc d (mem_of_getElem? e2))).rep⟩
theorem EI {K:Fg} {σ:St} {He H H1:Hp} {O:List Addr} {Fs Fs1:List (List Addr)} {Γ1:Ev} {vs:List V} {ds:List D} {p:Addr} (E:EnvOk K He O Fs1 H1 σ Γ1) (s:Same H H1) (n:∀a∈Fs1.flatten,a∈Fs.flatten\/H a=none)
  (hr:Reps K (bY H1 (O++Fs1.flatten)) vs ds) (hp:H1 p=none):Aft K He O Fs H σ Γ1 ⟨.lst .leaf,.list ds⟩ (.ref p) (bA H1 p (.lst vs)) [p] Fs1:=by
 have E2:=E.hide (G:=[p]) (gC (o:=.lst vs) hp) (by simp) (fun a ha=>by simp at ha;rw [ha];exact hp) (fun a ha=>by simp at ha;rw [ha,dI];exact Option.some_ne_none _)
 refine ⟨s.trans (gC hp),E2,fun a ha=>?_,?_⟩
 ·rcases List.mem_append.mp ha with z | z
  ·have z:a=p:=by simpa using z
   rw [z];exact .inr (s.free hp)
  ·exact n a z
 ·have fl:(List.replicate ds.length ([]:List Addr)).flatten=[]:=by simp
  have:[p]=p::(List.replicate ds.length ([]:List Addr)).flatten:=by rw [fl]
  rw [this];refine .lst rfl dI hr.1 (by simp) (by rw [fl];simp) fun i v d F h1 h2 h3=>?_
  rw [getElem?_replicate] at h3;split at h3
  ·cases h3
   refine .leaf ((hr.2 i v d h1 h2).mono (qm (gC hp) fun a ha=>?_))
   rw [fl] at ha;rcases List.mem_append.mp ha with z | z
   ·rcases List.mem_append.mp z with z | z
    ·have z:a=p:=by simpa using z
     rw [z];exact .inr hp
    ·exact .inl (mem_append_left _ z)
   ·exact .inl (mem_append_right _ z)
  ·cases h3
def km (fa:F1):F1:=aW fa fun p Γ=>match p.d with
 | .list ds=>if dD p ds then .ok ⟨.lst .leaf,.list ds⟩ Γ else .no
 | .tuple ds=>if dD p ds then .ok ⟨.lst .leaf,.list ds⟩ Γ else .no
 | _=>.no
section
variable {K:Fg} {W:XW} {σ:St} {H:Hp} {Q:VK} {fa fb:F1}
theorem Aft.disj {He H1:Hp} {O G:List Addr} {Fs Fs1:List (List Addr)} {Γ1:Ev} {p:PV} {v:V} (A:Aft K He O Fs H σ Γ1 p v H1 G Fs1):∀a∈G,a∉O++Fs1.flatten:=fun a ha z=>by
 have nd:=A.env.nd
 rw [append_assoc] at nd;exact (List.nodup_append.mp nd).2.2 a ha a z rfl
theorem lS {G O F:List Addr}:∀a∈O++F,a∈G++O++F:=fun a ha=>by
 rw [append_assoc];exact mem_append_right _ ha
theorem qG (h:tE K W (km fa) σ H Q):Aa (fun xs H Q=>∃p ys,xs=[.ref p]/\(SqL K H p ys\/SqT K H p ys)/\∀l,H l=none->Q (.ref l) (bA H l (.lst ys))) (tA K W (ah fa ai)) σ H Q:=by
 have h1:tE K W fa σ H fun x H1=>∃p ys,x=.ref p/\(SqL K H1 p ys\/SqT K H1 p ys)/\∀l,H1 l=none->Q (.ref l) (bA H1 l (.lst ys)):=by
  refine zF h fun He O Fs Γ1 p v H1 G Fs1 nd A w=>?_
  obtain ⟨s,d⟩:=p
  cases d with
  | list ds=>
   have w:Wants K W He O Fs H σ Q (if dD ⟨s,.list ds⟩ ds then .ok ⟨.lst .leaf,.list ds⟩ Γ1 else .no):=w
   cases hc:dD ⟨s,.list ds⟩ ds with
   | false=>rw [hc] at w;exact w.elim
   | true=>
    rw [hc] at w;obtain ⟨p,vs,rfl,hq,_,hr⟩:=A.own.items (O':=O++Fs1.flatten) hc lS A.disj
    exact ⟨p,vs,rfl,.inl hq,fun l hl=>w _ _ _ _ (EI A.go A.same A.newF hr hl)⟩
  | tuple ds=>
   have w:Wants K W He O Fs H σ Q (if dD ⟨s,.tuple ds⟩ ds then .ok ⟨.lst .leaf,.list ds⟩ Γ1 else .no):=w
   cases hc:dD ⟨s,.tuple ds⟩ ds with
   | false=>rw [hc] at w;exact w.elim
   | true=>
    rw [hc] at w;obtain ⟨p,vs,rfl,hq,_,hr⟩:=A.own.itemsT (O':=O++Fs1.flatten) hc lS A.disj
    exact ⟨p,vs,rfl,.inr hq,fun l hl=>w _ _ _ _ (EI A.go A.same A.newF hr hl)⟩
  | _=>exact w.elim
 obtain ⟨He,O,Fs,Γ,E,h1⟩:=h1;refine ⟨He,O,Fs,Γ,E,?_⟩
 unfold ah ai
 cases e:fa Γ with
 | ok p Γ'=>
  rw [e] at h1;intro vs H' Gs Fs' A
  match vs,Gs,A.len1,A.len2 with
  | [v],[G],_,_=>
   have A':Aft K He O Fs H σ Γ' p v H' G Fs':=⟨A.same,by simpa using A.env,by simpa using A.new,by simpa using A.own 0 v p G rfl rfl rfl⟩
   obtain ⟨q,ys,rfl,h2,h3⟩:=h1 v H' G Fs' A'
   exact ⟨q,ys,rfl,h2,h3⟩
 | er c Γ'=>rw [e] at h1;exact h1
 | no=>rw [e] at h1;exact h1
end
structure yC (J:It) (P:Hp->Prop) (vs:List V):Prop where
 go:∀(i:Nat) H v,P H->vs[i]?=some v->J.go i H/\∀x H',J.yld i H x H'->H'=H/\x=v
 stop:∀H,P H->J.stop vs.length H
theorem xQ {K:Fg} {a:Addr} {vs:List V}:yC (Ci K a) (fun H=>SqL K H a vs) vs:=
 ⟨fun i H v hp hv=>⟨⟨vs,v,hp,hv⟩,fun x H' ⟨e,q⟩=>⟨e,Option.some.inj ((q vs hp).symm.trans hv)⟩⟩,fun H hp=>⟨vs,hp,Nat.le_refl _⟩⟩
def eT (lo:Int) (n:Nat):List V:=(List.range n).map fun i=>.int (lo+(i:Nat))
def cj (lo:Int) (n:Nat):List D:=(List.range n).map fun i=>.int (lo+(i:Nat))
theorem uW {lo:Int} {n:Nat}:yC (Cg lo n) (fun _=>True) (eT lo n):=by
 refine ⟨fun i H v _ hv=>?_,fun H _=>?_⟩
 ·unfold eT at hv
  rw [getElem?_map] at hv
  cases e:(List.range n)[i]? with
  | none=>rw [e] at hv;cases hv
  | some k=>
   rw [e] at hv;obtain ⟨h1,h2⟩:=List.getElem?_eq_some_iff.mp e
   simp at h1 h2
   subst h2
   cases hv;exact ⟨h1,fun x H' ⟨q1,q2⟩=>⟨q1,q2⟩⟩
 ·show n<=(eT lo n).length
  simp [eT]
theorem G8 {K:Fg} {H:Hp} {lo:Int} {n:Nat}:Reps K H (eT lo n) (cj lo n):=by
 refine ⟨by simp [eT,cj],fun i v d h1 h2=>?_⟩
 unfold eT at h1;unfold cj at h2;rw [getElem?_map] at h1 h2
 cases e:(List.range n)[i]? with
 | none=>rw [e] at h1;cases h1
 | some k=>
  rw [e] at h1 h2
  cases h1
  cases h2;exact .int _
structure Jj where
 ds:List D
 st:Bool
abbrev FI:=Ev->Out Jj
def Ef (K:Fg) (W:XW) (He:Hp) (O:List Addr) (Fs:List (List Addr)) (H:Hp) (σ:St) (R:It->Hp->Prop) (o:Out Jj):Prop:=match o with
 | .ok t Γ'=>∀J H' Fs' vs P,Same H H'->EnvOk K He O Fs' H' σ Γ'->(∀a∈Fs'.flatten,a∈Fs.flatten\/H a=none)->yC J P vs->P H'->(∀H2,Same H' H2->P H2)->(t.st=true->∀H2,Same (bY H' Fs'.flatten) H2->P H2) ->
   Reps K (bY H' (O++Fs'.flatten)) vs t.ds->R J H'
 | .er c Γ'=>∀H' Fs',Same H H'->EnvOk K He O Fs' H' σ Γ'->W c σ H'
 | .no=>False
def tI (K:Fg) (W:XW) (f:FI):TI:=fun σ H R=>∃He O Fs Γ,EnvOk K He O Fs H σ Γ/\Ef K W He O Fs H σ R (f Γ)
theorem qj {X:Cx} {tg iter:Expr} {t t':TI} (h:PI X tg iter t) (i:∀σ H R,t' σ H R->t σ H R):PI X tg iter t':=fun pins s σ H R I q=>h pins s σ H R I (i σ H R q)
def aF (fa:F1):FI:=fun Γ=>(fa Γ).bind fun p Γ'=>match p.d with
 | .list ds=>if dD p ds then .ok ⟨ds,!p.s.isView⟩ Γ' else .no
 | _=>.no
def zl (fa:F1):FI:=fun Γ=>(fa Γ).bind fun p Γ'=>match p.d with
 | .tuple ds=>if dD p ds then .ok ⟨ds,!p.s.isView⟩ Γ' else .no
 | _=>.no
section
variable {K:Fg} {W:XW} {σ:St} {H:Hp} {R:It->Hp->Prop} {fa fb:F1}
theorem sub_hid {H:Hp} {O F:List Addr}:Same (bY H (O++F)) (bY H F):=qm (Same.refl _) fun a ha=>.inl (mem_append_right _ ha)
theorem xb (h:tI K W (aF fa) σ H R):iQ K (tE K W fa) σ H R:=by
 obtain ⟨He,O,Fs,Γ,E,h⟩:=h;refine ⟨He,O,Fs,Γ,E,?_⟩
 unfold aF at h
 cases e:fa Γ with
 | ok p Γ1=>
  rw [e] at h;intro v H1 G Fs1 A;obtain ⟨s,d⟩:=p
  cases d with
  | list ds=>
   have h:Ef K W He O Fs H σ R (if dD ⟨s,.list ds⟩ ds then .ok ⟨ds,!s.isView⟩ Γ1 else .no):=h
   cases hc:dD ⟨s,.list ds⟩ ds with
   | false=>rw [hc] at h;exact h.elim
   | true=>
    rw [hc] at h;obtain ⟨p,vs,rfl,hq,hst,hr⟩:=A.own.items (O':=O++Fs1.flatten) hc lS A.disj
    exact ⟨p,rfl,⟨vs,hq⟩,h (Ci K p) H1 Fs1 vs (fun H=>SqL K H p vs) A.same A.go A.newF xQ hq (fun H2 s2=>s2.seq hq) (fun ht H2 s2=>s2.seq (sub_hid.seq (hst (by simpa using ht)))) hr⟩
  | _=>exact h.elim
 | er c Γ'=>rw [e] at h;exact h
 | no=>rw [e] at h;exact h
def dq (j:Int):Bool:=decide (-(2 ^ 62)<=j)&&decide (j<2 ^ 62)
def jn:List D->Option Int
 | [.int j]=>if dq j then some j else none
 | _=>none
def qD:List D->Option (Int×Int)
 | [.int i,.int j]=>if dq i&&dq j then some (i,j) else none
 | _=>none
theorem pD {ds:List D} {j:Int} (h:jn ds=some j):ds=[.int j]/\-(2 ^ 62)<=j/\j<2 ^ 62:=by
 unfold jn at h;split at h
 ·split at h
  ·rename_i hc
   cases h;simp only [dq,Bool.and_eq_true,decide_eq_true_eq] at hc
   exact ⟨rfl,hc.1,hc.2⟩
  ·cases h
 ·cases h
theorem wQ {ds:List D} {i j:Int} (h:qD ds=some (i,j)):ds=[.int i,.int j]/\(-(2 ^ 62)<=i/\i<2 ^ 62/\-(2 ^ 62)<=j/\j<2 ^ 62):=by
 unfold qD at h;split at h
 ·split at h
  ·rename_i hc
   cases h;simp only [dq,Bool.and_eq_true,decide_eq_true_eq] at hc
   exact ⟨rfl,hc.1.1,hc.1.2,hc.2.1,hc.2.2⟩
  ·cases h
 ·cases h
def gk (fl:FL):FI:=fun Γ=>(fl Γ).bind fun ps Γ'=>match jn (ps.map (·.d)) with
 | some j=>.ok ⟨cj 0 j.toNat,true⟩ Γ'
 | none=>.no
def xS (fl:FL):FI:=fun Γ=>(fl Γ).bind fun ps Γ'=>match qD (ps.map (·.d)) with
 | some (i,j)=>.ok ⟨cj i (j-i).toNat,true⟩ Γ'
 | none=>.no
theorem AC {fl:FL} (h:tI K W (gk fl) σ H R):zo (tA K W fl) σ H R:=by
 obtain ⟨He,O,Fs,Γ,E,h⟩:=h;refine ⟨He,O,Fs,Γ,E,?_⟩
 unfold gk at h
 cases e:fl Γ with
 | ok ps Γ1=>
  rw [e] at h;intro vs H1 Gs Fs1 A;have h:Ef K W He O Fs H σ R (match jn (ps.map (·.d)) with | some j=>.ok ⟨cj 0 j.toNat,true⟩ Γ1 | none=>.no):=h
  have rs:=A.reps
  cases e1:jn (ps.map (·.d)) with
  | none=>rw [e1] at h;exact h.elim
  | some j=>
   rw [e1] at h;obtain ⟨e2,h1,h2⟩:=pD e1;rw [e2] at rs;obtain ⟨v,rfl,r⟩:=rs.one
   cases r;exact ⟨j,rfl,h1,h2,h (Cg 0 j.toNat) H1 Fs1 (eT 0 j.toNat) (fun _=>True) A.same A.env.dropL (fun a ha=>A.new a (mem_append_right _ ha)) uW trivial (fun _ _=>trivial) (fun _ _ _=>trivial) G8⟩
 | er c Γ'=>rw [e] at h;exact h
 | no=>rw [e] at h;exact h
theorem AB {fl:FL} (h:tI K W (xS fl) σ H R):zm (tA K W fl) σ H R:=by
 obtain ⟨He,O,Fs,Γ,E,h⟩:=h;refine ⟨He,O,Fs,Γ,E,?_⟩
 unfold xS at h
 cases e:fl Γ with
 | ok ps Γ1=>
  rw [e] at h;intro vs H1 Gs Fs1 A;have h:Ef K W He O Fs H σ R (match qD (ps.map (·.d)) with | some (i,j)=>.ok ⟨cj i (j-i).toNat,true⟩ Γ1 | none=>.no):=h
  have rs:=A.reps
  cases e1:qD (ps.map (·.d)) with
  | none=>rw [e1] at h;exact h.elim
  | some ij=>
   obtain ⟨i,j⟩:=ij;rw [e1] at h;obtain ⟨e2,hb⟩:=wQ e1;rw [e2] at rs;obtain ⟨v,u,rfl,r,r'⟩:=rs.two
   cases r
   cases r'
   exact ⟨i,j,rfl,hb,h (Cg i (j-i).toNat) H1 Fs1 (eT i (j-i).toNat) (fun _=>True) A.same A.env.dropL (fun a ha=>A.new a (mem_append_right _ ha)) uW trivial (fun _ _=>trivial) (fun _ _ _=>trivial) G8⟩
 | er c Γ'=>rw [e] at h;exact h
 | no=>rw [e] at h;exact h
end
def qk (i:Nat) (fc:FB) (fe:F1) (s:Sh):List D->Ev->List D->Out (List D)
 | [],Γ,acc=>.ok acc Γ
 | d::r,Γ,acc=>match fc (Γ.set i (some ⟨.leaf,d⟩)) with
  | .ok true Γ1=>(match fe Γ1 with
   | .ok p Γ2=>if T.coer s p&&decide (acc.length<sizeLine) then qk i fc fe s r (Γ2.set i none) (acc++[p.d]) else .no
   | _=>.no)
  | .ok false Γ1=>if acc.length<sizeLine then qk i fc fe s r (Γ1.set i none) acc else .no
  | _=>.no
def av (s:Sh) (i:Nat) (fi:FI) (fc:FB) (fe:F1):F1:=fun Γ=>(fi Γ).bind fun t Γ1=>match qk i fc fe s t.ds (Γ1.set i none) [] with
 | .ok ds Γ2=>if !s.isView&&decide (i<Γ1.length) then .ok ⟨.lst s,.list ds⟩ (Γ2.set i (Γ1.getD i none)) else .no
 | _=>.no
abbrev W0:XW:=fun _ _ _=>False
section
variable {K:Fg} {He H H1 H2:Hp} {O G:List Addr} {Fs Fs1 Fs2:List (List Addr)} {σ:St} {Γ Γ1 Γ2:Ev}
theorem Hj {is:List Nat} {σ:St} {j:Nat} (h:j∉is):(bo is σ)[j]?=σ[j]?:=by
 unfold bo;rw [List.getElem?_mapIdx]
 cases σ[j]? with
 | none=>rfl
 | some o=>simp [h]
theorem Fb {Γ:Ev} {i j:Nat} {p:PV} (h:(Γ.set i none)[j]?=some (some p)):j≠i/\Γ[j]?=some (some p):=by
 by_cases hj:j=i
 ·subst hj
  rw [List.getElem?_set] at h;split at h
  ·split at h<;>cases h
  ·rename_i z;exact absurd rfl z
 ·rw [getElem?_set_ne (Ne.symm hj)] at h
  exact ⟨hj,h⟩
theorem EnvOk.shut {i:Nat} (E:EnvOk K He O Fs H σ Γ) (hi:i<Γ.length) :
  ∃F,Fs[i]?=some F/\EnvOk K He (F++O) (Fs.set i []) H (bo [i] σ) (Γ.set i none)/\∀a,a∈F++(Fs.set i []).flatten↔a∈Fs.flatten:=by
 obtain ⟨F,hF⟩:=E.lt hi;have pm:(F++(Fs.set i []).flatten).Perm Fs.flatten:=by simpa using nX (G:=[]) hF
 have pm2:(F++O++(Fs.set i []).flatten).Perm (O++Fs.flatten):=by
  rw [append_assoc];exact (mw _ _ _).trans (List.Perm.append_left _ pm)
 refine ⟨F,hF,⟨by rw [yS,length_set];exact E.len1,by rw [length_set,length_set];exact E.len2,E.same,pm2.nodup_iff.mpr E.nd,fun a ha=>E.inH a (pm2.mem_iff.mp ha),fun a ha=>E.fresh a (pm.mem_iff.mp (mem_append_right _ ha)),fun j q hq=>?_⟩,fun a=>pm.mem_iff⟩
 obtain ⟨hj,hq⟩:=Fb hq;obtain ⟨w1,v',F',e1,e2,e3⟩:=E.slot j q hq;exact ⟨w1,v',F',by rw [Hj (by simpa using hj)];exact e1,by rw [getElem?_set_ne (Ne.symm hj)];exact e2,e3.mono (Same.refl _) fun a ha=>.inl (pm2.mem_iff.mp ha)⟩
theorem EnvOk.forget {i:Nat} {x:Option V} (E:EnvOk K He O Fs H ((bo [i] σ).set i x) Γ) (hi:i<Γ.length):EnvOk K He O (Fs.set i []) H (bo [i] σ) (Γ.set i none):=by
 obtain ⟨F,hF⟩:=E.lt hi;have pm:(F++(Fs.set i []).flatten).Perm Fs.flatten:=by simpa using nX (G:=[]) hF
 have sub:∀a∈O++(Fs.set i []).flatten,a∈O++Fs.flatten:=fun a ha=>by
  rcases List.mem_append.mp ha with z | z
  ·exact mem_append_left _ z
  ·exact mem_append_right _ (pm.mem_iff.mp (mem_append_right _ z))
 have l1:=E.len1
 rw [length_set] at l1;obtain ⟨n1,n2,n3⟩:=List.nodup_append.mp E.nd;have n4:((Fs.set i []).flatten).Nodup:=(List.nodup_append.mp (pm.nodup_iff.mpr n2)).2.1
 refine ⟨by rw [length_set];exact l1,by rw [length_set,length_set];exact E.len2,E.same,List.nodup_append.mpr ⟨n1,n4,fun a ha b hb=>n3 a ha b (pm.mem_iff.mp (mem_append_right _ hb))⟩,fun a ha=>E.inH a (sub a ha),fun a ha=>E.fresh a (pm.mem_iff.mp (mem_append_right _ ha)),fun j q hq=>?_⟩
 obtain ⟨hj,hq⟩:=Fb hq;obtain ⟨w1,v',F',e1,e2,e3⟩:=E.slot j q hq;rw [getElem?_set_ne (Ne.symm hj)] at e1;exact ⟨w1,v',F',e1,by rw [getElem?_set_ne (Ne.symm hj)];exact e2,e3.mono (Same.refl _) fun a ha=>.inl (sub a ha)⟩
theorem EnvOk.reopen {i:Nat} {F:List Addr} (E1:EnvOk K He O Fs1 H1 σ Γ1) (hF:Fs1[i]?=some F) (E2:EnvOk K He (G++(F++O)) Fs2 H2 (bo [i] σ) Γ2) (hl:Γ2.length=Γ1.length) (s:Same H1 H2)
  (hn:Γ2[i]?=some none) (hF2:Fs2[i]?=some []) (new:∀a∈G++Fs2.flatten,a∈Fs1.flatten\/H1 a=none):EnvOk K He (G++O) (Fs2.set i F) H2 σ (Γ2.set i (Γ1.getD i none)):=by
 have pm:((Fs2.set i F).flatten).Perm (F++Fs2.flatten):=by simpa using nX (G:=F) hF2
 have pm2:(G++O++(Fs2.set i F).flatten).Perm (G++(F++O)++Fs2.flatten):=by
  refine (List.Perm.append_left _ pm).trans ?_
  rw [append_assoc,append_assoc];refine List.Perm.append_left _ ?_
  rw [append_assoc];exact mw _ _ _
 have hi:i<Γ2.length:=(List.getElem?_eq_some_iff.mp hn).1
 refine ⟨by rw [length_set,hl];exact E1.len1,by rw [length_set,length_set];exact E2.len2,E2.same,pm2.nodup_iff.mpr E2.nd,fun a ha=>E2.inH a (pm2.mem_iff.mp ha),fun a ha=>?_,fun j q hq=>?_⟩
 ·rcases List.mem_append.mp (pm.mem_iff.mp ha) with z | z
  ·exact E1.fresh a (nS hF z)
  ·exact E2.fresh a z
 ·by_cases hj:j=i
  ·subst hj
   rw [getElem?_set_self hi] at hq;have hq:Γ1.getD j none=some q:=Option.some.inj hq
   rw [getD_eq_getElem?_getD] at hq;have hq':Γ1[j]?=some (some q):=by
    cases e:Γ1[j]? with
    | none=>rw [e] at hq;cases hq
    | some o=>rw [e] at hq;simp only [Option.getD_some] at hq;rw [hq]
   obtain ⟨w1,v',F',e1,e2,e3⟩:=E1.slot j q hq'
   rw [hF] at e2
   cases e2;refine ⟨w1,v',F,e1,getElem?_set_self (by rw [E2.len2];exact hi),e3.mono s fun a ha=>?_⟩
   rcases List.mem_append.mp ha with z | z
   ·rcases List.mem_append.mp z with z | z
    ·exact (new a (mem_append_left _ z)).elim (fun y=>.inl (mem_append_right _ y)) .inr
    ·exact .inl (mem_append_left _ z)
   ·rcases List.mem_append.mp (pm.mem_iff.mp z) with y | y
    ·exact .inl (mem_append_right _ (nS hF y))
    ·exact (new a (mem_append_right _ y)).elim (fun y=>.inl (mem_append_right _ y)) .inr
  ·rw [getElem?_set_ne (Ne.symm hj)] at hq
   obtain ⟨w1,v',F',e1,e2,e3⟩:=E2.slot j q hq;rw [Hj (by simpa using hj)] at e1
   exact ⟨w1,v',F',e1,by rw [getElem?_set_ne (Ne.symm hj)];exact e2,e3.mono (Same.refl _) fun a ha=>.inl (pm2.mem_iff.mp ha)⟩
theorem EnvOk.mutO {p:Addr} {o:HO} {xs:List V} (E:EnvOk K He O Fs H σ Γ) (hp:p∈O) (hl:H p=some (.lst xs)) (hn:He p=none):EnvOk K He O Fs (bA H p o) σ Γ:=by
 obtain ⟨n1,n2,n3⟩:=List.nodup_append.mp E.nd;refine ⟨E.len1,E.len2,fun b u e=>?_,E.nd,fun a ha=>?_,E.fresh,fun j q hq=>?_⟩
 ·rw [cS (kj e hn)]
  exact E.same b u e
 ·by_cases h:a=p
  ·rw [h,dI];exact Option.some_ne_none _
  ·rw [cS h];exact E.inH a ha
 ·obtain ⟨w1,v',F',e1,e2,e3⟩:=E.slot j q hq
  exact ⟨w1,v',F',e1,e2,e3.mut w1 (mem_append_left _ hp) (fun z=>n3 p hp p (nS e2 z) rfl) hl⟩
end
structure Jl (K:Fg) (He:Hp) (O F:List Addr) (Fs1:List (List Addr)) (H1:Hp) (σ:St) (i:Nat) (s:Sh) (A0:Addr) (n:Nat) (ys:List V) (H:Hp) (Γk:Ev) (Fk Gs:List (List Addr)) (acc:List D):Prop where
 env:EnvOk K He (A0::Gs.flatten++(F++O)) Fk H (bo [i] σ) Γk
 same:Same H1 H
 at_:H A0=some (.lst ys)
 new:∀a∈Gs.flatten++Fk.flatten,a∈Fs1.flatten\/H1 a=none
 l1:ys.length=acc.length
 l2:Gs.length=acc.length
 own:∀(j:Nat) v d G,ys[j]?=some v->acc[j]?=some d->Gs[j]?=some G->Own K (A0::Gs.flatten++(F++O)++Fk.flatten) H s G v d
 noneG:Γk[i]?=some none
 noneF:Fk[i]?=some []
 len:Γk.length=n
theorem wq {α:Type} (Gs:List (List α)) (G:List α):(Gs++[G]).flatten=Gs.flatten++G:=by simp
section
variable {K:Fg} {W:XW} {σ:St} {H:Hp} {Q:VK} {fe:F1} {fc:FB} {fi:FI} {s:Sh} {i:Nat}
theorem GL (h:tE K W (av s i fi fc fe) σ H Q):fP [i] (tI K W fi) (bQ i) (tT K W0 fc) (tE K W0 fe) σ H Q:=by
 obtain ⟨He,O,Fs,Γ,E,h⟩:=h;refine ⟨He,O,Fs,Γ,E,?_⟩
 unfold av at h
 cases e:fi Γ with
 | er c Γ'=>rw [e] at h;exact h
 | no=>rw [e] at h;exact h
 | ok t Γ1=>
  rw [e] at h;intro J H1 Fs1 vs P s1 E1 n1 it hP hP1 _ hr A0 hD;have h:Wants K W He O Fs H σ Q (match qk i fc fe s t.ds (Γ1.set i none) [] with | .ok ds Γ2=>if !s.isView&&decide (i<Γ1.length) then .ok ⟨.lst s,.list ds⟩ (Γ2.set i (Γ1.getD i none)) else .no | _=>.no):=h
  cases eg:qk i fc fe s t.ds (Γ1.set i none) [] with
  | er c Γ'=>rw [eg] at h;exact h.elim
  | no=>rw [eg] at h;exact h.elim
  | ok ds' Γ2=>
   rw [eg] at h;have h:Wants K W He O Fs H σ Q (if (!s.isView&&decide (i<Γ1.length))=true then .ok ⟨.lst s,.list ds'⟩ (Γ2.set i (Γ1.getD i none)) else .no):=h
   by_cases hc:(!s.isView&&decide (i<Γ1.length))=true
   case neg=>rw [if_neg hc] at h;exact h.elim
   rw [if_pos hc] at h;simp only [Bool.and_eq_true,decide_eq_true_eq,Bool.not_eq_true'] at hc
   obtain ⟨hsv,hi⟩:=hc;obtain ⟨F,hF,E0,hmem⟩:=E1.shut hi;have hHeD:He A0=none:=E1.same.free hD
   have E0':EnvOk K He (A0::([]:List (List Addr)).flatten++(F++O)) (Fs1.set i []) (bA H1 A0 (.lst [])) (bo [i] σ) (Γ1.set i none):=
    E0.hide (G:=[A0]) (gC hD) (by simp) (fun a ha=>by simp at ha;rw [ha];exact hD) (fun a ha=>by simp at ha;rw [ha,dI];exact Option.some_ne_none _)
   refine ⟨fun k m ys H'=>m=vs.length-k/\k<=vs.length/\∃Γk Fk Gs acc,Jl K He O F Fs1 H1 σ i s A0 Γ1.length ys H' Γk Fk Gs acc/\qk i fc fe s (t.ds.drop k) Γk acc=.ok ds' Γ2,⟨vs.length,by simp,Nat.zero_le _,Γ1.set i none,Fs1.set i [],[],[],⟨E0',gC hD,dI,fun a ha=>.inl ((hmem a).mp (mem_append_right _ (by simpa using ha))),rfl,rfl,fun j v d G h1=>by simp at h1,getElem?_set_self hi,getElem?_set_self (by rw [E1.len2];exact hi),by rw [length_set]⟩,by simpa using eg⟩,?_⟩
   rintro k m ys H' ⟨rfl,hk,Γk,Fk,Gs,acc,g,eg'⟩
   refine ⟨g.at_,?_⟩
   have hPk:P H':=hP1 H' g.same
   have hlen:vs.length=t.ds.length:=hr.1
   by_cases hlt:k<vs.length
   case neg=>
    have hke:k=vs.length:=by omega
    left
    have:t.ds.drop k=[]:=drop_eq_nil_of_le (by omega)
    rw [this] at eg';have eg'':(Out.ok acc Γk:Out (List D))=.ok ds' Γ2:=eg'
    injection eg'' with e1 e2
    subst e1;subst e2;refine ⟨by rw [hke];exact it.stop H' hPk,?_⟩
    have E3:EnvOk K He ((A0::Gs.flatten)++O) (Fk.set i F) H' σ (Γk.set i (Γ1.getD i none)):=
     EnvOk.reopen (G:=A0::Gs.flatten) E1 hF g.env g.len g.same g.noneG g.noneF fun a ha=>by
      rcases List.mem_append.mp ha with z | z
      ·rcases List.mem_cons.mp z with z | z
       ·rw [z];exact .inr hD
       ·exact g.new a (mem_append_left _ z)
      ·exact g.new a (mem_append_right _ z)
    have pmF:((Fk.set i F).flatten).Perm (F++Fk.flatten):=by simpa using nX (G:=F) g.noneF
    obtain ⟨n1',_,n3'⟩:=List.nodup_append.mp g.env.ndO;refine h (.ref A0) H' (A0::Gs.flatten) (Fk.set i F) ⟨s1.trans g.same,E3,fun a ha=>?_,?_⟩
    ·have up:a∈Fs1.flatten\/H1 a=none->a∈Fs.flatten\/H a=none:=fun z=>z.elim (n1 a) fun y=>.inr (s1.free y)
     rcases List.mem_append.mp ha with z | z
     ·rcases List.mem_cons.mp z with z | z
      ·exact up (.inr (by rw [z];exact hD))
      ·exact up (g.new a (mem_append_left _ z))
     ·rcases List.mem_append.mp (pmF.mem_iff.mp z) with y | y
      ·exact up (.inl (nS hF y))
      ·exact up (g.new a (mem_append_right _ y))
    ·refine .lst hsv g.at_ g.l1 g.l2 n1' fun j v d G h1 h2 h3=>(g.own j v d G h1 h2 h3).perm fun a ha=>?_
     rw [append_assoc] at ha ⊢;rcases List.mem_append.mp ha with z | z
     ·exact mem_append_left _ z
     ·refine mem_append_right _ ?_
      rcases List.mem_append.mp z with z | z
      ·exact mem_append_left _ (mem_append_right _ z)
      ·rcases List.mem_append.mp (pmF.mem_iff.mp z) with y | y
       ·exact mem_append_left _ (mem_append_left _ y)
       ·exact mem_append_right _ y
   case pos=>
    right
    have hv:vs[k]?=some vs[k]:=getElem?_eq_getElem hlt
    have hkd:k<t.ds.length:=by omega
    have hd:t.ds[k]?=some t.ds[k]:=getElem?_eq_getElem hkd
    have hdr:t.ds.drop k=t.ds[k]::t.ds.drop (k+1):=drop_eq_getElem_cons hkd
    rw [hdr] at eg';generalize hdk:t.ds[k]=d at hd eg'
    generalize hvk:vs[k]=v at hv
    obtain ⟨hgo,hyld⟩:=it.go k H' v hPk hv
    simp only [qk] at eg'
    have hik:i<Γk.length:=by rw [g.len];exact hi
    have rep:Rep K (bY H' (A0::Gs.flatten++(F++O)++Fk.flatten)) v d:=(hr.2 k v d hv hd).mono (qm g.same fun a ha=>by
     rcases List.mem_append.mp ha with z | z
     ·rcases List.mem_append.mp z with z | z
      ·rcases List.mem_cons.mp z with z | z
       ·rw [z];exact .inr hD
       ·exact (g.new a (mem_append_left _ z)).elim (fun y=>.inl (mem_append_right _ y)) .inr
      ·rcases List.mem_append.mp z with z | z
       ·exact .inl (mem_append_right _ (nS hF z))
       ·exact .inl (mem_append_left _ z)
     ·exact (g.new a (mem_append_right _ z)).elim (fun y=>.inl (mem_append_right _ y)) .inr)
    have Ep:EnvOk K He (A0::Gs.flatten++(F++O)) (Fk.set i []) H' ((bo [i] σ).set i (some v)) (Γk.set i (some ⟨.leaf,d⟩)):=
     EnvOk.put (G:=[]) (p:=⟨.leaf,d⟩) (v:=v) g.env (.leaf rep) rfl (fun a ha=>by simp at ha) hik
    have hsl:ys.length<sizeLine:=by
     rw [g.l1]
     cases ec:fc (Γk.set i (some ⟨.leaf,d⟩)) with
     | no=>rw [ec] at eg';cases eg'
     | er c Γ'=>rw [ec] at eg';cases eg'
     | ok b Γa=>
      rw [ec] at eg'
      cases b with
      | false=>
       dsimp only at eg'
       split at eg'
       ·assumption
       ·cases eg'
      | true=>
       dsimp only at eg'
       split at eg'
       ·split at eg'
        ·rename_i z
         simp only [Bool.and_eq_true,decide_eq_true_eq] at z
         exact z.2
        ·cases eg'
       ·cases eg'
    refine ⟨hgo,hsl,fun x Hx hx=>?_⟩
    obtain ⟨rfl,rfl⟩:=hyld x Hx hx;show F6 (bo [i] σ) ((bo [i] σ).set i (some x))/\_
    refine ⟨⟨by rw [length_set],fun j u hj=>?_⟩,?_⟩
    ·have:=(EZ hj).1
     rw [getElem?_set_ne (by simp at this;exact fun z=>this z.symm)]
     exact hj
    refine ⟨He,_,_,_,Ep,?_⟩
    cases ec:fc (Γk.set i (some ⟨.leaf,d⟩)) with
    | no=>rw [ec] at eg';cases eg'
    | er c Γ'=>rw [ec] at eg';cases eg'
    | ok b Γa=>
     rw [ec] at eg';intro H3 Fs3 s3 E3 n3;have lena:Γa.length=Γ1.length:=by
      have:=E3.len1
      rw [length_set,yS,E1.len1] at this;exact this.symm
     have n3':∀a∈Fs3.flatten,a∈Fs1.flatten\/H1 a=none:=fun a ha=>(n3 a ha).elim (fun z=>by
      have pm:((Fk.set i []).flatten).Perm Fk.flatten:=by simpa using nX (G:=[]) g.noneF
      exact g.new a (mem_append_right _ (pm.mem_iff.mp z))) fun z=>.inr (g.same.free z)
     cases b with
     | false=>
      dsimp only at eg'
      split at eg'
      case isFalse=>cases eg'
      refine g6 ⟨vs.length-(k+1),by omega,rfl,hlt,Γa.set i none,Fs3.set i [],Gs,acc,⟨E3.forget (by rw [lena];exact hi),g.same.trans s3,s3 _ _ g.at_,fun a ha=>?_,g.l1,g.l2,fun j v d G h1 h2 h3=>(g.own j v d G h1 h2 h3).mono s3 fun a ha=>?_,getElem?_set_self (by rw [lena];exact hi),getElem?_set_self (by rw [E3.len2,lena];exact hi),by rw [length_set];exact lena⟩,eg'⟩
      ·rcases List.mem_append.mp ha with z | z
       ·exact g.new a (mem_append_left _ z)
       ·obtain ⟨F3,hF3⟩:=E3.lt (i:=i) (by rw [lena];exact hi)
        have pm:(F3++(Fs3.set i []).flatten).Perm Fs3.flatten:=by simpa using nX (G:=[]) hF3
        exact n3' a (pm.mem_iff.mp (mem_append_right _ z))
      ·rcases List.mem_append.mp ha with z | z
       ·exact .inl (mem_append_left _ z)
       ·obtain ⟨F3,hF3⟩:=E3.lt (i:=i) (by rw [lena];exact hi)
        have pm:(F3++(Fs3.set i []).flatten).Perm Fs3.flatten:=by simpa using nX (G:=[]) hF3
        have pm2:((Fk.set i []).flatten).Perm Fk.flatten:=by simpa using nX (G:=[]) g.noneF
        exact (n3 a (pm.mem_iff.mp (mem_append_right _ z))).elim (fun y=>.inl (mem_append_right _ (pm2.mem_iff.mp y))) .inr
     | true=>
      refine g5 ⟨He,_,_,_,E3,?_⟩
      dsimp only at eg'
      cases ee:fe Γa with
      | no=>rw [ee] at eg';cases eg'
      | er c Γ'=>rw [ee] at eg';cases eg'
      | ok p Γb=>
       rw [ee] at eg';dsimp only at eg'
       split at eg'
       case isFalse=>cases eg'
       rename_i hco;simp only [Bool.and_eq_true,decide_eq_true_eq] at hco
       obtain ⟨hco,_⟩:=hco;intro u H4 G Fs4 A4;have lenb:Γb.length=Γ1.length:=by
        have:=A4.env.len1
        rw [length_set,yS,E1.len1] at this;exact this.symm
       have hib:i<Γb.length:=by rw [lenb];exact hi
       have at4:H4 A0=some (.lst ys):=A4.same _ _ (s3 _ _ g.at_)
       have s14:Same H1 H4:=(g.same.trans s3).trans A4.same
       have pmk:((Fk.set i []).flatten).Perm Fk.flatten:=by simpa using nX (G:=[]) g.noneF
       obtain ⟨F4,hF4⟩:=A4.env.lt hib;have pm4:(F4++(Fs4.set i []).flatten).Perm Fs4.flatten:=by simpa using nX (G:=[]) hF4
       have new4:∀a∈G++Fs4.flatten,a∈Fs1.flatten\/H1 a=none:=fun a ha=>(A4.new a ha).elim (n3' a) fun z=>.inr ((g.same.trans s3).free z)
       have hG':∀a∈aV s G,a∈G:=fun a ha=>Hq ha
       obtain ⟨k1,k2,k3⟩:=List.nodup_append.mp A4.env.ndO;have ndk:(aV s G).Nodup:=by
        cases s<;>first | exact nodup_nil | exact k1
       have pmO:(A0::(Gs++[aV s G]).flatten++(F++O)).Perm (aV s G++(A0::Gs.flatten++(F++O))):=by
        rw [wq];show (A0::((Gs.flatten++aV s G)++(F++O))).Perm _
        refine List.Perm.trans ?_ List.perm_middle.symm
        refine List.Perm.cons _ ?_
        rw [append_assoc];exact mw _ _ _
       have E5:EnvOk K He (aV s G++(A0::Gs.flatten++(F++O))) Fs4 H4 ((bo [i] σ).set i (some x)) Γb:=A4.env.drop (fun a ha=>by
        rcases List.mem_append.mp ha with z | z
        ·exact mem_append_left _ (hG' a z)
        ·exact mem_append_right _ z) (List.nodup_append.mpr ⟨ndk,k2,fun a ha b hb=>k3 a (hG' a ha) b hb⟩)
       have E6:=(E5.perm pmO).forget hib
       have hDin:A0∈A0::(Gs++[aV s G]).flatten++(F++O):=mem_cons_self
       have E7:=E6.mutO (o:=.lst (ys++[u])) hDin at4 hHeD
       have subH:∀a∈A0::(Gs++[aV s G]).flatten++(F++O)++(Fs4.set i []).flatten,a∈G++(A0::Gs.flatten++(F++O))++Fs4.flatten:=fun a ha=>by
        rcases List.mem_append.mp ha with z | z
        ·rcases List.mem_append.mp (pmO.mem_iff.mp z) with y | y
         ·exact mem_append_left _ (mem_append_left _ (hG' a y))
         ·exact mem_append_left _ (mem_append_right _ y)
        ·exact mem_append_right _ (pm4.mem_iff.mp (mem_append_right _ z))
       have Dnot:∀{j:Nat} {Gj:List Addr},Gs[j]?=some Gj->A0∉Gj:=fun {j Gj} hj z=>by
        have nd:=g.env.ndO
        exact (List.nodup_cons.mp nd).1 (mem_append_left _ (nS hj z))
       refine ⟨at4,vs.length-(k+1),by omega,rfl,hlt,Γb.set i none,Fs4.set i [],Gs++[aV s G],acc++[p.d],⟨E7,fun b o hb=>?_,dI,fun a ha=>?_,by simp [g.l1],by simp [g.l2],fun j w d' G' h1 h2 h3=>?_,getElem?_set_self hib,getElem?_set_self (by rw [A4.env.len2];exact hib),by rw [length_set];exact lenb⟩,eg'⟩
       ·rw [cS (kj hb hD)]
        exact s14 b o hb
       ·rcases List.mem_append.mp ha with z | z
        ·rw [wq] at z
         rcases List.mem_append.mp z with z | z
         ·exact g.new a (mem_append_left _ z)
         ·exact new4 a (mem_append_left _ (hG' a z))
        ·exact new4 a (mem_append_right _ (pm4.mem_iff.mp (mem_append_right _ z)))
       ·by_cases hj:j<ys.length
        ·rw [getElem?_append_left hj] at h1
         rw [getElem?_append_left (by rw [<-g.l1];exact hj)] at h2
         rw [getElem?_append_left (by rw [g.l2,<-g.l1];exact hj)] at h3
         have o1:=g.own j w d' G' h1 h2 h3
         have o2:=o1.mono (O':=A0::(Gs++[aV s G]).flatten++(F++O)++(Fs4.set i []).flatten) (s3.trans A4.same) fun a ha=>by
          have up:a∈G++Fs4.flatten->a∈A0::Gs.flatten++(F++O)++Fk.flatten\/Hx a=none:=fun z=>(A4.new a z).elim (fun y=>(n3 a y).elim (fun y=>.inl (mem_append_right _ (pmk.mem_iff.mp y))) .inr) fun y=>.inr (s3.free y)
          rcases List.mem_append.mp (subH a ha) with z | z
          ·rcases List.mem_append.mp z with z | z
           ·exact up (mem_append_left _ z)
           ·exact .inl (mem_append_left _ z)
          ·exact up (mem_append_right _ z)
         exact o2.mut hsv (mem_append_left _ hDin) (Dnot h3) at4
        ·have hj':j=ys.length:=by
          have:=(List.getElem?_eq_some_iff.mp h1).1
          rw [length_append,length_singleton] at this;omega
         subst hj'
         rw [getElem?_append_right (Nat.le_refl _),Nat.sub_self] at h1;rw [getElem?_append_right (by rw [g.l1];exact Nat.le_refl _),show ys.length-acc.length=0 by rw [g.l1];exact Nat.sub_self _] at h2
         rw [getElem?_append_right (by rw [g.l2,g.l1];exact Nat.le_refl _),show ys.length-Gs.length=0 by rw [g.l2,g.l1];exact Nat.sub_self _] at h3
         cases h1
         cases h2
         cases h3;have o3:=A4.own.coer (s:=s) (O':=A0::(Gs++[aV s G]).flatten++(F++O)++(Fs4.set i []).flatten) hco subH fun a ha hO=>by
          cases s with
          | leaf=>
           exfalso
           have hO':a∈(A0::Gs.flatten++(F++O))++(Fs4.set i []).flatten:=by
            rw [wq] at hO;simpa [aV] using hO
           rcases List.mem_append.mp hO' with z | z
           ·exact k3 a ha a z rfl
           ·have nd:=A4.env.nd
            exact (List.nodup_append.mp nd).2.2 a (mem_append_left _ ha) a (pm4.mem_iff.mp (mem_append_right _ z)) rfl
          | view=>cases hsv
          | lst s=>exact ha
          | tup ss=>exact ha
         refine o3.mut hsv (mem_append_left _ hDin) (fun z=>?_) at4
         exact k3 A0 (hG' A0 z) A0 mem_cons_self rfl
end
inductive fJ where
 | nx (e:Ev) | bk (e:Ev) | ct (e:Ev) | rt (p:PV) | er (c:Str) (e:Ev) | no
abbrev FS:=Ev->fJ
structure RetOk (K:Fg) (He:Hp) (O:List Addr) (p:PV) (v:V) (H':Hp) (G:List Addr):Prop where
 same:Same He H'
 fresh:∀a∈G,He a=none
 inH:∀a∈G,H' a≠none
 nd:G.Nodup
 own:Own K (G++O) H' p.s G v p.d
 nv:p.s.isView=false
def o6 (K:Fg) (W:XW) (He:Hp) (O:List Addr) (D:fL):fJ->Prop
 | .nx Γ'=>∀σ' H' Fs',EnvOk K He O Fs' H' σ' Γ'->D.nx σ' H'
 | .bk Γ'=>∀σ' H' Fs',EnvOk K He O Fs' H' σ' Γ'->D.bk σ' H'
 | .ct Γ'=>∀σ' H' Fs',EnvOk K He O Fs' H' σ' Γ'->D.ct σ' H'
 | .rt p=>∀v H' G,RetOk K He O p v H' G->D.rt v H'
 | .er c Γ'=>∀σ' H' Fs',EnvOk K He O Fs' H' σ' Γ'->W c σ' H'
 | .no=>False
def tS (K:Fg) (W:XW) (g:FS):TS:=fun D σ H=>∃He O Fs Γ,EnvOk K He O Fs H σ Γ/\o6 K W He O D (g Γ)
def aS:FS:=fun Γ=>.nx Γ
def aw (g1 g2:FS):FS:=fun Γ=>match g1 Γ with
 | .nx Γ'=>g2 Γ'
 | o=>o
def gX (f:F1) (k:PV->Ev->fJ):FS:=fun Γ=>match f Γ with
 | .ok p Γ'=>k p Γ'
 | .er c Γ'=>.er c Γ'
 | .no=>.no
def cF (c:FB) (a b:FS):FS:=fun Γ=>match c Γ with
 | .ok t Γ'=>if t then a Γ' else b Γ'
 | .er c Γ'=>.er c Γ'
 | .no=>.no
section
variable {K:Fg} {W:XW} {σ:St} {H:Hp} {D:fL} {fa fb:F1} {ga gb:FB} {g1 g2:FS}
theorem wY (h:tS K W aS D σ H):pq D σ H:=by
 obtain ⟨He,O,Fs,Γ,E,h⟩:=h;exact h σ H Fs E
theorem Au (h:tS K W (aw g1 g2) D σ H):fF (tS K W g1) (tS K W g2) D σ H:=by
 obtain ⟨He,O,Fs,Γ,E,h⟩:=h;refine ⟨He,O,Fs,Γ,E,?_⟩
 unfold aw at h
 cases e:g1 Γ with
 | nx Γ'=>rw [e] at h;exact fun σ' H' Fs' E'=>⟨He,O,Fs',Γ',E',h⟩
 | bk Γ'=>rw [e] at h;exact h
 | ct Γ'=>rw [e] at h;exact h
 | rt p=>rw [e] at h;exact h
 | er c Γ'=>rw [e] at h;exact h
 | no=>rw [e] at h;exact h
theorem gE {k:PV->Ev->fJ} {R:VK} (h:tS K W (gX fa k) D σ H)
  (hk:∀He O Fs Γ1 p v H1 G Fs1,EnvOk K He O Fs H σ Γ1\/True->(∀a∈G,He a=none)->Aft K He O Fs H σ Γ1 p v H1 G Fs1->o6 K W He O D (k p Γ1)->R v H1):tE K W fa σ H R:=by
 obtain ⟨He,O,Fs,Γ,E,h⟩:=h;refine ⟨He,O,Fs,Γ,E,?_⟩
 unfold gX at h
 cases e:fa Γ with
 | ok p Γ1=>rw [e] at h;exact fun v H' G Fs' A=>hk He O Fs Γ1 p v H' G Fs' (.inr trivial) (A.freshG E) A h
 | er c Γ1=>rw [e] at h;exact fun H' Fs' s E'=>h σ H' Fs' E'
 | no=>rw [e] at h;exact h
theorem Az (h:tS K W (cF ga g1 g2) D σ H):wB (tT K W ga) (tS K W g1) (tS K W g2) D σ H:=by
 obtain ⟨He,O,Fs,Γ,E,h⟩:=h;refine ⟨He,O,Fs,Γ,E,?_⟩
 unfold cF at h
 cases e:ga Γ with
 | ok b Γ1=>
  rw [e] at h;intro H' Fs' s E' n
  cases b with
  | true=>exact g5 ⟨He,O,Fs',Γ1,E',h⟩
  | false=>exact g6 ⟨He,O,Fs',Γ1,E',h⟩
 | er c Γ1=>rw [e] at h;exact fun H' Fs' s E'=>h σ H' Fs' E'
 | no=>rw [e] at h;exact h
def aP (f:F1):FS:=gX f fun p _=>if p.s.isView then (if bJ p.d then .rt ⟨.leaf,p.d⟩ else .no) else .rt p
theorem Aw (h:tS K W (aP fa) D σ H):tj (tE K W fa) D σ H:=by
 refine gE h fun He O Fs Γ1 p v H1 G Fs1 _ fr A w=>?_
 obtain ⟨n1,n2,n3⟩:=List.nodup_append.mp A.env.ndO;have inH:∀a∈G,H1 a≠none:=fun a ha=>A.env.inH a (mem_append_left _ (mem_append_left _ ha))
 cases hv:p.s.isView with
 | false=>
  have w:o6 K W He O D (.rt p):=by simpa [hv] using w
  exact w v H1 G ⟨A.env.same,fr,inH,n1,A.own.perm fun a ha=>mem_append_left _ ha,hv⟩
 | true=>
  cases hs:bJ p.d with
  | false=>rw [hv,hs] at w;exact w.elim
  | true=>
   have w:o6 K W He O D (.rt ⟨.leaf,p.d⟩):=by simpa [hv,hs] using w
   exact w v H1 [] ⟨A.env.same,(fun _ z=>nomatch z),(fun _ z=>nomatch z),nodup_nil,.leaf (A.own.rep.sc hs).rep,rfl⟩
def aD (own:Bool) (i:Nat) (f:F1):FS:=gX f fun p Γ=>if i<Γ.length then (if own&&!p.s.isView then .nx (Γ.set i (some p)) else if T.coer .leaf p then .nx (Γ.set i (some ⟨.leaf,p.d⟩)) else .no) else .no
theorem Gn {own:Bool} {i:Nat} (h:tS K W (aD own i fa) D σ H):fQ (tE K W fa) (bQ i) D σ H:=by
 refine gE h fun He O Fs Γ1 p v H1 G Fs1 _ fr A w=>?_
 show D.nx (σ.set i (some v)) H1
 have w:o6 K W He O D (if i<Γ1.length then (if own&&!p.s.isView then .nx (Γ1.set i (some p)) else if T.coer .leaf p then .nx (Γ1.set i (some ⟨.leaf,p.d⟩)) else .no) else .no):=w
 by_cases hi:i<Γ1.length
 case neg=>rw [if_neg hi] at w;exact w.elim
 rw [if_pos hi] at w
 cases ho:(own&&!p.s.isView) with
 | true=>
  rw [ho] at w;have hv:p.s.isView=false:=by
   simp only [Bool.and_eq_true,Bool.not_eq_true'] at ho
   exact ho.2
  exact w _ H1 _ (EnvOk.put A.env A.own hv fr hi)
 | false=>
  rw [ho] at w
  cases hc:T.coer .leaf p with
  | false=>rw [hc] at w;exact w.elim
  | true=>
   rw [hc] at w;have o:=A.own.coer (s:=.leaf) (O':=O++Fs1.flatten) hc lS fun a ha z=>absurd z (A.disj a ha)
   exact w _ H1 _ (EnvOk.put (G:=[]) (p:=⟨.leaf,p.d⟩) (v:=v) A.go o rfl (fun a ha=>by simp at ha) hi)
def bw (f:F1):FS:=gX f fun _ Γ=>.nx Γ
theorem xc (h:tS K W (bw fa) D σ H):jI (tE K W fa) D σ H:=
 gE h fun He O Fs Γ1 p v H1 G Fs1 _ fr A w=>w σ H1 Fs1 A.go
theorem yN {α:Type} {l:List α} {i:Nat} {x:α} (h:l[i]?=some x):l.set i x=l:=by
 apply ext_getElem?
 intro j;by_cases hj:j=i
 ·subst hj
  rw [getElem?_set_self (List.getElem?_eq_some_iff.mp h).1,h]
 ·rw [getElem?_set_ne (Ne.symm hj)]
def yw (i:Nat) (p:PV) (Γ:Ev):fJ:=match Γ[i]? with
 | some (some ⟨.lst s,.list ds⟩)=>if T.coer s p&&decide (ds.length<sizeLine) then .nx (Γ.set i (some ⟨.lst s,.list (ds++[p.d])⟩)) else .no
 | _=>.no
def Cm:Option (Option PV)->Bool
 | some (some ⟨.lst _,.list _⟩)=>true
 | _=>false
def eV (i:Nat) (f:F1):FS:=fun Γ=>if Cm Γ[i]? then gX f (yw i) Γ else .no
theorem yv {He H:Hp} {O G:List Addr} {Fs:List (List Addr)} {Γ:Ev} {i:Nat} {s:Sh} {ds:List PySem.PyData} {p:PV} {v:V} (E:EnvOk K He (G++O) Fs H σ Γ) (o:Own K (G++O++Fs.flatten) H p.s G v p.d) (fr:∀a∈G,He a=none)
  (h:Γ[i]?=some (some ⟨.lst s,.list ds⟩)) (hc:T.coer s p=true) :
  ∃l vs,σ[i]?=some (some (.ref l))/\H l=some (.lst vs)/\vs.length=ds.length/\∃Fs',EnvOk K He O Fs' (bA H l (.lst (vs++[v]))) σ (Γ.set i (some ⟨.lst s,.list (ds++[p.d])⟩)):=by
 obtain ⟨hv,u,F,h1,E1,o1,sub⟩:=E.move h;have hi:i<Γ.length:=(List.getElem?_eq_some_iff.mp h).1
 cases o1 with
 | @lst _ l vs _ Fs0 hsv hp hl hf nd q=>
  refine ⟨l,vs,h1,hp,hl,Fs.set i (l::(Fs0++[aV s G]).flatten),?_⟩
  have hlF:l∈Fs.flatten:=sub l (mem_append_left _ mem_cons_self)
  have hHe:He l=none:=E.fresh l hlF
  have hG':∀a∈aV s G,a∈G:=fun a ha=>Hq ha
  obtain ⟨k1,k2,k3⟩:=List.nodup_append.mp E1.ndO;obtain ⟨g1,g2,g3⟩:=List.nodup_append.mp k2;have ndk:(aV s G).Nodup:=by
   cases s<;>first | exact nodup_nil | exact g1
  have pmO:((l::(Fs0++[aV s G]).flatten)++O).Perm ((l::Fs0.flatten)++(aV s G++O)):=by
   rw [wq];show (l::((Fs0.flatten++aV s G)++O)).Perm (l::(Fs0.flatten++(aV s G++O)))
   rw [append_assoc]
  have E2:EnvOk K He ((l::Fs0.flatten)++(aV s G++O)) (Fs.set i []) H σ (Γ.set i none):=E1.drop (fun a ha=>by
   rcases List.mem_append.mp ha with z | z
   ·exact mem_append_left _ z
   ·refine mem_append_right _ ?_
    rcases List.mem_append.mp z with z | z
    ·exact mem_append_left _ (hG' a z)
    ·exact mem_append_right _ z) (List.nodup_append.mpr ⟨k1,List.nodup_append.mpr ⟨ndk,g2,fun a ha b hb=>g3 a (hG' a ha) b hb⟩,fun a ha b hb=>k3 a ha b (by
     rcases List.mem_append.mp hb with z | z
     ·exact mem_append_left _ (hG' b z)
     ·exact mem_append_right _ z)⟩)
  have E3:=E2.perm pmO
  have hlin:l∈(l::(Fs0++[aV s G]).flatten)++O:=mem_cons_self
  have E4:=E3.mutO (o:=.lst (vs++[v])) hlin hp hHe
  have lnG:l∉G:=fun z=>k3 l mem_cons_self l (mem_append_left _ z) rfl
  have subH:∀a∈(l::(Fs0++[aV s G]).flatten)++O++(Fs.set i []).flatten,a∈(l::Fs0.flatten)++(G++O)++(Fs.set i []).flatten:=fun a ha=>by
   rcases List.mem_append.mp ha with z | z
   ·refine mem_append_left _ ?_
    rcases List.mem_append.mp (pmO.mem_iff.mp z) with y | y
    ·exact mem_append_left _ y
    ·refine mem_append_right _ ?_
     rcases List.mem_append.mp y with y | y
     ·exact mem_append_left _ (hG' a y)
     ·exact mem_append_right _ y
   ·exact mem_append_right _ z
  have ownL:Own K ((l::(Fs0++[aV s G]).flatten)++O++(Fs.set i []).flatten) (bA H l (.lst (vs++[v]))) (.lst s) (l::(Fs0++[aV s G]).flatten) (.ref l) (.list (ds++[p.d])):=by
   refine .lst hsv dI (by simp [hl]) (by simp [hf]) ?_ fun j w d' G' e1 e2 e3=>?_
   ·have nd2:=E3.ndO
    exact (List.nodup_append.mp nd2).1
   ·by_cases hj:j<vs.length
    ·rw [getElem?_append_left hj] at e1
     rw [getElem?_append_left (by omega)] at e2
     rw [getElem?_append_left (by omega)] at e3
     exact ((q j w d' G' e1 e2 e3).perm subH).mut hsv (mem_append_left _ hlin) (fun z=>(List.nodup_cons.mp nd).1 (nS e3 z)) hp
    ·have hj':j=vs.length:=by
      have:=(List.getElem?_eq_some_iff.mp e1).1
      rw [length_append,length_singleton] at this;omega
     subst hj'
     rw [getElem?_append_right (Nat.le_refl _),Nat.sub_self] at e1;rw [getElem?_append_right (by omega),show vs.length-ds.length=0 by omega] at e2
     rw [getElem?_append_right (by omega),show vs.length-Fs0.length=0 by omega] at e3
     cases e1
     cases e2
     cases e3;have osub:∀a∈(l::(Fs0++[aV s G]).flatten)++O++(Fs.set i []).flatten,a∈G++O++Fs.flatten:=fun a ha=>by
      rcases List.mem_append.mp (subH a ha) with z | z
      ·rcases List.mem_append.mp z with z | z
       ·exact mem_append_right _ (sub a (mem_append_left _ z))
       ·exact mem_append_left _ z
      ·exact mem_append_right _ (sub a (mem_append_right _ z))
     have o3:=o.coer (s:=s) hc osub fun a ha hO=>by
      cases s with
      | leaf=>
       exfalso
       rw [wq] at hO;have hO':a∈(l::Fs0.flatten)++O++(Fs.set i []).flatten:=by simpa [aV] using hO
       have ndE:=E.nd
       rw [append_assoc] at ndE;have dis:=(List.nodup_append.mp ndE).2.2
       rcases List.mem_append.mp hO' with z | z
       ·rcases List.mem_append.mp z with z | z
        ·exact dis a ha a (mem_append_right _ (sub a (mem_append_left _ z))) rfl
        ·exact dis a ha a (mem_append_left _ z) rfl
       ·exact dis a ha a (mem_append_right _ (sub a (mem_append_right _ z))) rfl
      | view=>cases hsv
      | lst s=>exact ha
      | tup ss=>exact ha
     exact o3.mut hsv (mem_append_left _ hlin) (fun z=>lnG (hG' l z)) hp
  have fin:=EnvOk.put (i:=i) (p:=⟨.lst s,.list (ds++[p.d])⟩) (v:=.ref l) E4 ownL rfl (fun a ha=>?_) (by rw [length_set];exact hi)
  ·rw [set_set,set_set,yN h1] at fin
   exact fin
  ·rcases List.mem_cons.mp ha with z | z
   ·rw [z];exact hHe
   ·rw [wq] at z
    rcases List.mem_append.mp z with z | z
    ·exact E.fresh a (sub a (mem_append_left _ (mem_cons_of_mem _ z)))
    ·exact fr a (hG' a z)
theorem Eo {QL:List V->Hp->Prop} (h1:tE K W fa σ H fun v H'=>QL [v] H'):tA K W (ah fa ai) σ H QL:=by
 obtain ⟨He,O,Fs,Γ,E,h1⟩:=h1;refine ⟨He,O,Fs,Γ,E,?_⟩
 unfold ah ai
 cases e:fa Γ with
 | ok p Γ'=>
  rw [e] at h1;intro vs H' Gs Fs' A
  match vs,Gs,A.len1,A.len2 with
  | [v],[G],_,_=>exact h1 v H' G Fs' ⟨A.same,by simpa using A.env,by simpa using A.new,by simpa using A.own 0 v p G rfl rfl rfl⟩
 | er c Γ'=>rw [e] at h1;exact h1
 | no=>rw [e] at h1;exact h1
theorem rz {o:Option (Option PV)} (h:Cm o=true):∃s ds,o=some (some ⟨.lst s,.list ds⟩):=by
 unfold Cm at h;split at h
 ·exact ⟨_,_,rfl⟩
 ·cases h
theorem EnvOk.ownL {He H:Hp} {O:List Addr} {Fs:List (List Addr)} {Γ:Ev} {i:Nat} {s:Sh} {ds:List PySem.PyData} (E:EnvOk K He O Fs H σ Γ) (h:Γ[i]?=some (some ⟨.lst s,.list ds⟩)):∃l vs,σ[i]?=some (some (.ref l))/\H l=some (.lst vs)/\vs.length=ds.length:=by
 obtain ⟨hv,v,F,h1,h2,h3⟩:=E.slot i _ h
 cases h3 with
 | @lst _ l vs _ Fs0 hsv hp hl hf nd q=>exact ⟨l,vs,h1,hp,hl⟩
theorem qH {i:Nat} (h:tS K W (eV i fa) D σ H):jI (Ab K "list" Ew (br i) (tA K W (ah fa ai))) D σ H:=by
 obtain ⟨He,O,Fs,Γ,E,h⟩:=h;unfold eV at h
 cases ho:Cm Γ[i]? with
 | false=>rw [ho] at h;exact h.elim
 | true=>
  rw [ho] at h;obtain ⟨s,ds,e0⟩:=rz ho;obtain ⟨l,vs,h1,h2,h3⟩:=E.ownL e0;refine ⟨.ref l,h1,.inl ⟨rfl,vs,.of h2⟩,Eo (gE (D:=D) ⟨He,O,Fs,Γ,E,h⟩ fun He O Fs Γ1 p v H1 G Fs1 _ fr A w=>?_)⟩
  unfold yw at w;split at w
  ·rename_i s1 ds1 e1
   cases hc:(T.coer s1 p&&decide (ds1.length<sizeLine)) with
   | false=>rw [hc] at w;exact w.elim
   | true=>
    rw [hc] at w;simp only [Bool.and_eq_true,decide_eq_true_eq] at hc
    obtain ⟨l1,vs1,q1,q2,q3,Fs',E'⟩:=yv A.env A.own fr e1 hc.1;rw [h1] at q1
    cases q1;exact ⟨l,vs1,v,rfl,rfl,q2,by rw [q3];exact hc.2,w σ _ Fs' E'⟩
  ·exact w.elim
def b9 (i:Nat) (body:FS):List PySem.PyData->Ev->fJ
 | [],Γ=>.nx Γ
 | d::r,Γ=>if i<Γ.length then (match body (Γ.set i (some ⟨.leaf,d⟩)) with
  | .nx Γ'=>b9 i body r Γ'
  | .ct Γ'=>b9 i body r Γ'
  | .bk Γ'=>.nx Γ'
  | .rt p=>.rt p
  | .er c Γ'=>.er c Γ'
  | .no=>.no) else .no
def dz (i:Nat) (fi:FI) (body:FS):FS:=fun Γ=>match fi Γ with
 | .ok t Γ1=>if t.st then b9 i body t.ds Γ1 else .no
 | .er c Γ1=>.er c Γ1
 | .no=>.no
theorem EnvOk.rebase {He H:Hp} {O:List Addr} {Fs:List (List Addr)} {Γ:Ev} (E:EnvOk K He O Fs H σ Γ):EnvOk K (bY H Fs.flatten) O Fs H σ Γ/\Same He (bY H Fs.flatten):=
 ⟨⟨E.len1,E.len2,hid_le,E.nd,E.inH,fun a ha=>by unfold bY;rw [if_pos ha],E.slot⟩,fun b o e=>vN (E.same b o e) fun z=>by have:=E.fresh b z;rw [e] at this;cases this⟩
theorem EnvOk.unbase {He He' H:Hp} {O:List Addr} {Fs:List (List Addr)} {Γ:Ev} (E:EnvOk K He' O Fs H σ Γ) (s:Same He He'):EnvOk K He O Fs H σ Γ:=
 ⟨E.len1,E.len2,s.trans E.same,E.nd,E.inH,fun a ha=>s.free (E.fresh a ha),E.slot⟩
theorem RetOk.unbase {He He' H:Hp} {O G:List Addr} {p:PV} {v:V} (r:RetOk K He' O p v H G) (s:Same He He'):RetOk K He O p v H G:=
 ⟨s.trans r.same,fun a ha=>s.free (r.fresh a ha),r.inH,r.nd,r.own,r.nv⟩
theorem AD {i:Nat} {fi:FI} {body:FS} (h:tS K W (dz i fi body) D σ H):wC (tI K W fi) (bQ i) (tS K W body) D σ H:=by
 obtain ⟨He,O,Fs,Γ,E,h⟩:=h;refine ⟨He,O,Fs,Γ,E,?_⟩
 unfold dz at h
 cases e:fi Γ with
 | er c Γ1=>rw [e] at h;exact fun H' Fs' s E'=>h σ H' Fs' E'
 | no=>rw [e] at h;exact h
 | ok t Γ1=>
  rw [e] at h;intro J H1 Fs1 vs P s1 E1 n1 it hP hP1 hst hr;have h:o6 K W He O D (if t.st then b9 i body t.ds Γ1 else .no):=h
  cases ht:t.st with
  | false=>rw [ht] at h;exact h.elim
  | true=>
   rw [ht] at h;have h:o6 K W He O D (b9 i body t.ds Γ1):=h
   obtain ⟨E1',sHe⟩:=E1.rebase;have hlen:vs.length=t.ds.length:=hr.1
   refine ⟨fun k m σ' H'=>m=vs.length-k/\k<=vs.length/\∃Γk Fk,EnvOk K (bY H1 Fs1.flatten) O Fk H' σ' Γk/\o6 K W He O D (b9 i body (t.ds.drop k) Γk),⟨vs.length,by simp,Nat.zero_le _,Γ1,Fs1,E1',by simpa using h⟩,?_⟩
   rintro k m σ' H' ⟨rfl,hk,Γk,Fk,Ek,hw⟩
   have hPk:P H':=hst ht H' Ek.same
   by_cases hlt:k<vs.length
   case neg=>
    left
    have hke:k=vs.length:=by omega
    have:t.ds.drop k=[]:=drop_eq_nil_of_le (by omega)
    rw [this] at hw;exact ⟨by rw [hke];exact it.stop H' hPk,hw σ' H' Fk (Ek.unbase sHe)⟩
   case pos=>
    right
    have hv:vs[k]?=some vs[k]:=getElem?_eq_getElem hlt
    have hkd:k<t.ds.length:=by omega
    have hd:t.ds[k]?=some t.ds[k]:=getElem?_eq_getElem hkd
    have hdr:t.ds.drop k=t.ds[k]::t.ds.drop (k+1):=drop_eq_getElem_cons hkd
    rw [hdr] at hw;generalize hdk:t.ds[k]=d at hd hw
    generalize hvk:vs[k]=v at hv
    obtain ⟨hgo,hyld⟩:=it.go k H' v hPk hv
    simp only [b9] at hw
    by_cases hi:i<Γk.length
    case neg=>rw [if_neg hi] at hw;exact hw.elim
    rw [if_pos hi] at hw;have rep:Rep K (bY H' (O++Fk.flatten)) v d:=by
     refine (hr.2 k v d hv hd).mono fun b o hb=>?_
     have hb1:bY H1 Fs1.flatten b=some o:=sub_hid b o hb
     have hbO:b∉O:=fun z=>by
      unfold bY at hb;rw [if_pos (mem_append_left _ z)] at hb
      cases hb
     have hbF:b∉Fk.flatten:=fun z=>by
      have:=Ek.fresh b z
      rw [hb1] at this
      cases this
     exact vN (Ek.same b o hb1) fun z=>(List.mem_append.mp z).elim hbO hbF
    have Ep:EnvOk K (bY H1 Fs1.flatten) O (Fk.set i []) H' (σ'.set i (some v)) (Γk.set i (some ⟨.leaf,d⟩)):=
     EnvOk.put (G:=[]) (p:=⟨.leaf,d⟩) (v:=v) Ek (.leaf rep) rfl (fun a ha=>by simp at ha) hi
    refine ⟨hgo,fun σ2 H2=>∃Γk Fk,EnvOk K (bY H1 Fs1.flatten) O Fk H2 σ2 Γk/\o6 K W He O D (b9 i body (t.ds.drop (k+1)) Γk),fun σ2 H2 q=>⟨vs.length-(k+1),by omega,rfl,hlt,q⟩,fun x Hx hx=>?_⟩
    obtain ⟨rfl,rfl⟩:=hyld x Hx hx;show tS K W body _ (σ'.set i (some x)) Hx
    refine ⟨bY H1 Fs1.flatten,O,_,_,Ep,?_⟩
    cases eb:body (Γk.set i (some ⟨.leaf,d⟩)) with
    | nx Γ'=>rw [eb] at hw;exact fun σ2 H2 F2 E2=>⟨Γ',F2,E2,hw⟩
    | ct Γ'=>rw [eb] at hw;exact fun σ2 H2 F2 E2=>⟨Γ',F2,E2,hw⟩
    | bk Γ'=>rw [eb] at hw;exact fun σ2 H2 F2 E2=>hw σ2 H2 F2 (E2.unbase sHe)
    | rt p=>rw [eb] at hw;exact fun u H2 G r=>hw u H2 G (r.unbase sHe)
    | er c Γ'=>rw [eb] at hw;exact fun σ2 H2 F2 E2=>hw σ2 H2 F2 (E2.unbase sHe)
    | no=>rw [eb] at hw;exact hw
end
inductive bN where
 | ok (p:PV) | er (c:Str) | no
def sm (K:Fg) (n:Nat) (den:List PySem.PyData->bN):Sp:=fun vs H Q _=>vs.length=n/\∃O ds,O.Nodup/\(∀a∈O,H a≠none)/\Reps K (bY H O) vs ds/\match den ds with
 | .ok p=>∀v H' G,RetOk K H O p v H' G->Q v H'
 | .er _=>False
 | .no=>False
def aN (n:Nat) (ds:List PySem.PyData):Ev:=ds.map (fun d=>some ⟨.leaf,d⟩)++List.replicate (n-ds.length) none
def aL (n:Nat) (g:FS) (ds:List PySem.PyData):bN:=match g (aN n ds) with
 | .nx _=>.ok ⟨.leaf,.none⟩
 | .rt p=>.ok p
 | .er c _=>.er c
 | _=>.no
section
variable {P:Program} {w:World} {K:Fg} {mg:Str->Option Value} {base:Heap}
theorem jY {N:List Str} {H:Hp} {O:List Addr} {vs:List V} {ds:List PySem.PyData} (hn:vs.length<=N.length) (nd:O.Nodup) (inH:∀a∈O,H a≠none) (rs:Reps K (bY H O) vs ds) :
  EnvOk K H O (List.replicate N.length []) H (L2.start N vs) (aN N.length ds):=by
 have fl:(List.replicate N.length ([]:List Addr)).flatten=[]:=by simp
 have hl:=rs.1
 refine ⟨by simp [L2.start,aN,hl],by simp [aN];omega,Same.refl _,by rw [fl];simpa using nd,by rw [fl];simpa using inH,fun a ha=>by rw [fl] at ha;simp at ha,fun i p hp=>?_⟩
 unfold aN at hp;by_cases hi:i<ds.length
 ·rw [getElem?_append_left (by simpa using hi),getElem?_map,getElem?_eq_getElem hi] at hp
  cases hp;refine ⟨rfl,vs[i]'(by omega),[],?_,?_,?_⟩
  ·unfold L2.start
   rw [getElem?_append_left (by simp;omega),getElem?_map,getElem?_eq_getElem (by omega)]
   rfl
  ·rw [getElem?_replicate,if_pos (by omega)]
  ·refine .leaf ?_
   rw [fl,append_nil];exact rs.2 i _ _ (getElem?_eq_getElem _) (getElem?_eq_getElem hi)
 ·rw [getElem?_append_right (by simpa using hi),getElem?_replicate] at hp
  split at hp<;>cases hp
theorem BU {x qual:Str} {st:Stmt} {f:Addr} {fd:FuncData} {N ps:List Str} {k:Nat} {g:FS} (F:Fun K x qual st f fd) (S:cB N ps (fD st))
  (hb:∀(cdv:Value) (A:Around) (outer:List Env) (s:Shared) (H:Hp) (E:XK),Room k (A.deeper (envOfC qual (fD st) s.heap.objs.size f cdv)) ->
   PSs (nG nP P w K mg base N qual (fD st) f cdv A outer s H E).nox (nV st) (tS K W0 g)):eR P w K mg base nP (k+1) f fd ps (sm K ps.length (aL N.length g)):=by
 have hpl:ps.length<=N.length:=by have:=congrArg List.length S.pre;rw [length_take] at this;omega
 refine F.ok S (fun vs H Q E h=>h.1) (fun cdv A outer s H vs Q E hr h=>⟨_,hb cdv A outer s H E hr,?_⟩)
 obtain ⟨hl,O,ds,nd,inH,rs,w⟩:=h;refine ⟨H,O,List.replicate N.length [],aN N.length ds,jY (by omega) nd inH rs,?_⟩
 unfold aL at w
 cases e:g (aN N.length ds) with
 | nx Γ'=>
  rw [e] at w;exact fun σ' H' Fs' E'=>w .non H' [] ⟨E'.same,(fun _ z=>nomatch z),(fun _ z=>nomatch z),nodup_nil,.leaf .non,rfl⟩
 | rt p=>rw [e] at w;exact w
 | bk Γ'=>rw [e] at w;exact w.elim
 | ct Γ'=>rw [e] at w;exact w.elim
 | er c Γ'=>rw [e] at w;exact w.elim
 | no=>rw [e] at w;exact w.elim
end
def aj (n:Nat) (den:List PySem.PyData->bN) (fl:FL):F1:=fun Γ=>(fl Γ).bind fun ps Γ'=>if ps.length=n then (match den (ps.map (·.d)) with
 | .ok p=>if ps.all (T.coer .leaf) then .ok p Γ' else if bJ p.d then .ok ⟨.leaf,p.d⟩ Γ' else .ok ⟨.view,p.d⟩ Γ'
 | _=>.no) else .no
section
variable {K:Fg} {W:XW} {σ:St} {H:Hp} {Q:VK} {fl:FL}
theorem xg {n:Nat} {den:List PySem.PyData->bN} {E:XK} (h:tE K W (aj n den fl) σ H Q):lQ (sm K n den) [] E (tA K W fl) σ H Q:=by
 obtain ⟨He,O,Fs,Γ,E0,h⟩:=h;refine ⟨He,O,Fs,Γ,E0,?_⟩
 unfold aj at h
 cases e:fl Γ with
 | er c Γ'=>rw [e] at h;exact h
 | no=>rw [e] at h;exact h
 | ok ps Γ1=>
  rw [e] at h;intro vs H1 Gs Fs1 A;have h:Wants K W He O Fs H σ Q (if ps.length=n then (match den (ps.map (·.d)) with | .ok p=>if ps.all (T.coer .leaf) then .ok p Γ1 else if bJ p.d then .ok ⟨.leaf,p.d⟩ Γ1 else .ok ⟨.view,p.d⟩ Γ1 | _=>.no) else .no):=h
  by_cases hn:ps.length=n
  case neg=>rw [if_neg hn] at h;exact h.elim
  rw [if_pos hn] at h;have hl:(vs++[]).length=n:=by rw [append_nil,A.len1];exact hn
  cases ed:den (ps.map (·.d)) with
  | er c=>rw [ed] at h;exact h.elim
  | no=>rw [ed] at h;exact h.elim
  | ok p=>
   rw [ed] at h;have h:Wants K W He O Fs H σ Q (if ps.all (T.coer .leaf) then .ok p Γ1 else if bJ p.d then .ok ⟨.leaf,p.d⟩ Γ1 else .ok ⟨.view,p.d⟩ Γ1):=h
   obtain ⟨n1,n2,n3⟩:=List.nodup_append.mp A.env.nd;obtain ⟨m1,m2,m3⟩:=List.nodup_append.mp n1;have newF:∀a∈Fs1.flatten,a∈Fs.flatten\/H a=none:=fun a ha=>A.new a (mem_append_right _ ha)
   cases hc:ps.all (T.coer .leaf) with
   | true=>
    rw [hc] at h;have h:Wants K W He O Fs H σ Q (.ok p Γ1):=h
    refine ⟨hl,O++Fs1.flatten,ps.map (·.d),A.env.dropL.nd,A.env.dropL.inH,?_,?_⟩
    ·rw [append_nil]
     refine ⟨A.reps.1,fun i v d h1 h2=>?_⟩
     rw [getElem?_map] at h2
     cases e2:ps[i]? with
     | none=>rw [e2] at h2;cases h2
     | some q=>
      rw [e2] at h2
      cases h2;have hi:=(List.getElem?_eq_some_iff.mp e2).1
      have e3:Gs[i]?=some (Gs[i]'(by rw [A.len2];exact hi)):=getElem?_eq_getElem _
      have o:=A.own i v q _ h1 e2 e3
      have o2:=o.coer (s:=.leaf) (O':=O++Fs1.flatten) (List.all_eq_true.mp hc q (mem_of_getElem? e2)) lS fun a ha z=>by
       exfalso
       have hG:=nS e3 ha
       rcases List.mem_append.mp z with y | y
       ·exact m3 a hG a y rfl
       ·exact n3 a (mem_append_left _ hG) a y rfl
      cases o2 with
      | leaf r=>exact r
    ·rw [ed]
     intro v H2 G r;refine h v H2 G Fs1 ⟨A.same.trans r.same,A.env.dropL.hide r.same r.nd r.fresh r.inH,fun a ha=>?_,by rw [append_assoc];exact r.own⟩
     rcases List.mem_append.mp ha with z | z
     ·exact .inr (A.same.free (r.fresh a z))
     ·exact newF a z
   | false=>
    rw [hc] at h;have h:Wants K W He O Fs H σ Q (if bJ p.d then .ok ⟨.leaf,p.d⟩ Γ1 else .ok ⟨.view,p.d⟩ Γ1):=h
    refine ⟨hl,[],ps.map (·.d),nodup_nil,(fun _ z=>nomatch z),by rw [append_nil,GA];exact A.reps,?_⟩
    rw [ed];intro v H2 G r
    cases hs:bJ p.d with
    | true=>
     rw [hs] at h;exact Wants.scal h (r.own.rep.sc hs) (A.same.trans r.same) (A.env.dropL.grow r.same) (fun a ha=>ha) E0.ndO newF
    | false=>
     rw [hs] at h;have h:Wants K W He O Fs H σ Q (.ok ⟨.view,p.d⟩ Γ1):=h
     exact h v H2 [] Fs1 ⟨A.same.trans r.same,by simpa using A.env.dropL.grow r.same,by simpa using newF,.view r.own.rep⟩
end
theorem zx:bootBuiltins "len"=some (.builtin "len"):=by decide +kernel
theorem D5:bootBuiltins "all"=some (.builtin "all"):=by decide +kernel
theorem D4:bootBuiltins "any"=some (.builtin "any"):=by decide +kernel
theorem D2:bootBuiltins "min"=some (.builtin "min"):=by decide +kernel
theorem nJ:bootBuiltins "sorted"=some (.builtin "sorted"):=by decide +kernel
theorem D3:bootBuiltins "int"=some (.type "int"):=by decide +kernel
theorem vw:bootBuiltins "list"=some (.type "list"):=by decide +kernel
section
variable {X:Cx} {W:XW} {a b c e:Expr} {es:List Expr} {pos:Pos} {fa fb fc:F1} {fl:FL} {ga gb:FB} {g1 g2:FS}
theorem B6 {op:CmpOp} {r:R2} {g:PySem.PyData->PySem.PyData->Option PySem.PyData} (ho:OpR X (compareOp op) r) (hg:GOp X.K r g) (ha:PE X a (tE X.K W fa)) (hb:PE X b (tE X.K W fb)) (hm:behindInMarks op b=false:=by with_unfolding_all rfl) :
  PE X (.Compare a [op] [b] pos) (tE X.K W (aE g fa fb)):=bh (xw ho ha hb hm) fun _ _ _=>gF hg
theorem B0 {op:CmpOp} {r:R2} {g:PySem.PyData->PySem.PyData->Option PySem.PyData} (ho:OpR X (compareOp op) r) (hg:GOp X.K r g) (ha:PE X a (tE X.K W fa)) (hb:PE X b (tE X.K W fb)) (hm:behindInMarks op b=false:=by with_unfolding_all rfl) :
  PT X (.Compare a [op] [b] pos) (tT X.K W (aQ ax (aE g fa fb))):=qi (xm ho ha hb hm) fun σ H QB=>pG fun Q=>gF hg
theorem vo {op op':CmpOp} {r r':R2} {g g':PySem.PyData->PySem.PyData->Option PySem.PyData} (ho:OpR X (compareOp op) r) (hg:GOp X.K r g) (ho':OpR X (compareOp op') r') (hg':GOp X.K r' g') (ha:PE X a (tE X.K W fa)) (hb:PE X b (tE X.K W fb)) (hc:PE X c (tE X.K W fc))
  (hm:lastMarks [op,op'] [b,c]=false:=by with_unfolding_all rfl):PE X (.Compare a [op,op'] [b,c] pos) (tE X.K W (sC g g' fa fb fc)):=bh (uB ho ho' ha hb hc hm) fun _ _ _=>mf hg hg'
theorem vh {op op':CmpOp} {r r':R2} {g g':PySem.PyData->PySem.PyData->Option PySem.PyData} (ho:OpR X (compareOp op) r) (hg:GOp X.K r g) (ho':OpR X (compareOp op') r') (hg':GOp X.K r' g') (ha:PE X a (tE X.K W fa)) (hb:PE X b (tE X.K W fb)) (hc:PE X c (tE X.K W fc))
  (hm:lastMarks [op,op'] [b,c]=false:=by with_unfolding_all rfl):PT X (.Compare a [op,op'] [b,c] pos) (tT X.K W (aQ ax (sC g g' fa fb fc))):=qi (uh ho ho' ha hb hc hm) fun σ H QB=>pG fun Q=>mf hg hg'
theorem da_nil:PA X [] (tA X.K W ai):=zB wa fun _ _ _=>Ax
theorem da_cons (ha:PE X e (tE X.K W fa)) (hr:PA X es (tA X.K W fl)) (hs:starEach (e::es) X.env=(false,eval e X.env)::starEach es X.env:=by rfl):PA X (e::es) (tA X.K W (ah fa fl)):=zB (sk ha hr hs) fun _ _ _=>xf
theorem vp {x:Str} {id:String} {r:List V->Hp->VK->Prop} {g:List PySem.PyData->Option PySem.PyData} {p:Pos} (hc:CallR X (.builtin id) r) (hg:GCall X.K r g) (hv:bootBuiltins x=some (.builtin id)) (hm:X.mg x=none) (ha:PA X (e::es) (tA X.K W fl)) (hG:Gl X x:=by rfl)
  (hn:x ≠ "__name__":=by decide) (hdb:(x==("__debug__":Str))=false:=by decide) (he:starEach (e::es) X.env=(false,eval e X.env)::starEach es X.env:=by rfl) (hpl:(backTo pos (starEach es X.env)).any (·.1)=false:=by rfl) :
  PE X (.Call (.Name x p) (e::es) [] pos) (tE X.K W (bM g fl)):=bh (GZ hc hG hm hv ha hn hdb he hpl) fun _ _ _=>tX hg
theorem DW {x:Str} {id:String} {r:List V->Hp->VK->Prop} {g:List PySem.PyData->Option PySem.PyData} {p:Pos} (hc:CallR X (.type id) r) (hg:GCall X.K r g) (hv:bootBuiltins x=some (.type id)) (hm:X.mg x=none) (ha:PA X (e::es) (tA X.K W fl)) (hG:Gl X x:=by rfl)
  (hn:x ≠ "__name__":=by decide) (hdb:(x==("__debug__":Str))=false:=by decide) (he:starEach (e::es) X.env=(false,eval e X.env)::starEach es X.env:=by rfl) (hpl:(backTo pos (starEach es X.env)).any (·.1)=false:=by rfl) :
  PE X (.Call (.Name x p) (e::es) [] pos) (tE X.K W (bM g fl)):=bh (jP hc hG hm hv ha hn hdb he hpl) fun _ _ _=>tX hg
theorem rP {p:Pos} (hm:X.mg "list"=none) (ha:PE X e (tE X.K W fa)) (hG:Gl X "list":=by rfl) (hs:starEach [e] X.env=[(false,eval e X.env)]:=by rfl) :
  PE X (.Call (.Name "list" p) [e] [] pos) (tE X.K W (km fa)):=bh (jP lu hG hm vw (da_cons ha da_nil hs) (by decide) (by decide) hs rfl) fun _ _ _=>qG
theorem yk {f:Addr} {fd:FuncData} {ps:List Str} {k n:Nat} {den:List PySem.PyData->bN} {x:Str} {p:Pos} (F:eR X.prog X.w X.K X.mg X.base nP k f fd ps (sm X.K n den)) (hr:Room k X.A) (hm:X.mg x=some (.ref f)) (hk:PySem.W.keepIn X.K (.ref f)=true)
  (hb:Binds X.K fd ps []) (ha:PA X (e::es) (tA X.K W fl)) (hg:Gl X x:=by rfl) (hdb:(x==("__debug__":Str))=false:=by decide) (he:starEach (e::es) X.env=(false,eval e X.env)::starEach es X.env:=by rfl)
  (hpl:(backTo pos (starEach es X.env)).any (·.1)=false:=by rfl):PE X (.Call (.Name x p) (e::es) [] pos) (tE X.K W (aj n den fl)):=bh (GF F hr hg hm hk hb .nil uD ha hdb he hpl) fun _ _ _=>xg
theorem DV {tg:Expr} {p:Pos} (hm:X.mg "range"=none) (ha:PA X [a] (tA X.K W fl)) (hg:Gl X "range":=by rfl) (hs:starEach [a] X.env=[(false,eval a X.env)]:=by rfl):PI X tg (.Call (.Name "range" p) [a] [] pos) (tI X.K W (gk fl)):=qj (qO hg hm ha hs) fun _ _ _=>AC
theorem DU {tg:Expr} {p:Pos} (hm:X.mg "range"=none) (ha:PA X [a,b] (tA X.K W fl)) (hg:Gl X "range":=by rfl) (hs:starEach [a,b] X.env=[(false,eval a X.env),(false,eval b X.env)]:=by rfl) (hs2:starEach [b] X.env=[(false,eval b X.env)]:=by rfl) :
  PI X tg (.Call (.Name "range" p) [a,b] [] pos) (tI X.K W (xS fl)):=qj (qN hg hm ha hs hs2) fun _ _ _=>AB
def aG:FB:=fun Γ=>.ok true Γ
theorem yj {scope:Scope} {x:Str} {px:Pos} {iter elt:Expr} {ifs:List Expr} {fi:FI} {fe:F1} {fc:FB} (s:Sh) (i:Nat) (S:dB X.N [i] X.env.scope scope) (hN:X.N.Nodup) (hi':PI X (.Name x px) iter (tI X.K W fi))
  (hc:∀cells C s₀ H₀ ex,PF (blk X scope cells C s₀ H₀ ex) ifs (tT X.K W0 fc)) (he:∀cells C s₀ H₀ ex,PE (blk X scope cells C s₀ H₀ ex) elt (tE X.K W0 fe))
  (hcalm:X.calm=true:=by rfl) (hx:X.N[i]?=some x:=by rfl) (hl:∀cells C s₀ H₀ ex,Loc (blk X scope cells C s₀ H₀ ex).env.scope x:=by first | exact fun _ _ _ _ _=>Or.inl rfl | exact fun _ _ _ _ _=>Or.inr rfl)
  (hf:∀cells C s₀ H₀ ex,(blk X scope cells C s₀ H₀ ex).fn x=true\/(blk X scope cells C s₀ H₀ ex).env.scope.names.lookup x=some .local:=by first | exact fun _ _ _ _ _=>Or.inr rfl | exact fun _ _ _ _ _=>Or.inl rfl)
  (hs:∀x,foldedSetIterable iter X.env x=pure x:=by intro _;rfl):PE X (.ListComp elt [⟨.Name x px,iter,ifs,0⟩] scope pos) (tE X.K W (av s i fi fc fe)):=
 bh (GG S hcalm hi' (fun cells C s₀ H₀ ex=>nW (X:=blk X scope cells C s₀ H₀ ex) (i:=i) hN hx (hl cells C s₀ H₀ ex) (hf cells C s₀ H₀ ex)) hc he hs) fun _ _ _=>GL
theorem B1 (own:Bool) (i:Nat) {x:Str} {pos':Pos} (hN:X.N.Nodup) (ha:PE X a (tE X.K W fa)) (hi:X.N[i]?=some x:=by rfl) (hx:Loc X.env.scope x:=by first | exact Or.inl rfl | exact Or.inr rfl) (hs:swapsWith a (some (.Name x pos')) pos.line X.env=pure false:=by rfl)
  (hf:X.fn x=true\/X.env.scope.names.lookup x=some .local:=by first | exact .inl rfl | exact .inr rfl):PS X (.Assign [.Name x pos'] a pos) (tS X.K W (aD own i fa)):=dy (CL hN hi hx ha hs hf) fun _ _ _=>Gn
theorem oM (own:Bool) (j:Nat) {scope:Scope} {x y:Str} {px pos' spos:Pos} {iter elt:Expr} {ifs:List Expr} {fi:FI} {fe:F1} {fc:FB} (s:Sh) (i:Nat) (S:dB X.N [i] X.env.scope scope) (hN:X.N.Nodup) (hi':PI X (.Name x px) iter (tI X.K W fi))
  (hc:∀cells C s₀ H₀ ex,PF (blk X scope cells C s₀ H₀ ex) ifs (tT X.K W0 fc)) (he:∀cells C s₀ H₀ ex,PE (blk X scope cells C s₀ H₀ ex) elt (tE X.K W0 fe))
  (hsw:swapsWith (.ListComp elt [⟨.Name x px,iter,ifs,0⟩] scope pos) (some (.Name y pos')) spos.line X.env=pure true:=by rfl)
  (hy:X.N[j]?=some y:=by rfl) (hly:X.env.scope.names.lookup y=some .local:=by rfl)
  (hcalm:X.calm=true:=by rfl) (hx:X.N[i]?=some x:=by rfl) (hl:∀cells C s₀ H₀ ex,Loc (blk X scope cells C s₀ H₀ ex).env.scope x:=by first | exact fun _ _ _ _ _=>Or.inl rfl | exact fun _ _ _ _ _=>Or.inr rfl)
  (hf:∀cells C s₀ H₀ ex,(blk X scope cells C s₀ H₀ ex).fn x=true\/(blk X scope cells C s₀ H₀ ex).env.scope.names.lookup x=some .local:=by first | exact fun _ _ _ _ _=>Or.inr rfl | exact fun _ _ _ _ _=>Or.inl rfl)
  (hs:∀x,foldedSetIterable iter X.env x=pure x:=by intro _;rfl):PS X (.Assign [.Name y pos'] (.ListComp elt [⟨.Name x px,iter,ifs,0⟩] scope pos) spos) (tS X.K W (aD own j (av s i fi fc fe))):=
 dy (Fd hN hy hly S hcalm hi' (fun cells C s₀ H₀ ex=>nW (X:=blk X scope cells C s₀ H₀ ex) (i:=i) hN hx (hl cells C s₀ H₀ ex) (hf cells C s₀ H₀ ex)) hc he hsw hs) fun D σ H h=>by
  have h2:fQ (tE X.K W (av s i fi fc fe)) (bQ j) D σ H:=Gn h
  exact GL h2
theorem rG (i:Nat) {x:Str} {p apos cpos:Pos} (ha:PE X a (tE X.K W fa)) (hN:X.N[i]?=some x:=by rfl) (hv:Cd X.env.scope x:=by first | exact Or.inl rfl | exact Or.inr (Or.inl rfl) | exact Or.inr (Or.inr rfl)) (hd:(x==("__debug__":Str))=false:=by decide)
  (hcd:(x==("__classdict__":Str))=false:=by decide) (hs:starEach [a] X.env=[(false,eval a X.env)]:=by rfl)
  (hbase:attributeBase (.Name x p) "append" X.env (eval (.Name x p) X.env)=eval (.Name x p) X.env:=by rfl) (hline:(apos.endLine==cpos.line)=true:=by rfl)
  (hfew:((backTo cpos (starEach [a] X.env)).all (fun x=>!x.1)&&(backToKw cpos (keywordEach [] X.env)).all (fun x=>x.1.isSome)
   && decide ([a].length+([]:List Keyword).length+(if ([]:List Keyword).isEmpty then 0 else 1)<30))=true:=by rfl)
  (hsw:swapsWith (.Call (.Attribute (.Name x p) "append" apos) [a] [] cpos) none pos.line X.env=pure false:=by rfl) :
  PS X (.Expr (.Call (.Attribute (.Name x p) "append" apos) [a] [] cpos) pos) (tS X.K W (eV i fa)):=
 dy (Eu (mx PySem.F.plainAttrs_list PySem.F.slot_list_append PySem.F.type_list_append Hr (wb hN hv hd hcd) (da_cons ha da_nil hs) hbase hfew hline hs rfl) hsw) fun _ _ _=>qH
theorem B2 (i:Nat) {x:Str} {px:Pos} {iter:Expr} {body:List Stmt} {fi:FI} {g:FS} (hp:PassesOwn (model X.prog X.w) X.A X.env X.xe) (hN:X.N.Nodup) (hi':PI X (.Name x px) iter (tI X.K W fi)) (hb:PSs X body (tS X.K W g)) (hcalm:X.calm=true:=by rfl)
  (hx:X.N[i]?=some x:=by rfl) (hl:Loc X.env.scope x:=by first | exact Or.inl rfl | exact Or.inr rfl) (hf:X.fn x=true\/X.env.scope.names.lookup x=some .local:=by first | exact .inl rfl | exact .inr rfl)
  (hs:∀x,foldedSetIterable iter X.env x=pure x:=by intro _;rfl):PS X (.For (.Name x px) iter body [] pos) (tS X.K W (dz i fi g)):=
 dy (Gk hp hcalm hi' (nW hN hx hl hf) hb hs) fun _ _ _=>AD
end
structure Cp (X:Cx) (N gl:List Str) (vs cs ls lo gs:List Nat):Prop where
 hN:X.N=N
 nd:N.Nodup
 nm:∀x∈N,(x==("__debug__":Str))=false/\(x==("__classdict__":Str))=false
 ng:∀x∈gl,(x==("__debug__":Str))=false/\x ≠ "__name__"
 vis:∀(i:Nat) x,N[i]?=some x->vs.contains i=true->Cd X.env.scope x
 cel:∀(i:Nat) x,N[i]?=some x->cs.contains i=true->X.env.scope.names.lookup x=some .cell\/X.env.scope.names.lookup x=some .free
 loc:∀(i:Nat) x,N[i]?=some x->ls.contains i=true->Loc X.env.scope x/\(X.fn x=true\/X.env.scope.names.lookup x=some .local)
 loo:∀(i:Nat) x,N[i]?=some x->lo.contains i=true->X.env.scope.names.lookup x=some .local
 glb:∀(j:Nat) x,gl[j]?=some x->gs.contains j=true->Gl X x
 calm:X.calm=true
 kind:X.env.scope.kind=.function
def yH (sc:Scope) (ks:List NameKind) (o:Option Str):Bool:=match o with
 | some x=>(match sc.names.lookup x with
  | some k=>ks.any fun z=>decide (z=k)
  | none=>false)
 | none=>true
def jb (N gl:List Str) (vs cs ls lo gs:List Nat) (sc:Scope):Bool:=
 decide (sc.kind=.function)&&(vs.all fun i=>yH sc [.local,.cell,.free] N[i]?)&&(cs.all fun i=>yH sc [.cell,.free] N[i]?)&&(ls.all fun i=>yH sc [.local,.cell] N[i]?)&&(lo.all fun i=>yH sc [.local] N[i]?)&&(gs.all fun j=>yH sc [.globalImplicit] gl[j]?)
def uO (N gl:List Str):Bool:=decide N.Nodup&&(N.all fun x=>!(x==("__debug__":Str))&&!(x==("__classdict__":Str)))&&(gl.all fun x=>!(x==("__debug__":Str))&&!decide (x = "__name__"))
theorem Cw {sc:Scope} {ks:List NameKind} {x:Str} (h:yH sc ks (some x)=true):∃k∈ks,sc.names.lookup x=some k:=by
 unfold yH at h;simp only at h
 split at h
 ·rename_i k e
  simp only [any_eq_true,decide_eq_true_eq] at h
  obtain ⟨z,hz,rfl⟩:=h;exact ⟨z,hz,e⟩
 ·cases h
theorem CG {P:Nat->Bool} {l:List Nat} {i:Nat} (h:l.all P=true) (hi:l.contains i=true):P i=true:=by
 rw [all_eq_true] at h;exact h i (by simpa using hi)
structure Kq (N gl:List Str) (vs cs ls lo gs:List Nat) (sc:Scope):Prop where
 kind:sc.kind=.function
 vis:∀(i:Nat) x,N[i]?=some x->vs.contains i=true->Cd sc x
 cel:∀(i:Nat) x,N[i]?=some x->cs.contains i=true->sc.names.lookup x=some .cell\/sc.names.lookup x=some .free
 loc:∀(i:Nat) x,N[i]?=some x->ls.contains i=true->Loc sc x
 loo:∀(i:Nat) x,N[i]?=some x->lo.contains i=true->sc.names.lookup x=some .local
 glb:∀(j:Nat) x,gl[j]?=some x->gs.contains j=true->sc.names.lookup x=some .globalImplicit
theorem Gc {N gl:List Str} {vs cs ls lo gs:List Nat} {sc:Scope} (h:jb N gl vs cs ls lo gs sc=true):Kq N gl vs cs ls lo gs sc:=by
 unfold jb at h;simp only [Bool.and_eq_true,decide_eq_true_eq] at h
 obtain ⟨⟨⟨⟨⟨h0,h1⟩,h2⟩,h3⟩,h4⟩,h5⟩:=h;refine ⟨h0,fun i x e hi=>?_,fun i x e hi=>?_,fun i x e hi=>?_,fun i x e hi=>?_,fun i x e hi=>?_⟩
 ·have q:=CG h1 hi
  rw [e] at q;obtain ⟨k,hk,q⟩:=Cw q;simp only [mem_cons,not_mem_nil,or_false] at hk
  rcases hk with rfl | rfl | rfl
  ·exact .inl q
  ·exact .inr (.inl q)
  ·exact .inr (.inr q)
 ·have q:=CG h2 hi
  rw [e] at q;obtain ⟨k,hk,q⟩:=Cw q;simp only [mem_cons,not_mem_nil,or_false] at hk
  rcases hk with rfl | rfl
  ·exact .inl q
  ·exact .inr q
 ·have q:=CG h3 hi
  rw [e] at q;obtain ⟨k,hk,q⟩:=Cw q;simp only [mem_cons,not_mem_nil,or_false] at hk
  rcases hk with rfl | rfl
  ·exact .inl q
  ·exact .inr q
 ·have q:=CG h4 hi
  rw [e] at q;obtain ⟨k,hk,q⟩:=Cw q;simp only [mem_cons,not_mem_nil,or_false] at hk
  rw [hk] at q;exact q
 ·have q:=CG h5 hi
  rw [e] at q;obtain ⟨k,hk,q⟩:=Cw q;simp only [mem_cons,not_mem_nil,or_false] at hk
  rw [hk] at q;exact q
theorem uN {N gl:List Str} (h:uO N gl=true):N.Nodup/\(∀x∈N,(x==("__debug__":Str))=false/\(x==("__classdict__":Str))=false)/\∀x∈gl,(x==("__debug__":Str))=false/\x ≠ "__name__":=by
 unfold uO at h;simp only [Bool.and_eq_true,decide_eq_true_eq,all_eq_true,Bool.not_eq_true',decide_eq_false_iff_not] at h
 exact ⟨h.1.1,h.1.2,h.2⟩
theorem Cp.fn {P:Program} {w:World} {K:Fg} {mg:Str->Option Value} {base:Heap} {N gl:List Str} {vs cs ls lo gs:List Nat} {qual:Str} {sc:Scope} {f:Addr} {cd:Value} {A:Around} {outer:List Env} {s:Shared} {H:Hp} {E:XK}
  (h:jb N gl vs cs ls lo gs sc=true) (h':uO N gl=true):Cp (nG nP P w K mg base N qual sc f cd A outer s H E).nox N gl vs cs ls lo gs:=by
 obtain ⟨a,b,c⟩:=uN h'
 have q:=Gc h
 exact ⟨rfl,a,b,c,q.vis,q.cel,fun i x e hi=>⟨q.loc i x e hi,.inl rfl⟩,q.loo,q.glb,rfl,q.kind⟩
theorem y1 {env:Env} {x:Str} {k:NameKind}:∀{names:List (Str×NameKind)},names.lookup x=some k ->
  (names.map fun (n,k)=>if (k==NameKind.free&&env.scope.kind==.function&&env.kindOf n==some .cell) then (n,NameKind.cell) else (n,k)).lookup x=some k \/
  (k=.free/\(names.map fun (n,k)=>if (k==NameKind.free&&env.scope.kind==.function&&env.kindOf n==some .cell) then (n,NameKind.cell) else (n,k)).lookup x=some .cell)
 | [],h=>by simp at h
 | (n,k')::r,h=>by
  have ih:=@y1 env x k r
  rw [map_cons];show List.lookup x ((if (k'==NameKind.free&&env.scope.kind==.function&&env.kindOf n==some .cell)=true then (n,NameKind.cell) else (n,k'))::_)=_\/_/\List.lookup x ((if (k'==NameKind.free&&env.scope.kind==.function&&env.kindOf n==some .cell)=true then (n,NameKind.cell) else (n,k'))::_)=_
  by_cases hc:(k'==NameKind.free&&env.scope.kind==.function&&env.kindOf n==some .cell)=true
  ·rw [if_pos hc]
   cases hx:x==n with
   | true=>
    simp only [lookup_cons,hx] at h ⊢
    cases h;simp only [Bool.and_eq_true,beq_iff_eq] at hc
    exact .inr ⟨hc.1.1,trivial⟩
   | false=>
    simp only [lookup_cons,hx] at h ⊢
    exact ih h
  ·rw [if_neg hc]
   cases hx:x==n with
   | true=>
    simp only [lookup_cons,hx] at h ⊢
    cases h;exact .inl rfl
   | false=>
    simp only [lookup_cons,hx] at h ⊢
    exact ih h
theorem wc {scope:Scope} {env:Env} {x:Str} {k:NameKind} (h:scope.names.lookup x=some k):(relabel scope env).names.lookup x=some k\/(k=.free/\(relabel scope env).names.lookup x=some .cell):=y1 h
theorem Cp.blk {X:Cx} {N gl:List Str} {vs cs ls lo gs vs' cs' ls' lo' gs':List Nat} {scope:Scope} (S:Cp X N gl vs cs ls lo gs) (h:jb N gl vs' cs' ls' lo' gs' scope=true) (cells C s₀ H₀ ex) :
  Cp (blk X scope cells C s₀ H₀ ex) N gl vs' cs' ls' lo' gs':=by
 have q:=Gc h
 refine ⟨S.hN,S.nd,S.nm,S.ng,fun i x e hi=>?_,fun i x e hi=>?_,fun i x e hi=>?_,fun i x e hi=>?_,fun i x e hi=>?_,S.calm,q.kind⟩
 ·show Cd (relabel scope X.env) x
  rcases q.vis i x e hi with z | z | z
  ·rcases wc (env:=X.env) z with y | ⟨y,_⟩
   ·exact .inl y
   ·cases y
  ·rcases wc (env:=X.env) z with y | ⟨y,_⟩
   ·exact .inr (.inl y)
   ·cases y
  ·rcases wc (env:=X.env) z with y | ⟨_,y⟩
   ·exact .inr (.inr y)
   ·exact .inr (.inl y)
 ·show (relabel scope X.env).names.lookup x=some .cell\/(relabel scope X.env).names.lookup x=some .free
  rcases q.cel i x e hi with z | z
  ·rcases wc (env:=X.env) z with y | ⟨y,_⟩
   ·exact .inl y
   ·cases y
  ·rcases wc (env:=X.env) z with y | ⟨_,y⟩
   ·exact .inr y
   ·exact .inl y
 ·show Loc (relabel scope X.env) x/\((scope.names.any fun y=>y.1==x&&y.2==.cell)=true\/(relabel scope X.env).names.lookup x=some .local)
  rcases q.loc i x e hi with z | z
  ·rcases wc (env:=X.env) z with y | ⟨y,_⟩
   ·exact ⟨.inl y,.inr y⟩
   ·cases y
  ·rcases wc (env:=X.env) z with y | ⟨y,_⟩
   ·refine ⟨.inr y,.inl ?_⟩
    rw [any_eq_true];exact ⟨(x,.cell),iK z,by simp⟩
   ·cases y
 ·show (relabel scope X.env).names.lookup x=some .local
  rcases wc (env:=X.env) (q.loo i x e hi) with y | ⟨y,_⟩
  ·exact y
  ·cases y
 ·show (relabel scope X.env).names.lookup x=some .globalImplicit
  rcases wc (env:=X.env) (q.glb i x e hi) with y | ⟨y,_⟩
  ·exact y
  ·cases y
def i5 (N:List Str) (i:Nat) (cs:List Nat) (sc:Scope):Bool:=
 decide (sc.kind=.function)&&(sc.names.all fun p=>!decide (p.2=.free)||cs.any fun j=>decide (N[j]?=some p.1)) &&
 ((List.range N.length).all fun j=>j==i||(sc.names.all fun p=>!decide (some p.1=N[j]?)||(!decide (p.2=.local)&&!decide (p.2=.cell)))) &&
 (sc.names.all fun p=>!decide (p.2=.local)||decide (sc.names.lookup p.1=some .local)) &&
 (sc.names.all fun p=>!decide (p.2=.free)||sc.names.all fun q=>!decide (q.1=p.1)||!decide (q.2=.cell))
theorem Hk {X:Cx} {N gl:List Str} {vs cs ls lo gs:List Nat} {scope:Scope} {i:Nat} (S:Cp X N gl vs cs ls lo gs) (h:i5 N i cs scope=true):dB X.N [i] X.env.scope scope:=by
 unfold i5 at h;simp only [Bool.and_eq_true,decide_eq_true_eq,all_eq_true,Bool.or_eq_true,Bool.not_eq_true',decide_eq_false_iff_not,any_eq_true,mem_range,beq_iff_eq] at h
 obtain ⟨⟨⟨⟨h0,h1⟩,h2⟩,h3⟩,h4⟩:=h;refine ⟨h0,fun n hn=>?_,fun j x e hj=>?_,fun x hx e=>?_,fun n hn hc=>?_⟩
 ·rcases h1 _ hn with z | ⟨j,hj,e⟩
  ·exact absurd rfl z
  ·exact S.cel j n e (by simpa using hj)
 ·rw [S.hN] at e
  rcases h2 j (List.getElem?_eq_some_iff.mp e).1 with z | z
  ·rw [z];exact List.mem_singleton.mpr rfl
  ·exfalso
   rcases hj with y | y
   ·rcases z _ y with w | w
    ·exact w e.symm
    ·exact w.1 rfl
   ·rcases z _ y with w | w
    ·exact w e.symm
    ·exact w.2 rfl
 ·rcases h3 x hx with z | z
  ·exact absurd e z
  ·exact z
 ·rcases h4 _ hn with z | z
  ·exact z rfl
  ·rcases z _ hc with w | w
   ·exact w rfl
   ·exact w rfl
structure Fx (X Y:Cx):Prop where
 prog:Y.prog=X.prog
 w:Y.w=X.w
 K:Y.K=X.K
 mg:Y.mg=X.mg
 base:Y.base=X.base
 A:Y.A=X.A
def Rm (X:Cx):Prop:=X.A.units+64<cLine
def vY (X:Cx) (x:Str) (n:Nat) (den:List PySem.PyData->bN):Prop:=∃(k:Nat) (f:Addr) (fd:FuncData) (ps:List Str),eR X.prog X.w X.K X.mg X.base nP k f fd ps (sm X.K n den)/\Room k X.A/\X.mg x=some (.ref f)/\PySem.W.keepIn X.K (.ref f)=true/\Binds X.K fd ps []
def Con (X:Cx) (x:Str) (d:PySem.PyData):Prop:=∃u v,X.mg x=some u/\RelV v u/\∀H,Rep X.K H v d
section
variable {X Y:Cx} {x:Str} {m:Nat} {d:PySem.PyData}
theorem Fx.n (F:Fx X Y) (h:X.mg x=none):Y.mg x=none:=by rw [F.mg];exact h
end
section
variable {X:Cx} {N gl:List Str} {vs cs ls lo gs:List Nat} {W:XW} {a b c e:Expr} {es:List Expr} {pos p:Pos} {fa fb fc:F1} {fl:FL} {ga gb:FB} {g1 g2:FS}
theorem cv (S:Cp X N gl vs cs ls lo gs) (i:Nat) {x:Str} (hN:N[i]?=some x) (hv:vs.contains i=true):PE X (.Name x pos) (tE X.K W (ae i)):=by
 have m:=S.nm x (mem_of_getElem? hN)
 exact B5 (wb (by rw [S.hN];exact hN) (S.vis i x hN hv) m.1 m.2)
theorem cm (S:Cp X N gl vs cs ls lo gs) (i:Nat) {x:Str} (hN:N[i]?=some x) (hv:vs.contains i=true):PE X (.Name x pos) (tE X.K W (cz i)):=by
 have m:=S.nm x (mem_of_getElem? hN)
 exact yh (wb (by rw [S.hN];exact hN) (S.vis i x hN hv) m.1 m.2)
theorem Cp.g (S:Cp X N gl vs cs ls lo gs) {j:Nat} {x:Str} (hj:gl[j]?=some x) (hg:gs.contains j=true):Gl X x/\(x==("__debug__":Str))=false/\x ≠ "__name__":=
 ⟨S.glb j x hj hg,S.ng x (mem_of_getElem? hj)⟩
def Dn:R2:=fun x y H Q=>pJ (fun i j=>.bl (decide (i<j))) x y H Q\/∃i j,x=.str i/\y=.str j/\Q (.bl (decide (i.cps.toList<j.cps.toList))) H
theorem Dz:OpR X (compareOp .Lt) Dn:=op_lt.or qS
def BR:PySem.PyData->PySem.PyData->Option PySem.PyData
 | .str i,.str j=>some (.bool (!decide (i.cps.toList<j.cps.toList)))
 | _,_=>none
abbrev oH:PySem.PyData->PySem.PyData->Option PySem.PyData:=fun a b=>(Ki a b).or (BR a b)
def AR:R2:=fun x y H Q=>pJ (fun i j=>.bl (decide (j<=i))) x y H Q\/∃i j,x=.str i/\y=.str j/\Q (.bl (!decide (i.cps.toList<j.cps.toList))) H
theorem qT:OpR X (compareOp .GtE) (fun x y H Q=>∃i j,x=.str i/\y=.str j/\Q (.bl (!decide (i.cps.toList<j.cps.toList))) H):=by
 intro pins s σ H x y v u Q I rx ry h;obtain ⟨i,j,rfl,rfl,q⟩:=h;obtain ⟨t,rfl⟩:=rx;obtain ⟨t',rfl⟩:=ry;exact PySem.P.ge_str (CH I q rfl)
theorem DA:OpR X (compareOp .GtE) AR:=op_ge.or qT
theorem xW {K:Fg}:GOp K (fun x y H Q=>∃i j,x=.str i/\y=.str j/\Q (.bl (!decide (i.cps.toList<j.cps.toList))) H) BR:=by
 intro x y H Q a b d ra rb e k
 cases ra<;>cases rb<;>simp only [BR] at e<;>try cases e
 rename_i i j;exact ⟨i,j,rfl,rfl,k _ (.bl _)⟩
theorem BM {K:Fg}:GOp K AR oH:=(Cj fun _ _=>.bl _).or xW
structure Ck (X:Cx) (op:CmpOp) (r:R2) (g:PySem.PyData->PySem.PyData->Option PySem.PyData):Prop where
 o:OpR X (compareOp op) r
 g:GOp X.K r g
theorem kF (R:Rm X):Ck X .Lt Dn ia:=⟨Dz,BL⟩
theorem AV (R:Rm X):Ck X .LtE (pJ fun i j=>.bl (decide (i<=j))) zq:=⟨Dw,Cj fun _ _=>.bl _⟩
theorem ue (R:Rm X):Ck X .Gt (pJ fun i j=>.bl (decide (j<i))) mT:=⟨Dx,Cj fun _ _=>.bl _⟩
theorem IB (R:Rm X):Ck X .GtE AR oH:=⟨DA,BM⟩
theorem jo (R:Rm X):Ck X .Eq (qK X.K false) cV:=⟨Bl R,BN⟩
theorem uc (R:Rm X):Ck X .NotEq (qK X.K true) iR:=⟨Bg R,BK⟩
theorem fS (R:Rm X):Ck X .In (t9 X.K false) (bG false):=⟨Bk R,u6⟩
theorem zK (R:Rm X):Ck X .NotIn (t9 X.K true) (bG true):=⟨qR R,u6⟩
theorem ct {op:CmpOp} {r:R2} {g:PySem.PyData->PySem.PyData->Option PySem.PyData} (k:Ck X op r g) (ha:PE X a (tE X.K W fa)) (hb:PE X b (tE X.K W fb)) (hm:behindInMarks op b=false):PT X (.Compare a [op] [b] pos) (tT X.K W (aQ ax (aE g fa fb))):=B0 k.o k.g ha hb hm
theorem cc {x:Str} {n:Nat} {den:List PySem.PyData->bN} (S:Cp X N gl vs cs ls lo gs) (j:Nat) (hj:gl[j]?=some x) (hg:gs.contains j=true) (C:vY X x n den) (ha:PA X (e::es) (tA X.K W fl)) (he:starEach (e::es) X.env=(false,eval e X.env)::starEach es X.env) (hpl:(backTo pos (starEach es X.env)).any (·.1)=false) :
  PE X (.Call (.Name x p) (e::es) [] pos) (tE X.K W (aj n den fl)):=by
 obtain ⟨k,f,fd,ps,F,hr,hm,hk,hb⟩:=C;exact yk F hr hm hk hb ha (S.g hj hg).1 (S.g hj hg).2.1 he hpl
abbrev nT (X:Cx) (N gl:List Str) (vs cs ls lo gs:List Nat) (R:Cx->Prop):Prop:=∀Y:Cx,Cp Y N gl vs cs ls lo gs->Fx X Y->R Y
theorem co {scope:Scope} {x:Str} {px:Pos} {iter elt:Expr} {ifs:List Expr} {fi:FI} {fe:F1} {fc:FB} {vs' cs' lo' gs':List Nat} (S:Cp X N gl vs cs ls lo gs) (s:Sh) (i:Nat) (hx:N[i]?=some x) (h1:i5 N i cs scope=true) (h2:jb N gl vs' cs' [i] lo' gs' scope=true)
  (hi':PI X (.Name x px) iter (tI X.K W fi)) (hc:nT X N gl vs' cs' [i] lo' gs' fun Y=>PF Y ifs (tT Y.K W0 fc)) (he:nT X N gl vs' cs' [i] lo' gs' fun Y=>PE Y elt (tE Y.K W0 fe)) (hs:∀x,foldedSetIterable iter X.env x=pure x) :
  PE X (.ListComp elt [⟨.Name x px,iter,ifs,0⟩] scope pos) (tE X.K W (av s i fi fc fe)):=by
 have B:=fun cells C s₀ H₀ ex=>S.blk h2 cells C s₀ H₀ ex
 have L:=fun cells C s₀ H₀ ex=>(B cells C s₀ H₀ ex).loc i x hx (by simp)
 exact yj (X:=X) s i (Hk S h1) (by rw [S.hN];exact S.nd) hi' (fun cells C s₀ H₀ ex=>hc _ (B cells C s₀ H₀ ex) ⟨rfl,rfl,rfl,rfl,rfl,rfl⟩) (fun cells C s₀ H₀ ex=>he _ (B cells C s₀ H₀ ex) ⟨rfl,rfl,rfl,rfl,rfl,rfl⟩)
  S.calm (by rw [S.hN];exact hx) (fun cells C s₀ H₀ ex=>(L cells C s₀ H₀ ex).1) (fun cells C s₀ H₀ ex=>(L cells C s₀ H₀ ex).2) hs
theorem Fe {elt:Expr} {gens:List Comprehension} {scope:Scope} {y:Str} {pos':Pos} {line:Nat} (hk:X.env.scope.kind=.function) (hy:X.env.scope.names.lookup y=some .local) (hl:(pos'.line==pos.line)=true)
  (hn:(scope.names.any fun (n,k)=>n==y&&(k==NameKind.local||k==NameKind.cell))=false):swapsWith (.ListComp elt gens scope pos) (some (.Name y pos')) line X.env=pure true:=by
 have e1:(X.env.blockKind==ScopeKind.function)=true:=by unfold Env.blockKind;rw [hk];rfl
 have e2:(X.env.kindOf y==some NameKind.local)=true:=by unfold Env.kindOf;rw [hy];rfl
 show (pure (X.env.blockKind==.function&&X.env.kindOf y==some .local&&pos'.line==pos.line&&!(scope.names.any fun (n,k)=>n==y&&(k==NameKind.local||k==NameKind.cell))):Sem Bool)=pure true
 rw [e1,e2,hl,hn];rfl
theorem lR {elt:Expr} {gens:List Comprehension} {scope:Scope} {y:Str} {pos':Pos} {line:Nat} (hy:X.env.scope.names.lookup y=some .cell\/X.env.scope.names.lookup y=some .free):swapsWith (.ListComp elt gens scope pos) (some (.Name y pos')) line X.env=pure false:=by
 have e2:(X.env.kindOf y==some NameKind.local)=false:=by
  unfold Env.kindOf;rcases hy with hy | hy<;>rw [hy]<;>rfl
 show (pure (X.env.blockKind==.function&&X.env.kindOf y==some .local&&pos'.line==pos.line&&!(scope.names.any fun (n,k)=>n==y&&(k==NameKind.local||k==NameKind.cell))):Sem Bool)=pure false
 rw [e2,Bool.and_false,Bool.false_and,Bool.false_and]
theorem cs_append (S:Cp X N gl vs cs ls lo gs) (i:Nat) {x:Str} {apos cpos:Pos} (hi:N[i]?=some x) (hv:vs.contains i=true) (ha:PE X a (tE X.K W fa)) (hs:starEach [a] X.env=[(false,eval a X.env)])
  (hbase:attributeBase (.Name x p) "append" X.env (eval (.Name x p) X.env)=eval (.Name x p) X.env) (hline:(apos.endLine==cpos.line)=true)
  (hfew:((backTo cpos (starEach [a] X.env)).all (fun x=>!x.1)&&(backToKw cpos (keywordEach [] X.env)).all (fun x=>x.1.isSome)
   && decide ([a].length+([]:List Keyword).length+(if ([]:List Keyword).isEmpty then 0 else 1)<30))=true)
  (hsw:swapsWith (.Call (.Attribute (.Name x p) "append" apos) [a] [] cpos) none pos.line X.env=pure false) :
  PS X (.Expr (.Call (.Attribute (.Name x p) "append" apos) [a] [] cpos) pos) (tS X.K W (eV i fa)):=
 rG i ha (by rw [S.hN];exact hi) (S.vis i x hi hv) (S.nm x (mem_of_getElem? hi)).1 (S.nm x (mem_of_getElem? hi)).2 hs hbase hline hfew hsw
end
def eU (g:PySem.PyData->Option PySem.PyData) (fa:F1):F1:=aW fa fun p Γ=>match g p.d with
 | some d=>.ok ⟨.leaf,d⟩ Γ
 | none=>.no
def cC:PySem.PyData->Option PySem.PyData
 | .int i=>some (.int (-i))
 | _=>none
def Kk (fa fb:F1):F1:=aW fa fun p=>aW fb fun q=>fun Γ=>match p.s,p.d,q.d with
 | .lst .leaf,.list ds,.int k=>if dq k&&decide (ds.length*k.toNat<=sizeLine) then .ok ⟨.lst .leaf,.list (List.replicate k.toNat ds).flatten⟩ Γ else .no
 | _,_,_=>.no
def sA:Option (Option PV)->Bool
 | some (some ⟨.lst .leaf,.list _⟩)=>true
 | _=>false
def Ag (i:Nat) (p q:PV) (Γ:Ev):fJ:=match Γ[i]? with
 | some (some ⟨.lst .leaf,.list ds⟩)=>(match q.d with
  | .int k=>(match d9 ds.length k with
   | some j=>if T.coer .leaf p then .nx (Γ.set i (some ⟨.lst .leaf,.list (ds.set j p.d)⟩)) else .no
   | none=>.no)
  | _=>.no)
 | _=>.no
def ez (i:Nat) (fv fk:F1):FS:=fun Γ=>if sA Γ[i]? then gX fv (fun p=>gX fk (Ag i p)) Γ else .no
section
variable {K:Fg} {W:XW} {σ:St} {H:Hp} {Q:VK} {D:fL} {fa fb:F1} {fl:FL}
theorem Df {r:V->Hp->VK->Prop} {g:PySem.PyData->Option PySem.PyData} (hg:∀x H Q a d,Rep K H x a->g a=some d->(∀v,Sc v d->Q v H)->r x H Q) (h:tE K W (eU g fa) σ H Q):Jt r (tE K W fa) σ H Q:=by
 refine zF h fun He O Fs Γ1 p v H1 G Fs1 nd A h1=>?_
 cases e:g p.d with
 | none=>rw [e] at h1;exact h1.elim
 | some d=>
  rw [e] at h1;exact hg v H1 Q p.d d A.own.rep e fun u hu=>Wants.scal h1 hu A.same A.env.dropL (fun a ha=>ha) nd fun a ha=>A.new a (mem_append_right _ ha)
theorem Hm:∀{Fs:List (List Addr)},(∀F∈Fs,F=[])->Fs.flatten=[]
 | [],_=>rfl
 | F::r,h=>by rw [flatten_cons,h F mem_cons_self,Hm fun G hG=>h G (mem_cons_of_mem _ hG)];rfl
theorem Own.leaves {O:List Addr} {G:List Addr} {v:V} {ds:List PySem.PyData} (h:Own K O H (.lst .leaf) G v (.list ds)):∃l vs,v=.ref l/\G=[l]/\H l=some (.lst vs)/\vs.length=ds.length/\∀(j:Nat) u d,vs[j]?=some u->ds[j]?=some d->Rep K (bY H O) u d:=by
 cases h with
 | @lst _ l vs _ Fs hsv hp hl hf nd q=>
  have hF:∀F∈Fs,F=[]:=fun F hF=>by
   obtain ⟨j,hj,e⟩:=getElem_of_mem hF;have o:=q j (vs[j]'(by omega)) (ds[j]'(by omega)) F (getElem?_eq_getElem _) (getElem?_eq_getElem _) (by rw [getElem?_eq_getElem hj,e])
   cases o;rfl
  refine ⟨l,vs,rfl,by rw [Hm hF],hp,hl,fun j u d h1 h2=>?_⟩
  have hj:=(List.getElem?_eq_some_iff.mp h2).1
  have o:=q j u d (Fs[j]'(by omega)) h1 h2 (getElem?_eq_getElem _)
  generalize Fs[j]'(by omega)=F at o
  cases o with
  | leaf r=>exact r
theorem Own.mkLeaves {O:List Addr} {l:Addr} {vs:List V} {ds:List PySem.PyData} (hp:H l=some (.lst vs)) (hl:vs.length=ds.length) (q:∀(j:Nat) u d,vs[j]?=some u->ds[j]?=some d->Rep K (bY H O) u d):Own K O H (.lst .leaf) [l] (.ref l) (.list ds):=by
 have hF:(List.replicate ds.length ([]:List Addr)).flatten=[]:=Hm fun F hF=>(List.mem_replicate.mp hF).2
 have o:Own K O H (.lst .leaf) (l::(List.replicate ds.length ([]:List Addr)).flatten) (.ref l) (.list ds):=by
  refine .lst rfl hp hl (by simp) (by rw [hF];simp) fun j u d F h1 h2 h3=>?_
  have:F=[]:=(List.mem_replicate.mp (mem_of_getElem? h3)).2
  subst this;exact .leaf (q j u d h1 h2)
 rw [hF] at o;exact o
theorem zY {k:PV->PV->Ev->fJ} {R:V->V->Hp->Prop} (h:tS K W (gX fa fun p=>gX fb (k p)) D σ H)
  (hk:∀He O Γ2 p q v u H1 H2 G1 G2 Fs2,O.Nodup->Same H H1->Same H1 H2->EnvOk K He (G2++(G1++O)) Fs2 H2 σ Γ2->(∀a∈G2++G1,He a=none) ->
   Own K (G2++(G1++O)++Fs2.flatten) H2 p.s G1 v p.d->Own K (G2++(G1++O)++Fs2.flatten) H2 q.s G2 u q.d->o6 K W He O D (k p q Γ2)->R v u H2) :
  tE K W fa σ H fun v H1=>tE K W fb σ H1 fun u H2=>R v u H2:=by
 refine gE h fun He O Fs Γ1 p v H1 G1 Fs1 _ fr A1 h1=>?_
 refine ⟨He,G1++O,Fs1,Γ1,A1.env,?_⟩
 unfold gX at h1;have nd:O.Nodup:=(List.nodup_append.mp A1.env.ndO).2.1
 cases e:fb Γ1 with
 | ok q Γ2=>
  rw [e] at h1;intro u H2 G2 Fs2 A2;refine hk He O Γ2 p q v u H1 H2 G1 G2 Fs2 nd A1.same A2.same A2.env (fun a ha=>?_) (A1.own.mono A2.same fun a ha=>?_) A2.own h1
  ·rcases List.mem_append.mp ha with z | z
   ·exact A2.freshG A1.env a z
   ·exact fr a z
  ·rcases List.mem_append.mp ha with z | z
   ·rcases List.mem_append.mp z with z | z
    ·rcases A2.new a (mem_append_left _ z) with y | y
     ·exact .inl (mem_append_right _ y)
     ·exact .inr y
    ·exact .inl (mem_append_left _ z)
   ·rcases A2.new a (mem_append_right _ z) with y | y
    ·exact .inl (mem_append_right _ y)
    ·exact .inr y
 | er c Γ2=>
  rw [e] at h1;intro H2 Fs2 hs E2;exact h1 σ H2 Fs2 E2.dropL
 | no=>
  rw [e] at h1;exact h1
theorem wD {Q':VK} (h:tE K W fa σ H Q) (hq:∀v H',Q v H'->Q' v H'):tE K W fa σ H Q':=by
 obtain ⟨He,O,Fs,Γ,E,h⟩:=h;refine ⟨He,O,Fs,Γ,E,?_⟩
 cases e:fa Γ with
 | ok p Γ'=>rw [e] at h;exact fun v H' G Fs' A=>hq v H' (h v H' G Fs' A)
 | er c Γ'=>rw [e] at h;exact h
 | no=>rw [e] at h;exact h
theorem EnvOk.chg {He:Hp} {O:List Addr} {Fs:List (List Addr)} {Γ:Ev} {i:Nat} {ds:List PySem.PyData} (E:EnvOk K He O Fs H σ Γ) (h:Γ[i]?=some (some ⟨.lst .leaf,.list ds⟩)) :
  ∃l vs,σ[i]?=some (some (.ref l))/\H l=some (.lst vs)/\vs.length=ds.length/\(∀(j:Nat) u d,vs[j]?=some u->ds[j]?=some d->Rep K (bY H (O++Fs.flatten)) u d) /\
   ∀(vs':List V) (ds':List PySem.PyData),vs'.length=ds'.length->(∀(j:Nat) u d,vs'[j]?=some u->ds'[j]?=some d->Rep K (bY H (O++Fs.flatten)) u d)->∃Fs',EnvOk K He O Fs' (bA H l (.lst vs')) σ (Γ.set i (some ⟨.lst .leaf,.list ds'⟩)):=by
 obtain ⟨hv,v,F,h1,E1,o1,sub⟩:=E.move h;have hi:i<Γ.length:=(List.getElem?_eq_some_iff.mp h).1
 obtain ⟨_,v0,F0,h10,h20,o0⟩:=E.slot i _ h;obtain ⟨l,vs,rfl,rfl,hp,hl,hr⟩:=o1.leaves;obtain ⟨l',vs',e0,e1,hp',hl',hr'⟩:=o0.leaves;rw [h1] at h10
 cases h10
 cases e0;rw [hp] at hp'
 cases hp'
 refine ⟨l,vs,h1,hp,hl,hr',fun ws ds' hw q=>?_⟩
 have hlF:l∈Fs.flatten:=sub l (mem_append_left _ (List.mem_singleton.mpr rfl))
 have hHe:He l=none:=E.fresh l hlF
 have E4:=E1.mutO (o:=.lst ws) (mem_append_left _ (List.mem_singleton.mpr rfl)) hp hHe
 have ownL:Own K ([l]++O++(Fs.set i []).flatten) (bA H l (.lst ws)) (.lst .leaf) [l] (.ref l) (.list ds'):=by
  refine Own.mkLeaves dI hw fun j u d a1 a2=>?_
  rw [GB (mem_append_left _ (mem_append_left _ (List.mem_singleton.mpr rfl)))];refine (q j u d a1 a2).mono (qm (Same.refl _) fun a ha=>.inl ?_)
  rcases List.mem_append.mp ha with z | z
  ·rcases List.mem_append.mp z with z | z
   ·rw [List.mem_singleton.mp z];exact mem_append_right _ hlF
   ·exact mem_append_left _ z
  ·exact mem_append_right _ (sub a (mem_append_right _ z))
 have fin:=EnvOk.put (i:=i) (p:=⟨.lst .leaf,.list ds'⟩) (v:=.ref l) E4 ownL rfl (fun a ha=>by rw [List.mem_singleton.mp ha];exact hHe) (by rw [length_set];exact hi)
 rw [set_set,set_set,yN h1] at fin;exact ⟨_,fin⟩
theorem HF {o:Option (Option PV)} (h:sA o=true):∃ds,o=some (some ⟨.lst .leaf,.list ds⟩):=by
 unfold sA at h;split at h
 ·exact ⟨_,rfl⟩
 ·cases h
theorem wX {i:Nat} (h:tS K W (ez i fa fb) D σ H):fQ (tE K W fa) (L2.gSub (br i) (tE K W fb) t8) D σ H:=by
 obtain ⟨He,O,Fs,Γ,E,h⟩:=h;unfold ez at h
 cases ho:sA Γ[i]? with
 | false=>rw [ho] at h;exact h.elim
 | true=>
  rw [ho] at h;obtain ⟨ds,e0⟩:=HF ho;obtain ⟨l,vs,h1,h2,h3,_,_⟩:=E.chg e0;refine wD (zY (D:=D) (R:=fun v u H2=>t8 (.ref l) u v H2 fun H3=>D.nx σ H3) ⟨He,O,Fs,Γ,E,h⟩ fun He O Γ2 p q v u H1 H2 G1 G2 Fs2 nd s1 s2 E2 fr o1 o2 w=>?_) fun v H' q=>⟨.ref l,h1,q⟩
  unfold Ag at w;split at w
  ·rename_i ds1 e1
   split at w
   ·rename_i k ek
    split at w
    ·rename_i j ej
     cases hc:T.coer .leaf p with
     | false=>rw [hc] at w;exact w.elim
     | true=>
      rw [hc] at w;have E3:EnvOk K He O Fs2 H2 σ Γ2:=E2.drop (fun a ha=>mem_append_right _ (mem_append_right _ ha)) nd
      obtain ⟨l1,vs1,q1,q2,q3,q4,q5⟩:=E3.chg e1;rw [h1] at q1
      cases q1;have hu:=o2.rep
      rw [ek] at hu
      cases hu;have ov:Own K (O++Fs2.flatten) H2 .leaf [] v p.d:=by
       refine o1.coer (s:=.leaf) hc (fun a ha=>?_) fun a ha z=>?_
       ·rcases List.mem_append.mp ha with z | z
        ·exact mem_append_left _ (mem_append_right _ (mem_append_right _ z))
        ·exact mem_append_right _ z
       ·exfalso
        have ndE:=E2.nd
        rw [append_assoc] at ndE;have n2:=(List.nodup_append.mp ndE).2.1
        rw [append_assoc] at n2;exact (List.nodup_append.mp n2).2.2 a ha a z rfl
      cases ov with
      | leaf rv=>
       have ixl:d9 vs1.length k=some j:=by rw [q3];exact ej
       obtain ⟨Fs',E4⟩:=q5 (vs1.set j v) (ds1.set j p.d) (by rw [length_set,length_set,q3]) fun m x d a1 a2=>by
        by_cases hm:m=j
        ·subst hm
         rw [List.getElem?_set] at a1 a2
         rw [if_pos rfl] at a1 a2
         split at a1
         ·split at a2
          ·cases a1;cases a2;exact rv
          ·cases a2
         ·cases a1
        ·rw [getElem?_set_ne (Ne.symm hm)] at a1 a2
         exact q4 m x d a1 a2
       exact ⟨l,vs1,k,j,rfl,rfl,q2,ixl,w σ _ Fs' E4⟩
    ·exact w.elim
   ·exact w.elim
  ·exact w.elim
end
section
variable {X:Cx}
theorem zV:J0 X (unaryOp .USub) (fun x H Q=>∃i,x=.int i/\Q (.int (-i)) H):=by
 intro pins s σ H x v Q I rx h;obtain ⟨i,rfl,q⟩:=h;obtain ⟨t,rfl⟩:=rx;exact neg_int ⟨.int (-i),H,I.tok _,⟨_,rfl⟩,q⟩
end
section
variable {X:Cx}
variable {N gl:List Str} {vs cs ls lo gs:List Nat} {W:XW} {a b c e:Expr} {es:List Expr} {pos p:Pos} {fa fb fc:F1} {fl:FL} {g:FS}
theorem cs_setI (S:Cp X N gl vs cs ls lo gs) (i:Nat) {x:Str} {px pos':Pos} (hi:N[i]?=some x) (hv:vs.contains i=true) (ha:PE X a (tE X.K W fa)) (hb:PE X b (tE X.K W fb))
  (hs:swapsWithSole [.Subscript (.Name x px) b pos'] a pos.line X.env=pure false) (hw:swappedStores [.Subscript (.Name x px) b pos'] a X.env=pure none)
  (h1:(assignEach [.Subscript (.Name x px) b pos'] X.env).map (·.2)=[assign (.Subscript (.Name x px) b pos') X.env])
  (has:∀v,assign (.Subscript (.Name x px) b pos') X.env v=(do
   let ov <-holding [v] (eval (.Name x px) X.env)
   let iv <-holding [v,ov] (eval b X.env)
   standAt pos'
   holding [v,ov,iv] (setItem ov iv v)
   release [v,ov,iv] [])):PS X (.Assign [.Subscript (.Name x px) b pos'] a pos) (tS X.K W (ez i fa fb)):=by
 have m:=S.nm x (mem_of_getElem? hi)
 exact dy (ui ha (A6 (wb (by rw [S.hN];exact hi) (S.vis i x hi hv) m.1 m.2) hb tF has) hs hw h1) fun _ _ _=>wX
end
def yG:Expr->Bool
 | .Starred ..=>true
 | _=>false
theorem dE {e:Expr} {es:List Expr} {env:Env} (h:yG e=false):starEach (e::es) env=(false,eval e env)::starEach es env:=by
 cases e<;>first | rfl | cases h
theorem dC {a:Expr} {env:Env} (h:yG a=false):starEach [a] env=[(false,eval a env)]:=dE h
theorem lT {a b:Expr} {env:Env} (h:yG a=false) (h2:yG b=false):starEach [a,b] env=[(false,eval a env),(false,eval b env)]:=by rw [dE h,dC h2]
def DefOk (P:Program) (w:World) (K:Fg) (mg:Str->Option Value) (base:Heap) (j:Nat) (x:Str) (n:Nat) (den:List PySem.PyData->bN):Prop:=
 ∃(f:Addr) (fd:FuncData) (ps:List Str),eR P w K mg base nP j f fd ps (sm K n den)/\mg x=some (.ref f)/\PySem.W.keepIn K (.ref f)=true/\Binds K fd ps []
def o5 (K:Fg) (mg:Str->Option Value) (x:Str) (d:PySem.PyData):Prop:=∃u v,mg x=some u/\RelV v u/\∀H,Rep K H v d
theorem DefOk.cal {X:Cx} {j k n:Nat} {x:Str} {den:List PySem.PyData->bN} (h:DefOk X.prog X.w X.K X.mg X.base j x n den) (hr:Room k X.A) (hj:decide (j<=k)=true):vY X x n den:=by
 obtain ⟨f,fd,ps,F,a,b,c⟩:=h;exact ⟨j,f,fd,ps,F,hr.mono (of_decide_eq_true hj),a,b,c⟩
def HR:PySem.PyData->V
 | .none=>.non
 | .bool b=>.bl b
 | .int i=>.int i
 | .str x=>.str x
 | _=>.non
def rW:List Value->List PySem.PyData->Bool
 | .int i _::r,.int j::ds=>decide (i=j)&&rW r ds
 | .str x _::r,.str y::ds=>decide (x=y)&&rW r ds
 | [],[]=>true
 | _,_=>false
theorem Gu:∀{us:List Value} {ds:List PySem.PyData},rW us ds=true->Vals (ds.map HR) us/\∀d∈ds,Sc (HR d) d
 | [],[],_=>⟨.nil,fun d hd=>(nomatch hd)⟩
 | .int i t::r,.int j::ds,h=>by
  simp only [rW,Bool.and_eq_true,decide_eq_true_eq] at h
  obtain ⟨rfl,h⟩:=h;obtain ⟨a,b⟩:=Gu h;refine ⟨.cons ⟨t,rfl⟩ a,fun d hd=>?_⟩
  rcases List.mem_cons.mp hd with z | z
  ·rw [z];exact .int i
  ·exact b d z
 | .str i t::r,.str j::ds,h=>by
  simp only [rW,Bool.and_eq_true,decide_eq_true_eq] at h
  obtain ⟨rfl,h⟩:=h;obtain ⟨a,b⟩:=Gu h;refine ⟨.cons ⟨t,rfl⟩ a,fun d hd=>?_⟩
  rcases List.mem_cons.mp hd with z | z
  ·rw [z];exact .str i
  ·exact b d z
def B9 (its:Array Value) (ds:List PySem.PyData):Bool:=decide (its.size<=sizeLine)&&rW its.toList ds
theorem yn {K:Fg} {mg:Str->Option Value} {x:Str} {a:Addr} {dd:Option Addr} {its:Array Value} {n:Nat} {sl:Array (Option Value)} {ds:List PySem.PyData} (hm:mg x=some (.ref a)) (l:K.lookup a=some ⟨.type "tuple",dd,.seq its n,sl⟩) (h:B9 its ds=true):o5 K mg x (.tuple ds):=by
 unfold B9 at h;simp only [Bool.and_eq_true,decide_eq_true_eq] at h
 obtain ⟨v,s⟩:=Gu h.2;refine ⟨.ref a,.ref a,hm,rfl,fun H=>.tup (vs:=ds.map HR) (.inr ⟨_,its,n,l,rfl,rfl,h.1,v⟩) (by simp) fun i v d h1 h2=>?_⟩
 rw [getElem?_map,h2] at h1
 cases h1;exact (s d (mem_of_getElem? h2)).rep
theorem yo {K:Fg} {mg:Str->Option Value} {x:Str} {i:Int} {t:Tok} (hm:mg x=some (.int i t)):o5 K mg x (.int i):=⟨.int i t,.int i,hm,⟨t,rfl⟩,fun H=>.int i⟩
theorem Bu {K:Fg} {m:List PySem.PyData->bN} {H:Hp} {a:Addr} {ns:List Int} {E:XK} (h:m [.list (ns.map .int)]=.ok ⟨.leaf,.bool true⟩) (hS:SqL K H a (ns.map V.int)):sm K 1 m [.ref a] H (fun v _=>v=.bl true) E:=by
 refine ⟨rfl,[],[.list (ns.map .int)],nodup_nil,(fun _ z=>nomatch z),⟨rfl,fun i v d h1 h2=>?_⟩,?_⟩
 ·rw [GA]
  match i,h1,h2 with
  | 0,h1,h2=>
   cases h1
   cases h2;refine .lst hS (by simp) fun i v d h1 h2=>?_
   rw [getElem?_map] at h1 h2
   cases e:ns[i]? with
   | none=>rw [e] at h1;cases h1
   | some z=>
    rw [e] at h1 h2
    cases h1
    cases h2;exact .int z
  | i+1,h1,h2=>simp at h1
 ·rw [h]
  intro v H' G r
  have o:=r.own.rep
  cases o;rfl
end T
namespace TQ
open PySem PySem.Spec L2 T
open PyProof.Rows hiding St
structure Q (p:Prop):Prop where
 p:p
section
variable {X:Cx} {N gl:List Str} {vs cs ls lo gs:List Nat} {W:XW} {a b c e:Expr} {es:List Expr} {pos p:Pos} {fa fb fc:F1} {fl:FL} {ga gb:FB} {g1 g2 g:FS}
theorem w_cv (S:Cp X N gl vs cs ls lo gs) (i:Nat) {x:Str} (hN:N[i]?=some x) (hv:vs.contains i=true):Q (PE X (.Name x pos) (tE X.K W (ae i))):=⟨T.cv S i hN hv⟩
theorem lM (S:Cp X N gl vs cs ls lo gs) (i:Nat) {x:Str} (hN:N[i]?=some x) (hv:vs.contains i=true):Q (PE X (.Name x pos) (tE X.K W (cz i))):=⟨T.cm S i hN hv⟩
theorem sV (S:Cp X N gl vs cs ls lo gs) (j:Nat) {x:Str} {d:PySem.PyData} (hj:gl[j]?=some x) (hg:gs.contains j=true) (h:Con X x d):Q (PE X (.Name x pos) (tE X.K W (eK d))):=⟨by
 obtain ⟨u,v,h1,h2,h3⟩:=h;have q:=S.g hj hg
 exact yi q.1 h1 h2 h3 q.2.1⟩
theorem w_de_int {j:Int} {k pos}:Q (PE X (.Constant (.int j) k pos) (tE X.K W (eK (.int j)))):=⟨bh uy fun _ _ _=>tV fun _=>.int j⟩
theorem o9 {j:Bool} {k pos}:Q (PE X (.Constant (.bool j) k pos) (tE X.K W (eK (.bool j)))):=⟨bh uC fun _ _ _=>tV fun _=>.bl j⟩
theorem ja {k pos}:Q (PE X (.Constant .none k pos) (tE X.K W (eK .none))):=⟨bh A7 fun _ _ _=>tV fun _=>.non⟩
theorem sP {j:Str} {k pos}:Q (PE X (.Constant (.str j) k pos) (tE X.K W (eK (.str j)))):=⟨bh uw fun _ _ _=>tV fun _=>.str j⟩
theorem sG (ha:Q (PE X a (tE X.K W fa))) (hb:Q (PE X b (tE X.K W fb))):Q (PE X (.BinOp a .Add b pos) (tE X.K W (aE bf fa fb))):=⟨have ha:=ha.p;have hb:=hb.p;bh (iB Bm ha hb) fun _ _ _=>gF (Cj fun _ _=>.int _)⟩
theorem Hu (ha:Q (PE X a (tE X.K W fa))) (hb:Q (PE X b (tE X.K W fb))):Q (PE X (.BinOp a .Sub b pos) (tE X.K W (aE gSub fa fb))):=⟨have ha:=ha.p;have hb:=hb.p;bh (iB Be ha hb) fun _ _ _=>gF (Cj fun _ _=>.int _)⟩
theorem CS (ha:Q (PE X a (tE X.K W fa))) (hb:Q (PE X b (tE X.K W fb))):Q (PE X (.BinOp a .Mult b pos) (tE X.K W (aE mS fa fb))):=⟨have ha:=ha.p;have hb:=hb.p;bh (iB Bh ha hb) fun _ _ _=>gF (pZ (fun i j h=>by
 simp only [r6,Bool.or_eq_true,Bool.and_eq_true,decide_eq_true_eq] at h
 exact h) fun _ _=>.int _)⟩
theorem lI (ha:Q (PE X a (tE X.K W fa))) (hb:Q (PE X b (tE X.K W fb))):Q (PE X (.BinOp a .FloorDiv b pos) (tE X.K W (aE vb fa fb))):=⟨have ha:=ha.p;have hb:=hb.p;bh (iB xA ha hb) fun _ _ _=>gF (pZ (fun i j h=>by
 simp only [yu,Bool.and_eq_true,decide_eq_true_eq] at h
 exact h) fun _ _=>.int _)⟩
theorem zM (ha:Q (PE X a (tE X.K W fa))) (hb:Q (PE X b (tE X.K W fb))):Q (PE X (.BinOp a .Mod b pos) (tE X.K W (aE gc fa fb))):=⟨have ha:=ha.p;have hb:=hb.p;bh (iB Bi ha hb) fun _ _ _=>gF (pZ (fun i j h=>by
 simp only [yt,decide_eq_true_eq] at h
 exact h) fun _ _=>.int _)⟩
theorem sQ (ha:Q (PE X a (tE X.K W fa))) (hb:Q (PE X b (tE X.K W fb))):Q (PE X (.BinOp a .Pow b pos) (tE X.K W (aE x2 fa fb))):=⟨have ha:=ha.p;have hb:=hb.p;bh (iB Bf ha hb) fun _ _ _=>gF (pZ (fun i j h=>by
 simp only [yr,Bool.and_eq_true,decide_eq_true_eq] at h
 exact ⟨h.1.1,h.1.2,h.2⟩) fun _ _=>.int _)⟩
theorem zL (ha:Q (PE X a (tE X.K W fa))):Q (PE X (.UnaryOp .USub a pos) (tE X.K W (eU cC fa))):=⟨have ha:=ha.p;bh (Du zV ha) fun _ _ _=>Df fun x H Q a d r e k=>by
 cases r<;>simp only [cC] at e<;>cases e
 exact ⟨_,rfl,k _ (.int _)⟩⟩
theorem HN {op:CmpOp} {r:R2} {g:PySem.PyData->PySem.PyData->Option PySem.PyData} (k:Ck X op r g) (ha:Q (PE X a (tE X.K W fa))) (hb:Q (PE X b (tE X.K W fb))) (hm:behindInMarks op b=false):Q (PE X (.Compare a [op] [b] pos) (tE X.K W (aE g fa fb))):=⟨have ha:=ha.p;have hb:=hb.p;B6 k.o k.g ha hb hm⟩
theorem yU {op op':CmpOp} {r r':R2} {g g':PySem.PyData->PySem.PyData->Option PySem.PyData} (k:Ck X op r g) (k':Ck X op' r' g') (ha:Q (PE X a (tE X.K W fa))) (hb:Q (PE X b (tE X.K W fb))) (hc:Q (PE X c (tE X.K W fc))) (hm:lastMarks [op,op'] [b,c]=false):Q (PE X (.Compare a [op,op'] [b,c] pos) (tE X.K W (sC g g' fa fb fc))):=⟨have ha:=ha.p;have hb:=hb.p;have hc:=hc.p;vo k.o k.g k'.o k'.g ha hb hc hm⟩
theorem yP {op} (h:Q (PE X a (tE X.K W fa))):Q (PE X (.BoolOp op [a] pos) (tE X.K W fa)):=⟨L2.pe_one h.p⟩
theorem yO (ha:Q (PE X a (tE X.K W fa))) (hb:Q (PE X (.BoolOp .And (b::es) pos) (tE X.K W fb))):Q (PE X (.BoolOp .And (a::b::es) pos) (tE X.K W (eF fa fb))):=⟨have ha:=ha.p;have hb:=hb.p;bh (A9 ha hb) fun _ _ _=>AJ⟩
theorem wt (ha:Q (PE X a (tE X.K W fa))) (hb:Q (PE X (.BoolOp .Or (b::es) pos) (tE X.K W fb))):Q (PE X (.BoolOp .Or (a::b::es) pos) (tE X.K W (DP fa fb))):=⟨have ha:=ha.p;have hb:=hb.p;bh (Dv ha hb) fun _ _ _=>Dh⟩
theorem EC (hc:Q (PT X c (tT X.K W ga))) (ha:Q (PE X a (tE X.K W fa))) (hb:Q (PE X b (tE X.K W fb))):Q (PE X (.IfExp c a b pos) (tE X.K W (vW ga fa fb))):=⟨have hc:=hc.p;have ha:=ha.p;have hb:=hb.p;bh (uz hc ha hb) fun _ _ _=>Di⟩
theorem w_de_idx (ha:Q (PE X a (tE X.K W fa))) (hb:Q (PE X b (tE X.K W fb))) (hs:ED b):Q (PE X (.Subscript a b pos) (tE X.K W (ak fa fb))):=⟨have ha:=ha.p;have hb:=hb.p;bh (pO El ha hb hs) fun _ _ _=>AA⟩
theorem lA (s:Sh) (h:Q (PA X es (tA X.K W fl))):Q (PE X (.List es pos) (tE X.K W (aU s fl))):=⟨have h:=h.p;bh (ux h) fun _ _ _=>w6⟩
theorem si {x1} (h:Q (PA X es (tA X.K W fl))):Q (PE X (.Tuple es x1 pos) (tE X.K W (cQ fl))):=⟨have h:=h.p;bh (uv h) fun _ _ _=>Aq⟩
theorem sE :Q (PA X [] (tA X.K W ai)):=⟨T.da_nil ⟩
theorem jE (ha:Q (PE X e (tE X.K W fa))) (hr:Q (PA X es (tA X.K W fl))) (hs:starEach (e::es) X.env=(false,eval e X.env)::starEach es X.env):Q (PA X (e::es) (tA X.K W (ah fa fl))):=⟨T.da_cons ha.p hr.p hs⟩
theorem HM {scope:Scope} {x:Str} {px:Pos} {iter elt:Expr} {ifs:List Expr} {fi:FI} {fe:F1} {fc:FB} {vs' cs' lo' gs':List Nat} (S:Cp X N gl vs cs ls lo gs) (s:Sh) (i:Nat) (hx:N[i]?=some x) (h1:i5 N i cs scope=true) (h2:jb N gl vs' cs' [i] lo' gs' scope=true) (hi':Q (PI X (.Name x px) iter (tI X.K W fi))) (hc:nT X N gl vs' cs' [i] lo' gs' fun Y=>Q (PF Y ifs (tT Y.K W0 fc))) (he:nT X N gl vs' cs' [i] lo' gs' fun Y=>Q (PE Y elt (tE Y.K W0 fe))) (hs:∀x,foldedSetIterable iter X.env x=pure x):Q (PE X (.ListComp elt [⟨.Name x px,iter,ifs,0⟩] scope pos) (tE X.K W (av s i fi fc fe))):=⟨T.co S s i hx h1 h2 hi'.p (fun Y S F=>(hc Y S F).p) (fun Y S F=>(he Y S F).p) hs⟩
theorem zO {scope:Scope} {x y:Str} {px pos' spos:Pos} {iter elt:Expr} {ifs:List Expr} {fi:FI} {fe:F1} {fc:FB} {vs' cs' lo' gs':List Nat} (S:Cp X N gl vs cs ls lo gs) (own:Bool) (j:Nat) (s:Sh) (i:Nat) (hy:N[j]?=some y) (hyl:lo.contains j=true) (hx:N[i]?=some x) (hsl:(pos'.line==pos.line)=true) (hsn:(scope.names.any fun (n,k)=>n==y&&(k==NameKind.local||k==NameKind.cell))=false) (h1:i5 N i cs scope=true) (h2:jb N gl vs' cs' [i] lo' gs' scope=true) (hi':Q (PI X (.Name x px) iter (tI X.K W fi))) (hc:nT X N gl vs' cs' [i] lo' gs' fun Y=>Q (PF Y ifs (tT Y.K W0 fc))) (he:nT X N gl vs' cs' [i] lo' gs' fun Y=>Q (PE Y elt (tE Y.K W0 fe))) (hs:∀x,foldedSetIterable iter X.env x=pure x):Q (PS X (.Assign [.Name y pos'] (.ListComp elt [⟨.Name x px,iter,ifs,0⟩] scope pos) spos) (tS X.K W (aD own j (av s i fi fc fe)))):=⟨by
 have hi':=hi'.p
 have hc:=fun Y S F=>(hc Y S F).p
 have he:=fun Y S F=>(he Y S F).p
 have B:=fun cells C s₀ H₀ ex=>S.blk h2 cells C s₀ H₀ ex
 have L:=fun cells C s₀ H₀ ex=>(B cells C s₀ H₀ ex).loc i x hx (by simp)
 exact oM (X:=X) own j s i (Hk S h1) (by rw [S.hN];exact S.nd) hi' (fun cells C s₀ H₀ ex=>hc _ (B cells C s₀ H₀ ex) ⟨rfl,rfl,rfl,rfl,rfl,rfl⟩) (fun cells C s₀ H₀ ex=>he _ (B cells C s₀ H₀ ex) ⟨rfl,rfl,rfl,rfl,rfl,rfl⟩)
  (Fe S.kind (S.loo j y hy hyl) hsl hsn) (by rw [S.hN];exact hy) (S.loo j y hy hyl) S.calm (by rw [S.hN];exact hx) (fun cells C s₀ H₀ ex=>(L cells C s₀ H₀ ex).1) (fun cells C s₀ H₀ ex=>(L cells C s₀ H₀ ex).2) hs⟩
theorem sX (S:Cp X N gl vs cs ls lo gs) (j:Nat) (hj:gl[j]?=some ("len":Str)) (hg:gs.contains j=true) (hm:X.mg "len"=none) (ha:Q (PA X (e::es) (tA X.K W fl))) (he:starEach (e::es) X.env=(false,eval e X.env)::starEach es X.env) (hpl:(backTo pos (starEach es X.env)).any (·.1)=false):Q (PE X (.Call (.Name "len" p) (e::es) [] pos) (tE X.K W (bM bL fl))):=⟨have ha:=ha.p;vp (call_len_seq.or lx) BO zx hm ha (S.g hj hg).1 (S.g hj hg).2.2 (S.g hj hg).2.1 he hpl⟩
theorem sg (S:Cp X N gl vs cs ls lo gs) (j:Nat) (hj:gl[j]?=some ("all":Str)) (hg:gs.contains j=true) (hm:X.mg "all"=none) (ha:Q (PA X (e::es) (tA X.K W fl))) (he:starEach (e::es) X.env=(false,eval e X.env)::starEach es X.env) (hpl:(backTo pos (starEach es X.env)).any (·.1)=false):Q (PE X (.Call (.Name "all" p) (e::es) [] pos) (tE X.K W (bM (b8 false) fl))):=⟨have ha:=ha.p;vp (rZ S.calm) u9 D5 hm ha (S.g hj hg).1 (S.g hj hg).2.2 (S.g hj hg).2.1 he hpl⟩
theorem Hi (S:Cp X N gl vs cs ls lo gs) (j:Nat) (hj:gl[j]?=some ("any":Str)) (hg:gs.contains j=true) (hm:X.mg "any"=none) (ha:Q (PA X (e::es) (tA X.K W fl))) (he:starEach (e::es) X.env=(false,eval e X.env)::starEach es X.env) (hpl:(backTo pos (starEach es X.env)).any (·.1)=false):Q (PE X (.Call (.Name "any" p) (e::es) [] pos) (tE X.K W (bM (b8 true) fl))):=⟨have ha:=ha.p;vp (rY S.calm) u9 D4 hm ha (S.g hj hg).1 (S.g hj hg).2.2 (S.g hj hg).2.1 he hpl⟩
theorem sY (S:Cp X N gl vs cs ls lo gs) (j:Nat) (hj:gl[j]?=some ("int":Str)) (hg:gs.contains j=true) (hm:X.mg "int"=none) (ha:Q (PA X (e::es) (tA X.K W fl))) (he:starEach (e::es) X.env=(false,eval e X.env)::starEach es X.env) (hpl:(backTo pos (starEach es X.env)).any (·.1)=false):Q (PE X (.Call (.Name "int" p) (e::es) [] pos) (tE X.K W (bM oG fl))):=⟨have ha:=ha.p;DW rX BP D3 hm ha (S.g hj hg).1 (S.g hj hg).2.2 (S.g hj hg).2.1 he hpl⟩
theorem w_cb_list (S:Cp X N gl vs cs ls lo gs) (j:Nat) (hj:gl[j]?=some ("list":Str)) (hg:gs.contains j=true) (hm:X.mg "list"=none) (ha:Q (PE X e (tE X.K W fa))) (hs:starEach [e] X.env=[(false,eval e X.env)]):Q (PE X (.Call (.Name "list" p) [e] [] pos) (tE X.K W (km fa))):=⟨have ha:=ha.p;rP hm ha (S.g hj hg).1 hs⟩
theorem HP {x:Str} {n:Nat} {den:List PySem.PyData->bN} (S:Cp X N gl vs cs ls lo gs) (j:Nat) (hj:gl[j]?=some x) (hg:gs.contains j=true) (C:vY X x n den) (ha:Q (PA X (e::es) (tA X.K W fl))) (he:starEach (e::es) X.env=(false,eval e X.env)::starEach es X.env) (hpl:(backTo pos (starEach es X.env)).any (·.1)=false):Q (PE X (.Call (.Name x p) (e::es) [] pos) (tE X.K W (aj n den fl))):=⟨T.cc S j hj hg C ha.p he hpl⟩
theorem ig {tg:Expr} (S:Cp X N gl vs cs ls lo gs) (j:Nat) (hj:gl[j]?=some ("range":Str)) (hg:gs.contains j=true) (hm:X.mg "range"=none) (ha:Q (PA X [a] (tA X.K W fl))) (hs:starEach [a] X.env=[(false,eval a X.env)]):Q (PI X tg (.Call (.Name "range" p) [a] [] pos) (tI X.K W (gk fl))):=⟨have ha:=ha.p;DV hm ha (S.g hj hg).1 hs⟩
theorem yT {tg:Expr} (S:Cp X N gl vs cs ls lo gs) (j:Nat) (hj:gl[j]?=some ("range":Str)) (hg:gs.contains j=true) (hm:X.mg "range"=none) (ha:Q (PA X [a,b] (tA X.K W fl))) (hs:starEach [a,b] X.env=[(false,eval a X.env),(false,eval b X.env)]) (hs2:starEach [b] X.env=[(false,eval b X.env)]):Q (PI X tg (.Call (.Name "range" p) [a,b] [] pos) (tI X.K W (xS fl))):=⟨have ha:=ha.p;DU hm ha (S.g hj hg).1 hs hs2⟩
theorem w_di_seq {tg:Expr} (ha:Q (PE X a (tE X.K W fa))):Q (PI X tg a (tI X.K W (aF fa))):=⟨have ha:=ha.p;qj (Et ha) fun _ _ _=>xb⟩
theorem HL {op:CmpOp} {r:R2} {g:PySem.PyData->PySem.PyData->Option PySem.PyData} (k:Ck X op r g) (ha:Q (PE X a (tE X.K W fa))) (hb:Q (PE X b (tE X.K W fb))) (hm:behindInMarks op b=false):Q (PT X (.Compare a [op] [b] pos) (tT X.K W (aQ ax (aE g fa fb)))):=⟨T.ct k ha.p hb.p hm⟩
theorem CZ {op op':CmpOp} {r r':R2} {g g':PySem.PyData->PySem.PyData->Option PySem.PyData} (k:Ck X op r g) (k':Ck X op' r' g') (ha:Q (PE X a (tE X.K W fa))) (hb:Q (PE X b (tE X.K W fb))) (hc:Q (PE X c (tE X.K W fc))) (hm:lastMarks [op,op'] [b,c]=false):Q (PT X (.Compare a [op,op'] [b,c] pos) (tT X.K W (aQ ax (sC g g' fa fb fc)))):=⟨have ha:=ha.p;have hb:=hb.p;have hc:=hc.p;vh k.o k.g k'.o k'.g ha hb hc hm⟩
theorem sj (ha:Q (PT X a (tT X.K W ga))):Q (PT X (.UnaryOp .Not a pos) (tT X.K W (dr ga))):=⟨have ha:=ha.p;qi (AY ha) fun _ _ _=>xh⟩
theorem EV (ha:Q (PT X a (tT X.K W ga))):Q (PW X (.BoolOp .And [a] pos) (tT X.K W ga)):=⟨have ha:=ha.p;xj ha⟩
theorem EL (ha:Q (PT X a (tT X.K W ga))):Q (PW X (.BoolOp .Or [a] pos) (tT X.K W ga)):=⟨have ha:=ha.p;AW ha⟩
theorem EK (ha:Q (PT X a (tT X.K W ga))) (hb:Q (PW X (.BoolOp .And (b::es) pos) (tT X.K W gb))):Q (PW X (.BoolOp .And (a::b::es) pos) (tT X.K W (gz ga gb))):=⟨have ha:=ha.p;have hb:=hb.p;zA (AX ha hb) fun _ _ _=>xi⟩
theorem Cr (ha:Q (PT X a (tT X.K W ga))) (hb:Q (PW X (.BoolOp .Or (b::es) pos) (tT X.K W gb))):Q (PW X (.BoolOp .Or (a::b::es) pos) (tT X.K W (nK ga gb))):=⟨have ha:=ha.p;have hb:=hb.p;zA (Dr ha hb) fun _ _ _=>AG⟩
theorem yR (h:Q (PW X a (tT X.K W ga))):Q (PT X a (tT X.K W ga)):=⟨L2.PW.pt h.p⟩
theorem jd (ha:Q (PE X a (tE X.K W fa))) (he:∀whole,isTrue a X.env whole=(do let v <-whole;standAt a.pos;holding [v] (truthy v))):Q (PT X a (tT X.K W (aQ bF fa))):=⟨have ha:=ha.p;qi (mq ha he) fun _ _ _=>Ar⟩
theorem fO :Q (PSs X [] (tS X.K W aS)):=⟨vI pL fun _ _ _=>wY⟩
theorem d5 {st:Stmt} (h1:Q (PS X st (tS X.K W g1))):Q (PSs X [st] (tS X.K W g1)):=⟨have h1:=h1.p;yQ h1⟩
theorem bg {st:Stmt} {rest:List Stmt} (h1:Q (PS X st (tS X.K W g1))) (h2:Q (PSs X rest (tS X.K W g2))):Q (PSs X (st::rest) (tS X.K W (aw g1 g2))):=⟨have h1:=h1.p;have h2:=h2.p;vI (qo h1 h2) fun _ _ _=>Au⟩
theorem sO (ha:Q (PE X a (tE X.K W fa))):Q (PS X (.Return (some a) pos) (tS X.K W (aP fa))):=⟨have ha:=ha.p;dy (En ha) fun _ _ _=>Aw⟩
theorem fN {A B:List Stmt} (hc:Q (PT X c (tT X.K W ga))) (ha:Q (PSs X A (tS X.K W g1))) (hb:Q (PSs X B (tS X.K W g2))):Q (PS X (.If c A B pos) (tS X.K W (cF ga g1 g2))):=⟨have hc:=hc.p;have ha:=ha.p;have hb:=hb.p;dy (zd hc ha hb) fun _ _ _=>Az⟩
theorem wo (S:Cp X N gl vs cs ls lo gs) (i:Nat) {x:Str} {px:Pos} {iter:Expr} {body:List Stmt} {fi:FI} {g:FS} (hx:N[i]?=some x) (hl:ls.contains i=true) (hp:PassesOwn (model X.prog X.w) X.A X.env X.xe) (hi':Q (PI X (.Name x px) iter (tI X.K W fi))) (hb:Q (PSs X body (tS X.K W g))) (hs:∀x,foldedSetIterable iter X.env x=pure x):Q (PS X (.For (.Name x px) iter body [] pos) (tS X.K W (dz i fi g))):=⟨have hi':=hi'.p;have hb:=hb.p;B2 i hp (by rw [S.hN];exact S.nd) hi' hb S.calm (by rw [S.hN];exact hx) (S.loc i x hx hl).1 (S.loc i x hx hl).2 hs⟩
theorem lJ (S:Cp X N gl vs cs ls lo gs) (own:Bool) (i:Nat) {x:Str} {pos':Pos} (hi:N[i]?=some x) (hl:ls.contains i=true) (hs:swapsWith a (some (.Name x pos')) pos.line X.env=pure false) (ha:Q (PE X a (tE X.K W fa))):Q (PS X (.Assign [.Name x pos'] a pos) (tS X.K W (aD own i fa))):=⟨have ha:=ha.p;B1 own i (by rw [S.hN];exact S.nd) ha (by rw [S.hN];exact hi) (S.loc i x hi hl).1 hs (S.loc i x hi hl).2⟩
theorem jG (S:Cp X N gl vs cs ls lo gs) (i:Nat) {x:Str} {px pos':Pos} (hi:N[i]?=some x) (hv:vs.contains i=true) (ha:Q (PE X a (tE X.K W fa))) (hb:Q (PE X b (tE X.K W fb))) (hs:swapsWithSole [.Subscript (.Name x px) b pos'] a pos.line X.env=pure false) (hw:swappedStores [.Subscript (.Name x px) b pos'] a X.env=pure none) (h1:(assignEach [.Subscript (.Name x px) b pos'] X.env).map (·.2)=[assign (.Subscript (.Name x px) b pos') X.env]) (has:∀v,assign (.Subscript (.Name x px) b pos') X.env v=(do
   let ov <-holding [v] (eval (.Name x px) X.env)
   let iv <-holding [v,ov] (eval b X.env)
   standAt pos'
   holding [v,ov,iv] (setItem ov iv v)
   release [v,ov,iv] [])):Q (PS X (.Assign [.Subscript (.Name x px) b pos'] a pos) (tS X.K W (ez i fa fb))):=⟨T.cs_setI S i hi hv ha.p hb.p hs hw h1 has⟩
theorem Cy (S:Cp X N gl vs cs ls lo gs) (i:Nat) {x:Str} {apos cpos:Pos} (hi:N[i]?=some x) (hv:vs.contains i=true) (ha:Q (PE X a (tE X.K W fa))) (hs:starEach [a] X.env=[(false,eval a X.env)]) (hbase:attributeBase (.Name x p) "append" X.env (eval (.Name x p) X.env)=eval (.Name x p) X.env) (hline:(apos.endLine==cpos.line)=true) (hfew:((backTo cpos (starEach [a] X.env)).all (fun x=>!x.1)&&(backToKw cpos (keywordEach [] X.env)).all (fun x=>x.1.isSome)
   && decide ([a].length+([]:List Keyword).length+(if ([]:List Keyword).isEmpty then 0 else 1)<30))=true) (hsw:swapsWith (.Call (.Attribute (.Name x p) "append" apos) [a] [] cpos) none pos.line X.env=pure false):Q (PS X (.Expr (.Call (.Attribute (.Name x p) "append" apos) [a] [] cpos) pos) (tS X.K W (eV i fa))):=⟨T.cs_append S i hi hv ha.p hs hbase hline hfew hsw⟩
theorem w_df_nil :Q (PF X [] (tT X.K W0 aG)):=⟨D9 uu fun σ H Q h=>by
 obtain ⟨He,O,Fs,Γ,E,h⟩:=h;exact h H Fs (Same.refl _) E fun _ z=>.inl z⟩
theorem kh (h:Q (PT X c (tT X.K W0 ga))):Q (PF X [c] (tT X.K W0 ga)):=⟨have h:=h.p;ur h⟩
end
end TQ
namespace T
open PySem PySem.Spec L2
open PyProof.Rows hiding St
def tM:FS:=fun _=>.no
section
variable {X:Cx} {W:XW} {e:Expr} {fa:F1} {pos:Pos}
theorem ds_drop (ha:PE X e (tE X.K W fa)) (hs:swapsWith e none pos.line X.env=pure false):PS X (.Expr e pos) (tS X.K W (bw fa)):=dy (Eu ha hs) fun _ _ _=>xc
end
def Jq:PySem.PyData->String
 | .none => "NoneType"
 | .bool _ => "bool"
 | .int _ => "int"
 | .str _ => "str"
 | .list _ => "list"
 | .tuple _ => "tuple"
 | .dict _ => "dict"
def DJ (t c:String):Bool:=t==c||(t == "bool"&&c == "int")
def DQ (c:String) (fa:F1):F1:=aW fa fun p Γ=>.ok ⟨.leaf,.bool (DJ (Jq p.d) c)⟩ Γ
def sF (c:FB) (g:FS):Nat->Ev->fJ
 | 0,_=>.no
 | n+1,Γ=>match c Γ with
  | .ok true Γ1=>(match g Γ1 with
   | .nx Γ2=>sF c g n Γ2
   | .ct Γ2=>sF c g n Γ2
   | .bk Γ2=>.nx Γ2
   | .rt p=>.rt p
   | .er e Γ2=>.er e Γ2
   | .no=>.no)
  | .ok false Γ1=>.nx Γ1
  | .er e Γ1=>.er e Γ1
  | .no=>.no
def nU (n:Nat) (c:FB) (g:FS):FS:=sF c g n
section
variable {K:Fg} {W:XW} {σ:St} {H:Hp} {Q:VK} {D:fL} {fa fb:F1} {fl:FL}
theorem tQ {n:Nat} {c:FB} {g:FS} (h:tS K W (nU n c g) D σ H):Ee (tT K W c) (tS K W g) D σ H:=by
 obtain ⟨He,O,Fs,Γ,E,h⟩:=h;refine ⟨fun m σ' H'=>∃Γk Fk,EnvOk K He O Fk H' σ' Γk/\o6 K W He O D (sF c g m Γk),⟨n,Γ,Fs,E,h⟩,?_⟩
 rintro m σ' H' ⟨Γk,Fk,Ek,hw⟩
 cases m with
 | zero=>exact hw.elim
 | succ m=>
  refine ⟨He,O,Fk,Γk,Ek,?_⟩
  rw [sF] at hw
  cases e:c Γk with
  | er x Γ1=>rw [e] at hw;exact fun H2 Fs2 s E2=>hw σ' H2 Fs2 E2
  | no=>rw [e] at hw;exact hw
  | ok b Γ1=>
   rw [e] at hw;intro H2 Fs2 s2 E2 n2
   cases b with
   | false=>rw [if_neg Bool.false_ne_true];exact hw σ' H2 Fs2 E2
   | true=>
    rw [if_pos rfl];refine ⟨fun σ3 H3=>∃Γ3 F3,EnvOk K He O F3 H3 σ3 Γ3/\o6 K W He O D (sF c g m Γ3),fun σ3 H3 q=>⟨m,Nat.lt_succ_self _,q⟩,He,O,Fs2,Γ1,E2,?_⟩
    have hw:o6 K W He O D (match g Γ1 with | .nx Γ2=>sF c g m Γ2 | .ct Γ2=>sF c g m Γ2 | .bk Γ2=>.nx Γ2 | .rt p=>.rt p | .er e Γ2=>.er e Γ2 | .no=>.no):=hw
    cases eb:g Γ1 with
    | nx Γ'=>rw [eb] at hw;exact fun σ2 H2 F2 E2=>⟨Γ',F2,E2,hw⟩
    | ct Γ'=>rw [eb] at hw;exact fun σ2 H2 F2 E2=>⟨Γ',F2,E2,hw⟩
    | bk Γ'=>rw [eb] at hw;exact fun σ2 H2 F2 E2=>hw σ2 H2 F2 E2
    | rt p=>rw [eb] at hw;exact fun u H2 G r=>hw u H2 G r
    | er x Γ'=>rw [eb] at hw;exact fun σ2 H2 F2 E2=>hw σ2 H2 F2 E2
    | no=>rw [eb] at hw;exact hw
theorem EnvOk.chgF {He:Hp} {O:List Addr} {Fs:List (List Addr)} {Γ:Ev} {i:Nat} {ds:List PySem.PyData} (E:EnvOk K He O Fs H σ Γ) (h:Γ[i]?=some (some ⟨.lst .leaf,.list ds⟩)) :
  ∃l vs,σ[i]?=some (some (.ref l))/\H l=some (.lst vs)/\vs.length=ds.length/\(∀(j:Nat) u d,vs[j]?=some u->ds[j]?=some d->Rep K (bY H (O++Fs.flatten)) u d) /\
   ∀(vs':List V) (ds':List PySem.PyData),vs'.length=ds'.length->(∀(j:Nat) u d,vs'[j]?=some u->ds'[j]?=some d->Rep K (bY H (O++Fs.flatten)) u d)->EnvOk K He O Fs (bA H l (.lst vs')) σ (Γ.set i (some ⟨.lst .leaf,.list ds'⟩)):=by
 obtain ⟨hv,v,F,h1,E1,o1,sub⟩:=E.move h;have hi:i<Γ.length:=(List.getElem?_eq_some_iff.mp h).1
 obtain ⟨_,v0,F0,h10,h20,o0⟩:=E.slot i _ h;obtain ⟨l,vs,rfl,rfl,hp,hl,hr⟩:=o1.leaves;obtain ⟨l',vs',e0,e1,hp',hl',hr'⟩:=o0.leaves;rw [h1] at h10
 cases h10
 cases e0;rw [hp] at hp'
 cases hp'
 refine ⟨l,vs,h1,hp,hl,hr',fun ws ds' hw q=>?_⟩
 have hlF:l∈Fs.flatten:=sub l (mem_append_left _ (List.mem_singleton.mpr rfl))
 have hHe:He l=none:=E.fresh l hlF
 have E4:=E1.mutO (o:=.lst ws) (mem_append_left _ (List.mem_singleton.mpr rfl)) hp hHe
 have ownL:Own K ([l]++O++(Fs.set i []).flatten) (bA H l (.lst ws)) (.lst .leaf) [l] (.ref l) (.list ds'):=by
  refine Own.mkLeaves dI hw fun j u d a1 a2=>?_
  rw [GB (mem_append_left _ (mem_append_left _ (List.mem_singleton.mpr rfl)))];refine (q j u d a1 a2).mono (qm (Same.refl _) fun a ha=>.inl ?_)
  rcases List.mem_append.mp ha with z | z
  ·rcases List.mem_append.mp z with z | z
   ·rw [List.mem_singleton.mp z];exact mem_append_right _ hlF
   ·exact mem_append_left _ z
  ·exact mem_append_right _ (sub a (mem_append_right _ z))
 have fin:=EnvOk.put (i:=i) (p:=⟨.lst .leaf,.list ds'⟩) (v:=.ref l) E4 ownL rfl (fun a ha=>by rw [List.mem_singleton.mp ha];exact hHe) (by rw [length_set];exact hi)
 rw [set_set,set_set,yN h1] at fin;rw [e1] at h20;rw [yN h20] at fin;exact fin
end
def t6 (K:Fg):List V->Hp->VK->Prop:=fun xs H Q=>∃(p:Addr) (ns:List Int),xs=[.ref p]/\SqL K H p (ns.map V.int)/\ns.length<64/\∀l,H l=none->Q (.ref l) (bA H l (.lst ((PySem.W.sortI ns).map V.int)))
theorem GD:∀{ns:List Int} {us:List Value},Vals (ns.map V.int) us->IntsAre us ns
 | [],_,.nil=>.nil
 | n::ns,_,.cons r t=>by
  obtain ⟨tk,rfl⟩:=(show ∃t,_=Value.int n t from r)
  exact .cons _ _ (GD t)
theorem GS:∀{ns:List Int} {us:List Value},IntsAre us ns->Vals (ns.map V.int) us
 | _,_,.nil=>.nil
 | _,_,.cons _ _ t=>.cons ⟨_,rfl⟩ (GS t)
theorem oV {X:Cx}:CallR X (.builtin "sorted") (t6 X.K):=by
 intro pins s σ H xs us Q I rv h;obtain ⟨p,ns,rfl,hS,h64,q⟩:=h;obtain ⟨u,rfl,ru⟩:=rv.one
 cases ru;obtain ⟨its,r,pl,hz⟩:=I.list hS;have hI:=GD r
 have hl:its.length=ns.length:=by rw [<-r.length,length_map]
 refine sorted_ints pl.isList hI (by omega) fun out ns' a1 a2 a3=>?_
 have e:=PySem.W.eq_sortI a2 a3
 subst e;obtain ⟨n,ho⟩:=sortedAll_at s.heap its out;have hlen:(PySem.W.sortI ns).length=ns.length:=(PySem.W.sortI_perm ns).length_eq
 have hb:=jK (n:=ns.length) (by omega)
 refine ⟨.ref (s.heap.objs.size+1),bA H (s.heap.objs.size+1) (.lst ((PySem.W.sortI ns).map V.int)),I.laid (t':=s.toks) (fun b o e=>sortedAll_old e) (Nat.le_succ _) ⟨by rw [length_map,hlen];omega,out.toList,n,GS a1,by simpa [seqObj] using ho⟩,rfl,q _ (I.hok.fresh (Nat.le_succ _))⟩
theorem pe:∀{xs:List V} {us:List Value},xs.length=us.length->(∀(i:Nat) x u,xs[i]?=some x->us[i]?=some u->RelV x u)->Vals xs us
 | [],[],_,_=>.nil
 | x::xs,u::us,hl,h=>.cons (h 0 x u rfl rfl) (pe (by simpa using hl) fun i x u a b=>h (i+1) x u (by simpa using a) (by simpa using b))
 | [],_::_,hl,_=>by simp at hl
 | _::_,[],hl,_=>by simp at hl
def Jw (ta:TA):TE:=fun σ H Q=>ta σ H fun vs H1=>∃j:Int,vs=[.int j]/\-(2 ^ 62)<=j/\j<=sizeLine/\∀l,H1 l=none->Q (.ref l) (bA H1 l (.lst (eT 0 j.toNat)))
theorem kG {X:Cx} {a:Expr} {ta:TA} {p p2 pos pos2:Pos} (hg:Gl X "list") (hm:X.mg "list"=none) (hg2:Gl X "range") (hm2:X.mg "range"=none) (hc:X.calm=true) (ha:PA X [a] ta) (hs:starEach [a] X.env=[(false,eval a X.env)])
  (hs1:starEach [.Call (.Name "range" p2) [a] [] pos2] X.env=[(false,eval (.Call (.Name "range" p2) [a] [] pos2) X.env)]):PE X (.Call (.Name "list" p) [.Call (.Name "range" p2) [a] [] pos2] [] pos) (Jw ta):=by
 intro pins s σ H Q I h;refine Call_ (v9 I hg hm vw (PyProof.Rows.callWith_type1 ?_ hs1 rfl))
 rw [hs1];show wpAny _ _ (spliced ((false,eval (.Call (.Name "range" p2) [a] [] pos2) X.env)::[])) _ _ s
 refine Calls.spliced_cons (Call_ (v9 I hg2 hm2 boot_range (PyProof.Rows.callWith_type1 (bB (ha pos2 pins s σ H _ I h) fun us s1 ⟨vs,H1,I1,r1,q1⟩=>?_) hs rfl)))
 obtain ⟨j,e,q1,q2,q⟩:=q1;subst e;obtain ⟨u,rfl,ru⟩:=r1.one;obtain ⟨t,rfl⟩:=(show ∃t,u=Value.int j t from ru)
 refine call_range_1 (Calls.spliced_nil ?_)
 have hz:(sizeLine:Int)<2 ^ 62:=by decide
 refine call_list_range (n:=j.toNat) (I.ok.hd hc) (IsRange.new ..) (small_one (by omega) (by omega) q1 (by omega)) (by rw [rangeSize_one];split<;>omega) (by have:(sizeLine:Nat)=2 ^ 24:=rfl;omega) fun h' tk acc' c' hk ho hacc=>?_
 have I2:Inv X pins σ H1 { s1 with heap:=s1.heap.push { cls:=.type "range",data:=.fields #[.int 0 s1.toks,.int j t,.int 1 (s1.toks+1)] },toks:=s1.toks+1+1 }:=I1.kept fun b o e=>Heap.get?_push_of_some _ e
 have hv:Vals (eT 0 j.toNat) acc'.toList:=by
  refine pe (by have:=hacc.1;simp only [Array.length_toList,eT,length_map,length_range];omega) fun i x u e1 e2=>?_
  obtain ⟨t2,rfl⟩:=hacc.2 i u (by rw [<-Array.getElem?_toList];exact e2)
  unfold eT at e1;rw [getElem?_map] at e1
  cases e3:(List.range j.toNat)[i]? with
  | none=>rw [e3] at e1;cases e1
  | some k=>
   rw [e3] at e1;obtain ⟨k1,k2⟩:=List.getElem?_eq_some_iff.mp e3
   simp at k2
   subst k2
   cases e1;exact ⟨t2,by simp⟩
 refine ⟨.ref _,bA H1 _ (.lst (eT 0 j.toNat)),I2.laid (t':=tk) (fun b o e=>hk b o e) (Nat.le_refl _) ⟨?_,acc'.toList,c',hv,by simpa using ho⟩,rfl,q _ (I2.hok.fresh (Nat.le_refl _))⟩
 simp only [eT,length_map,length_range]
 omega
section
variable {K:Fg} {W:XW} {σ:St} {H:Hp} {Q:VK} {fa:F1} {fl:FL}
theorem AftL.newSc {He:Hp} {O:List Addr} {Fs Gs Fs1:List (List Addr)} {Γ1:Ev} {ps:List PV} {us:List V} {H1:Hp} {l:Addr} {vs:List V} {ds:List PySem.PyData} (A:AftL K He O Fs H σ Γ1 ps us H1 Gs Fs1) (nd:O.Nodup) (hl:H1 l=none) (hv:vs.length=ds.length) (hs:∀(i:Nat) v d,vs[i]?=some v->ds[i]?=some d->Sc v d) :
  Aft K He O Fs H σ Γ1 ⟨.lst .leaf,.list ds⟩ (.ref l) (bA H1 l (.lst vs)) [l] Fs1:=by
 refine ⟨A.same.trans (gC hl),A.env.dropL.hide (gC hl) (by simp) (by simpa using hl) (fun a ha=>by rw [List.mem_singleton.mp ha,dI];exact Option.some_ne_none _),fun a ha=>?_,?_⟩
 ·rcases List.mem_append.mp ha with z | z
  ·rw [List.mem_singleton.mp z];exact .inr (A.same.free hl)
  ·exact A.new a (mem_append_right _ z)
 ·exact Own.mkLeaves dI hv fun j u d e1 e2=>(hs j u d e1 e2).rep
def sq (fl:FL):F1:=fun Γ=>(fl Γ).bind fun ps Γ'=>match jn (ps.map (·.d)) with
 | some j=>if j<=sizeLine then .ok ⟨.lst .leaf,.list (cj 0 j.toNat)⟩ Γ' else .no
 | none=>.no
theorem Dj (h:tE K W (sq fl) σ H Q):Jw (tA K W fl) σ H Q:=by
 obtain ⟨He,O,Fs,Γ,E,h⟩:=h;refine ⟨He,O,Fs,Γ,E,?_⟩
 unfold sq at h
 cases e:fl Γ with
 | er c Γ'=>rw [e] at h;exact h
 | no=>rw [e] at h;exact h
 | ok ps Γ1=>
  rw [e] at h;intro vs H1 Gs Fs1 A;have h:Wants K W He O Fs H σ Q (match jn (ps.map (·.d)) with | some j=>if j<=sizeLine then .ok ⟨.lst .leaf,.list (cj 0 j.toNat)⟩ Γ1 else .no | none=>.no):=h
  cases er:jn (ps.map (·.d)) with
  | none=>rw [er] at h;exact h.elim
  | some j=>
   rw [er] at h;obtain ⟨e1,e2,e3⟩:=pD er;have r:=A.reps
   rw [e1] at r;have h:Wants K W He O Fs H σ Q (if j<=sizeLine then .ok ⟨.lst .leaf,.list (cj 0 j.toNat)⟩ Γ1 else .no):=h
   by_cases hj:j<=sizeLine
   ·rw [if_pos hj] at h
    have hv:vs=[.int j]:=by
     have hl:=r.1
     match vs,hl with
     | [v],_=>
      have q:=r.2 0 v (.int j) rfl rfl
      cases q;rfl
    refine ⟨j,hv,e2,hj,fun l hl=>h _ _ _ _ (A.newSc E.ndO hl (by simp [eT,cj]) fun i v d a1 a2=>?_)⟩
    have q:=G8 (K:=K) (H:=H1) (lo:=0) (n:=j.toNat)
    refine (q.2 i v d a1 a2).sc ?_
    unfold cj at a2;rw [getElem?_map] at a2
    cases e3:(List.range j.toNat)[i]? with
    | none=>rw [e3] at a2;cases a2
    | some k=>rw [e3] at a2;cases a2;rfl
   ·rw [if_neg hj] at h;exact h.elim
def ql:List PySem.PyData->Option (List Int)
 | []=>some []
 | .int i::r=>(ql r).map (i :: ·)
 | _=>none
theorem Ho:∀{ds:List PySem.PyData} {ns:List Int},ql ds=some ns->ds=ns.map .int
 | [],ns,h=>by cases h;rfl
 | .int i::r,ns,h=>by
  unfold ql at h
  cases e:ql r with
  | none=>rw [e] at h;cases h
  | some ms=>rw [e] at h;cases h;rw [Ho e];rfl
 | .none::_,_,h=>by cases h
 | .bool _::_,_,h=>by cases h
 | .str _::_,_,h=>by cases h
 | .list _::_,_,h=>by cases h
 | .tuple _::_,_,h=>by cases h
 | .dict _::_,_,h=>by cases h
def wI:List PySem.PyData->Option (List Int)
 | [.list ds]=>ql ds
 | _=>none
end
theorem Inv.turnedL {X:Cx} {pins:List (Addr×Obj)} {σ:St} {H:Hp} {s:Shared} {h':Heap} {t':Nat} {fp:List Addr} (I:L2.Inv X pins σ H s) (k:∀b o,b∉fp->s.heap.get? b=some o->h'.get? b=some o) (hf:∀b∈fp,jC X pins H b):L2.Inv X pins σ H { s with heap:=h',toks:=t' }:=by
 have nit:∀b u,H b=some u->b∉fp:=fun b u e z=>by have:=(hf b z).1;rw [e] at this;cases this
 have hL:X.env.locals∉fp:=fun z=>(hf _ z).2.1 rfl
 refine I.step (g':=s.gens) (d':=s.drawn) (ch:=fp) (fun b hb=>?_) (fun b o _ _ hc e _=>k b o hc e) (fun b o _ _ hc e _=>⟨o.slots,k b o hc e⟩) (fun _ _ _ _ n=>n)
  (fun b o hc e=>⟨o,k b o hc e⟩) (fun _ _ e=>e) (fun _ _ _ e=>e) (fun b ps e=>⟨#[],by rw [e];simp⟩) (fun m hm=>?_) (fun b u e=>?_) I.bare
 ·obtain ⟨f0,f1,f2,f3,f4,f5⟩:=hf b hb
  exact ⟨f3,f1,f4,f5⟩
 ·obtain ⟨o,es,ep,ho,r⟩:=hm
  exact ⟨o,es,ep,k _ o hL ho,r⟩
 ·refine (I.hok b u e).stay (fun c v hc q=>k c v ?_ q) (fun _ q=>q) fun _ _ q=>q
  rcases hc with z | z
  ·rw [z];exact nit b u e
  ·exact nit c _ z
theorem Inv.turnedT {X:Cx} {pins:List (Addr×Obj)} {σ:St} {H:Hp} {s:Shared} {h':Heap} {t':Nat} {fp:List Addr} {T:Addr} {xs:List V} (I:L2.Inv X pins σ H s) (k:∀b o,b∉fp->s.heap.get? b=some o->h'.get? b=some o) (hf:∀b∈fp,jC X pins H b) (hT:s.heap.objs.size<=T)
  (new:ObjOk X.prog X.w (bA H T (.tup xs)) h' T (.tup xs)):L2.Inv X pins σ (bA H T (.tup xs)) { s with heap:=h',toks:=t' }:=by
 have hTn:H T=none:=I.hok.fresh hT
 have nit:∀b u,H b=some u->b∉fp:=fun b u e z=>by have:=(hf b z).1;rw [e] at this;cases this
 have up:∀b u,H b=some u->bA H T (.tup xs) b=some u:=fun b u e=>by rw [cS (kj e hTn)];exact e
 have hL:X.env.locals∉fp:=fun z=>(hf _ z).2.1 rfl
 refine I.step (g':=s.gens) (d':=s.drawn) (ch:=fp) (fun b hb=>?_) (fun b o _ _ hc e _=>k b o hc e) (fun b o _ _ hc e _=>⟨o.slots,k b o hc e⟩) (fun b o _ e n=>by rw [cS (Nat.ne_of_lt (Nat.lt_of_lt_of_le (Heap.lt_size e) hT))];exact n)
  (fun b o hc e=>⟨o,k b o hc e⟩) (fun b _ e=>up b _ e) (fun b _ _ e=>up b _ e) (fun b ps e=>⟨#[],by rw [up b _ e];simp⟩) (fun m hm=>?_) (fun b u e=>?_) I.bare
 ·obtain ⟨f0,f1,f2,f3,f4,f5⟩:=hf b hb
  exact ⟨f3,f1,f4,f5⟩
 ·obtain ⟨o,es,ep,ho,r⟩:=hm
  exact ⟨o,es,ep,k _ o hL ho,r⟩
 ·by_cases hb:b=T
  ·subst hb
   rw [dI] at e
   cases e;exact new
  ·rw [cS hb] at e
   refine (I.hok b u e).stay (fun c v hc q=>k c v ?_ q) (fun c q=>up c _ q) fun c _ q=>up c _ q
   rcases hc with z | z
   ·rw [z];exact nit b u e
   ·exact nit c _ z
def Jk (K:Fg) (a:Addr):It:=
 ⟨fun i H=>∃xs x,SqL K H a xs/\xs[i]?=some x,fun i H x H'=>∃T v,x=.ref T/\H T=none/\H'=bA H T (.tup [.int i,v])/\∀xs,SqL K H a xs->xs[i]?=some v,fun i H=>∃xs,SqL K H a xs/\xs.length<=i⟩
theorem qv {P:Program} {w:World} {K:Fg} {elts:List Expr} {k:Nat} {pos:Pos} (a e it:Addr) (hei:e≠it) (hae:a≠e) (hai:a≠it) :
  vF P w K (.Tuple elts k pos) (Jk K a) [e,it] e (fun i h=>(∃old,IsEnum h e it i old)/\h.IsListIter it a i) where
 mem:=by simp
 obj:=fun i h st b hb=>by
  obtain ⟨⟨old,he⟩,o,e1,c,d⟩:=st;simp only [mem_cons,not_mem_nil,or_false] at hb
  rcases hb with rfl | rfl
  ·exact ⟨_,he,fun v z=>by
    have z':Data.fields _=Data.cell v:=z
    cases z'⟩
  ·exact ⟨o,e1,fun v z=>by rw [d] at z;cases z⟩
 keep:=fun i h h' st kk=>by
  obtain ⟨⟨old,he⟩,hit⟩:=st;exact ⟨⟨old,kk e (by simp) _ he⟩,hit.at fun o q=>kk it (by simp) o q⟩
 item:=by
  intro X hP hw hK hc i pins s σ H E I hf st hg;subst hP hw hK;obtain ⟨xs,x,hq,hx⟩:=hg;obtain ⟨its,rv,p,hz⟩:=I.list hq;obtain ⟨u,hu,ru⟩:=rv.get hx;have W:=WalksT.enumerate (prog:=X.prog) (w:=X.w) (A:=X.A) (I.ok.hd hc) e it a hei hae hai its.toArray
  have hil:i<its.toArray.size:=by
   have:=(List.getElem?_eq_some_iff.mp hu).1
   simpa using this
  refine W.item i s _ _ hil ⟨st.1,st.2,p.isList⟩ fun T vals h' tk hv hT hTT hMid kk=>?_
  obtain ⟨t,y,hy,rfl⟩:=hv;have ey:y=u:=by
   rw [List.getElem?_toArray,hu] at hy;exact (Option.some.inj hy).symm
  subst ey;refine ⟨.ref T,rfl,W.go elts k pos i T _ _ _ hMid fun h2 st2 kk2=>?_⟩
  have hTn:H T=none:=I.hok.fresh hT
  have hTw:T∉[e,it]:=W.apart i T _ hMid
  have kAll:∀b o,b∉[e,it]->s.heap.get? b=some o->h2.get? b=some o:=fun b o hb q=>kk2 b o hb (kk b o hb q)
  have I1:L2.Inv X pins σ H { s with heap:=h2,toks:=tk }:=Inv.turnedL I kAll hf
  have tT:h2.IsTuple T #[.int i t,y]:=by
   obtain ⟨o,q1,q2⟩:=hTT;exact ⟨o,kk2 T o hTw q1,q2⟩
  have hvs:Vals [.int (i:Int),x] [.int i t,y]:=.cons (show RelV (.int (i:Int)) (.int i t) from ⟨t,rfl⟩) (.cons ru .nil)
  have I3:L2.Inv X pins σ (bA H T (.tup [.int i,x])) { s with heap:=h2,toks:=tk }:=Inv.turnedT (t':=tk) I kAll hf hT ⟨by show 2<=sizeLine;decide,[.int i t,y],hvs,(show IsTup h2 T _ from tT)⟩
  refine ⟨.ref T,bA H T (.tup [.int i,x]),I3,rfl,⟨T,x,rfl,hTn,rfl,fun ys hy=>by rw [I.list_inj hy hq];exact hx⟩,⟨st2.1,st2.2.1⟩,fun b hb=>?_⟩
  have hbT:b≠T:=fun z=>by rw [z] at hb;exact hTw hb
  rw [cS hbT];exact (hf b hb).1
 done:=by
  intro X hP hw hK hc i pins s σ H E I hf st hg;subst hP hw hK;obtain ⟨xs,hq,hx⟩:=hg;obtain ⟨its,rv,p,hz⟩:=I.list hq;have hl:=rv.length
  obtain ⟨⟨old,he⟩,hit⟩:=st;refine wpAny_pyNext_enum_end (I.ok.hd hc) he hit p.isList (Array.getElem?_eq_none (by simp;omega)) fun h' hk=>⟨rfl,Inv.turnedL (t':=s.toks) I (fun b o hb q=>hk b o (fun z=>hb (by simp [z])) q) hf⟩
 self:=fun _ _ _ _ _ st h=>by
  obtain ⟨⟨old,he⟩,hit⟩:=st;exact wpAny_pyIter_enum he h
def u2 (K:Fg) (ta:TA):TI:=fun σ H R=>ta σ H fun vs H1=>∃a,vs=[.ref a]/\(∃xs,SqL K H1 a xs)/\R (Jk K a) H1
theorem GH {X:Cx} {elts:List Expr} {kt:Nat} {ptg:Pos} {l:Expr} {ta:TA} {p pos:Pos} (hg:Gl X "enumerate") (hm:X.mg "enumerate"=none) (ha:PA X [l] ta) (hs:starEach [l] X.env=[(false,eval l X.env)]) :
  PI X (.Tuple elts kt ptg) (.Call (.Name "enumerate" p) [l] [] pos) (u2 X.K ta):=by
 intro pins s σ H R I h;refine Call_ (v9 I hg hm boot_enumerate (PyProof.Rows.callWith_type1 (bB (ha pos pins s σ H _ I h) fun us s1 ⟨vs,H1,I1,r1,q1⟩=>?_) hs rfl))
 obtain ⟨a,e,⟨xs,hq⟩,q⟩:=q1;subst e;obtain ⟨u,rfl,ru⟩:=r1.one
 cases ru;obtain ⟨its,rv,pl,hz⟩:=I1.list hq;refine call_enumerate_list pl.isList fun h' he hit hsz hk=>?_
 have ha1:a<s1.heap.objs.size:=by
  obtain ⟨o,q1,_⟩:=pl.isList;exact Heap.lt_size q1
 refine wpAny_pyIter_enum (s:={ s1 with heap:=h' }) he ?_
 have I2:L2.Inv X pins σ H1 { s1 with heap:=h' }:=I1.kept (t':=s1.toks) hk
 refine ⟨s1.heap.objs.size+1,[s1.heap.objs.size+1,s1.heap.objs.size],_,Jk X.K a,H1,rfl,I2,qv a _ _ (Nat.succ_ne_self _) (Nat.ne_of_lt (Nat.lt_succ_of_lt ha1)) (Nat.ne_of_lt ha1),⟨⟨_,he⟩,hit⟩,fun b hb=>?_,q⟩
 simp only [mem_cons,not_mem_nil,or_false] at hb
 have hb2:s1.heap.objs.size<=b:=by
  rcases hb with z | z
  ·rw [z];exact Nat.le_succ _
  ·rw [z];exact Nat.le_refl _
 have f:=I1.fpOk hb2 (I1.hok.fresh hb2)
 exact f
def sy (i j:Nat) (fc:FB) (fe:F1) (s:Sh):Nat->List PySem.PyData->Ev->List PySem.PyData->Out (List PySem.PyData)
 | _,[],Γ,acc=>.ok acc Γ
 | k,d::r,Γ,acc=>match fc ((Γ.set i (some ⟨.leaf,.int (k:Nat)⟩)).set j (some ⟨.leaf,d⟩)) with
  | .ok true Γ1=>(match fe Γ1 with
   | .ok p Γ2=>if T.coer s p&&decide (acc.length<sizeLine) then sy i j fc fe s (k+1) r ((Γ2.set i none).set j none) (acc++[p.d]) else .no
   | _=>.no)
  | .ok false Γ1=>if acc.length<sizeLine then sy i j fc fe s (k+1) r ((Γ1.set i none).set j none) acc else .no
  | _=>.no
def vO:Option (Option PV)->Bool
 | some none=>true
 | _=>false
def ic (s:Sh) (i j:Nat) (fa:F1) (fc:FB) (fe:F1):F1:=fun Γ=>(aF fa Γ).bind fun t Γ1=>if vO Γ1[i]?&&vO Γ1[j]?&&!s.isView then (match sy i j fc fe s 0 t.ds Γ1 [] with
 | .ok ds Γ2=>.ok ⟨.lst s,.list ds⟩ Γ2
 | _=>.no) else .no
theorem iN {o:Option (Option PV)} (h:vO o=true):o=some none:=by
 unfold vO at h;split at h
 ·rfl
 ·cases h
section
variable {K:Fg} {He H H1 H2:Hp} {O G:List Addr} {Fs Fs1 Fs2:List (List Addr)} {σ:St} {Γ Γ1 Γ2:Ev}
theorem tG {Γ:Ev} {i j m:Nat} {p:PV} (h:((Γ.set i none).set j none)[m]?=some (some p)):m≠i/\m≠j/\Γ[m]?=some (some p):=by
 obtain ⟨h1,h2⟩:=Fb h;obtain ⟨h3,h4⟩:=Fb h2;exact ⟨h3,h1,h4⟩
theorem EnvOk.forget2 {i j:Nat} {x y:Option V} (E:EnvOk K He O Fs H (((bo [i,j] σ).set i x).set j y) Γ):EnvOk K He O Fs H (bo [i,j] σ) ((Γ.set i none).set j none):=by
 refine ⟨by have:=E.len1;simpa using this,by have:=E.len2;simpa using this,E.same,E.nd,E.inH,E.fresh,fun m q hq=>?_⟩
 obtain ⟨h1,h2,h3⟩:=tG hq;obtain ⟨w1,v',F',e1,e2,e3⟩:=E.slot m q h3;rw [getElem?_set_ne (Ne.symm h2),getElem?_set_ne (Ne.symm h1)] at e1;exact ⟨w1,v',F',e1,e2,e3⟩
theorem EnvOk.blank2 {i j:Nat} (E:EnvOk K He O Fs H σ Γ) (hi:Γ[i]?=some none) (hj:Γ[j]?=some none):EnvOk K He O Fs H (bo [i,j] σ) Γ:=by
 refine ⟨by rw [yS];exact E.len1,E.len2,E.same,E.nd,E.inH,E.fresh,fun m q hq=>?_⟩
 obtain ⟨w1,v',F',e1,e2,e3⟩:=E.slot m q hq;refine ⟨w1,v',F',?_,e2,e3⟩
 rw [Hj (fun z=>?_)]
 ·exact e1
 ·simp only [mem_cons,not_mem_nil,or_false] at z
  rcases z with z | z
  ·rw [z,hi] at hq;cases hq
  ·rw [z,hj] at hq;cases hq
theorem EnvOk.unblank2 {i j:Nat} (E:EnvOk K He O Fs H (bo [i,j] σ) Γ):EnvOk K He O Fs H σ Γ:=by
 refine ⟨by have:=E.len1;rw [yS] at this;exact this,E.len2,E.same,E.nd,E.inH,E.fresh,fun m q hq=>?_⟩
 obtain ⟨w1,v',F',e1,e2,e3⟩:=E.slot m q hq;exact ⟨w1,v',F',(EZ e1).2,e2,e3⟩
theorem mV {i:Nat} {a:Addr} (hi:i<Fs.length) (h:a∈(Fs.set i []).flatten):a∈Fs.flatten:=by
 have hF:Fs[i]?=some (Fs[i]'hi):=getElem?_eq_getElem _
 have:=(nX (G:=[]) hF).mem_iff.mp (mem_append_right _ h)
 simpa using this
structure Ed (K:Fg) (He:Hp) (O:List Addr) (Fs1:List (List Addr)) (H1:Hp) (σ:St) (i j:Nat) (s:Sh) (A0:Addr) (n:Nat) (ys:List V) (H:Hp) (Γk:Ev) (Fk Gs:List (List Addr)) (acc:List PySem.PyData):Prop where
 env:EnvOk K He (A0::Gs.flatten++O) Fk H (bo [i,j] σ) Γk
 same:Same H1 H
 at_:H A0=some (.lst ys)
 new:∀a∈Gs.flatten++Fk.flatten,a∈Fs1.flatten\/H1 a=none
 l1:ys.length=acc.length
 l2:Gs.length=acc.length
 own:∀(m:Nat) v d G,ys[m]?=some v->acc[m]?=some d->Gs[m]?=some G->Own K (A0::Gs.flatten++O++Fk.flatten) H s G v d
 len:Γk.length=n
end
section
variable {K:Fg} {W:XW} {σ:St} {H:Hp} {Q:VK} {fa fe:F1} {fc:FB} {s:Sh} {i j:Nat}
theorem me (hij:i≠j) (h:tE K W (ic s i j fa fc fe) σ H Q):fP [i,j] (u2 K (tA K W (ah fa ai))) (xZ K 2 (jX (bQ i) (jX (bQ j) ya))) (tT K W0 fc) (tE K W0 fe) σ H Q:=by
 obtain ⟨He,O,Fs,Γ,E,h⟩:=h;refine Eo ⟨He,O,Fs,Γ,E,?_⟩
 unfold ic aF at h
 cases e:fa Γ with
 | er c Γ1=>rw [e] at h;exact h
 | no=>rw [e] at h;exact h
 | ok p Γ1=>
  rw [e] at h;intro v H1 G Fs1 A;obtain ⟨sp,d⟩:=p
  cases d with
  | list ds=>
   have h:Wants K W He O Fs H σ Q ((if dD ⟨sp,.list ds⟩ ds then Out.ok (⟨ds,!sp.isView⟩:Jj) Γ1 else .no).bind fun t Γ1=>if vO Γ1[i]?&&vO Γ1[j]?&&!s.isView then (match sy i j fc fe s 0 t.ds Γ1 [] with | .ok ds Γ2=>.ok ⟨.lst s,.list ds⟩ Γ2 | _=>.no) else .no):=h
   cases hc:dD ⟨sp,.list ds⟩ ds with
   | false=>rw [hc] at h;exact h.elim
   | true=>
    rw [hc] at h;have h:Wants K W He O Fs H σ Q (if vO Γ1[i]?&&vO Γ1[j]?&&!s.isView then (match sy i j fc fe s 0 ds Γ1 [] with | .ok ds Γ2=>.ok ⟨.lst s,.list ds⟩ Γ2 | _=>.no) else .no):=h
    by_cases hn:(vO Γ1[i]?&&vO Γ1[j]?&&!s.isView)=true
    case neg=>rw [if_neg hn] at h;exact h.elim
    rw [if_pos hn] at h;simp only [Bool.and_eq_true,Bool.not_eq_true'] at hn
    obtain ⟨⟨hni,hnj⟩,hsv⟩:=hn;have hni:=iN hni
    have hnj:=iN hnj
    cases eg:sy i j fc fe s 0 ds Γ1 [] with
    | er c Γ'=>rw [eg] at h;exact h.elim
    | no=>rw [eg] at h;exact h.elim
    | ok ds' Γ2=>
     rw [eg] at h;have h:Wants K W He O Fs H σ Q (.ok ⟨.lst s,.list ds'⟩ Γ2):=h
     obtain ⟨p,vs,rfl,hq,hst,hr⟩:=A.own.items (O':=O++Fs1.flatten) hc lS A.disj
     have E1:=A.go
     have hlen:vs.length=ds.length:=hr.1
     have hi:i<Γ1.length:=(List.getElem?_eq_some_iff.mp hni).1
     have hj:j<Γ1.length:=(List.getElem?_eq_some_iff.mp hnj).1
     refine ⟨p,rfl,⟨vs,hq⟩,fun A0 hD=>?_⟩
     have hHeD:He A0=none:=E1.same.free hD
     have E0':EnvOk K He (A0::([]:List (List Addr)).flatten++O) Fs1 (bA H1 A0 (.lst [])) (bo [i,j] σ) Γ1:=
      (E1.blank2 hni hnj).hide (G:=[A0]) (gC hD) (by simp) (fun a ha=>by simp at ha;rw [ha];exact hD) (fun a ha=>by simp at ha;rw [ha,dI];exact Option.some_ne_none _)
     refine ⟨fun k m ys H'=>m=vs.length-k/\k<=vs.length/\∃Γk Fk Gs acc,Ed K He O Fs1 H1 σ i j s A0 Γ1.length ys H' Γk Fk Gs acc/\sy i j fc fe s k (ds.drop k) Γk acc=.ok ds' Γ2,⟨vs.length,by simp,Nat.zero_le _,Γ1,Fs1,[],[],⟨E0',gC hD,dI,fun a ha=>.inl (by simpa using ha),rfl,rfl,fun m v d G h1=>by simp at h1,rfl⟩,by simpa using eg⟩,?_⟩
     rintro k m ys H' ⟨rfl,hk,Γk,Fk,Gs,acc,g,eg'⟩
     refine ⟨g.at_,?_⟩
     have hPk:SqL K H' p vs:=g.same.seq hq
     by_cases hlt:k<vs.length
     case neg=>
      left
      have:ds.drop k=[]:=drop_eq_nil_of_le (by omega)
      rw [this] at eg';have eg'':(Out.ok acc Γk:Out (List PySem.PyData))=.ok ds' Γ2:=eg'
      injection eg'' with e1 e2
      subst e1;subst e2;refine ⟨⟨vs,hPk,by omega⟩,?_⟩
      obtain ⟨n1',_,n3'⟩:=List.nodup_append.mp g.env.ndO;refine h (.ref A0) H' (A0::Gs.flatten) Fk ⟨A.same.trans g.same,g.env.unblank2,fun a ha=>?_,?_⟩
      ·have up:a∈Fs1.flatten\/H1 a=none->a∈Fs.flatten\/H a=none:=fun z=>z.elim (fun y=>A.newF a y) fun y=>.inr (A.same.free y)
       rcases List.mem_append.mp ha with z | z
       ·rcases List.mem_cons.mp z with z | z
        ·exact up (.inr (by rw [z];exact hD))
        ·exact up (g.new a (mem_append_left _ z))
       ·exact up (g.new a (mem_append_right _ z))
      ·exact .lst hsv g.at_ g.l1 g.l2 n1' fun m v d G h1 h2 h3=>g.own m v d G h1 h2 h3
     case pos=>
      right
      have hv:vs[k]?=some vs[k]:=getElem?_eq_getElem hlt
      have hkd:k<ds.length:=by omega
      have hd:ds[k]?=some ds[k]:=getElem?_eq_getElem hkd
      have hdr:ds.drop k=ds[k]::ds.drop (k+1):=drop_eq_getElem_cons hkd
      rw [hdr] at eg';generalize hdk:ds[k]=d at hd eg'
      generalize hvk:vs[k]=v at hv
      simp only [sy] at eg'
      have hik:i<Γk.length:=by rw [g.len];exact hi
      have hjk:j<Γk.length:=by rw [g.len];exact hj
      have hsl:ys.length<sizeLine:=by
       rw [g.l1]
       cases ec:fc ((Γk.set i (some ⟨.leaf,.int (k:Nat)⟩)).set j (some ⟨.leaf,d⟩)) with
       | no=>rw [ec] at eg';cases eg'
       | er c Γ'=>rw [ec] at eg';cases eg'
       | ok b Γa=>
        rw [ec] at eg'
        cases b with
        | false=>
         dsimp only at eg'
         split at eg'
         ·assumption
         ·cases eg'
        | true=>
         dsimp only at eg'
         split at eg'
         ·split at eg'
          ·rename_i z
           simp only [Bool.and_eq_true,decide_eq_true_eq] at z
           exact z.2
          ·cases eg'
         ·cases eg'
      refine ⟨⟨vs,v,hPk,hv⟩,hsl,?_⟩
      rintro x Hx ⟨T,v',rfl,hTn,rfl,hv'⟩
      have ev:v'=v:=Option.some.inj ((hv' vs hPk).symm.trans hv)
      subst ev;refine ⟨T,[.int k,v'],rfl,.of dI,rfl,.int k,[v'],rfl,v',[],rfl,rfl,?_⟩
      have sT:Same H' (bA H' T (.tup [.int k,v'])):=gC hTn
      have Eg:=g.env.grow sT
      have rep:Rep K (bY (bA H' T (.tup [.int k,v'])) (A0::Gs.flatten++O++Fk.flatten)) v' d:=(hr.2 k v' d hv hd).mono (qm (g.same.trans sT) fun a ha=>by
       rcases List.mem_append.mp ha with z | z
       ·rcases List.mem_append.mp z with z | z
        ·rcases List.mem_cons.mp z with z | z
         ·rw [z];exact .inr hD
         ·exact (g.new a (mem_append_left _ z)).elim (fun y=>.inl (mem_append_right _ y)) .inr
        ·exact .inl (mem_append_left _ z)
       ·exact (g.new a (mem_append_right _ z)).elim (fun y=>.inl (mem_append_right _ y)) .inr)
      have lF:Fk.length=Γk.length:=g.env.len2
      have Ep:=EnvOk.put (G:=[]) (i:=i) (p:=⟨.leaf,.int (k:Nat)⟩) (v:=.int k) Eg (.leaf (.int _)) rfl (fun a ha=>by simp at ha) hik
      have fk:∀a∈(Fk.set i []).flatten,a∈Fk.flatten:=fun a ha=>mV (by omega) ha
      have Eq:=EnvOk.put (G:=[]) (i:=j) (p:=⟨.leaf,d⟩) (v:=v') Ep (.leaf (rep.mono (qm (Same.refl _) fun a ha=>.inl (by
       rcases List.mem_append.mp ha with z | z
       ·exact mem_append_left _ z
       ·exact mem_append_right _ (fk a z))))) rfl (fun a ha=>by simp at ha) (by rw [length_set];exact hjk)
      have fkk:∀a∈((Fk.set i []).set j []).flatten,a∈Fk.flatten:=fun a ha=>fk a (mV (by rw [length_set];omega) ha)
      refine ⟨⟨by rw [length_set,length_set],fun m u hm=>?_⟩,?_⟩
      ·have:=(EZ hm).1
       simp only [mem_cons,not_mem_nil,or_false,not_or] at this
       rw [getElem?_set_ne (Ne.symm this.2),getElem?_set_ne (Ne.symm this.1)];exact hm
      refine ⟨He,_,_,_,Eq,?_⟩
      cases ec:fc ((Γk.set i (some ⟨.leaf,.int (k:Nat)⟩)).set j (some ⟨.leaf,d⟩)) with
      | no=>rw [ec] at eg';cases eg'
      | er c Γ'=>rw [ec] at eg';cases eg'
      | ok b Γa=>
       rw [ec] at eg';intro H3 Fs3 s3' E3 n3
       have s3:Same H' H3:=sT.trans s3'
       have lena:Γa.length=Γ1.length:=by
        have:=E3.len1
        rw [length_set,length_set,yS,E1.len1] at this;exact this.symm
       have n3':∀a∈Fs3.flatten,a∈Fs1.flatten\/H1 a=none:=fun a ha=>(n3 a ha).elim (fun z=>g.new a (mem_append_right _ (fkk a z))) fun z=>.inr (g.same.free (sT.free z))
       have n3k:∀a∈Fs3.flatten,a∈Fk.flatten\/H' a=none:=fun a ha=>(n3 a ha).elim (fun z=>.inl (fkk a z)) fun z=>.inr (sT.free z)
       cases b with
       | false=>
        dsimp only at eg'
        split at eg'
        case isFalse=>cases eg'
        refine g6 ⟨vs.length-(k+1),by omega,rfl,hlt,(Γa.set i none).set j none,Fs3,Gs,acc,⟨E3.forget2,g.same.trans s3,s3 _ _ g.at_,fun a ha=>?_,g.l1,g.l2,fun m v d G h1 h2 h3=>(g.own m v d G h1 h2 h3).mono s3 fun a ha=>?_,by rw [length_set,length_set];exact lena⟩,eg'⟩
        ·rcases List.mem_append.mp ha with z | z
         ·exact g.new a (mem_append_left _ z)
         ·exact n3' a z
        ·rcases List.mem_append.mp ha with z | z
         ·exact .inl (mem_append_left _ z)
         ·exact (n3k a z).elim (fun y=>.inl (mem_append_right _ y)) .inr
       | true=>
        refine g5 ⟨He,_,_,_,E3,?_⟩
        dsimp only at eg'
        cases ee:fe Γa with
        | no=>rw [ee] at eg';cases eg'
        | er c Γ'=>rw [ee] at eg';cases eg'
        | ok p Γb=>
         rw [ee] at eg';dsimp only at eg'
         split at eg'
         case isFalse=>cases eg'
         rename_i hco;simp only [Bool.and_eq_true,decide_eq_true_eq] at hco
         obtain ⟨hco,_⟩:=hco;intro u H4 G Fs4 A4;have lenb:Γb.length=Γ1.length:=by
          have:=A4.env.len1
          rw [length_set,length_set,yS,E1.len1] at this;exact this.symm
         have at4:H4 A0=some (.lst ys):=A4.same _ _ (s3 _ _ g.at_)
         have s14:Same H1 H4:=(g.same.trans s3).trans A4.same
         have new4:∀a∈G++Fs4.flatten,a∈Fs1.flatten\/H1 a=none:=fun a ha=>(A4.new a ha).elim (n3' a) fun z=>.inr ((g.same.trans s3).free z)
         have hG':∀a∈aV s G,a∈G:=fun a ha=>Hq ha
         obtain ⟨k1,k2,k3⟩:=List.nodup_append.mp A4.env.ndO;have ndk:(aV s G).Nodup:=by
          cases s<;>first | exact nodup_nil | exact k1
         have pmO:(A0::(Gs++[aV s G]).flatten++O).Perm (aV s G++(A0::Gs.flatten++O)):=by
          rw [wq];show (A0::((Gs.flatten++aV s G)++O)).Perm _
          refine List.Perm.trans ?_ List.perm_middle.symm
          refine List.Perm.cons _ ?_
          rw [append_assoc];exact mw _ _ _
         have E5:EnvOk K He (aV s G++(A0::Gs.flatten++O)) Fs4 H4 (((bo [i,j] σ).set i (some (.int k))).set j (some v')) Γb:=A4.env.drop (fun a ha=>by
          rcases List.mem_append.mp ha with z | z
          ·exact mem_append_left _ (hG' a z)
          ·exact mem_append_right _ z) (List.nodup_append.mpr ⟨ndk,k2,fun a ha b hb=>k3 a (hG' a ha) b hb⟩)
         have E6:=(E5.perm pmO).forget2
         have hDin:A0∈A0::(Gs++[aV s G]).flatten++O:=mem_cons_self
         have E7:=E6.mutO (o:=.lst (ys++[u])) hDin at4 hHeD
         have subH:∀a∈A0::(Gs++[aV s G]).flatten++O++Fs4.flatten,a∈G++(A0::Gs.flatten++O)++Fs4.flatten:=fun a ha=>by
          rcases List.mem_append.mp ha with z | z
          ·rcases List.mem_append.mp (pmO.mem_iff.mp z) with y | y
           ·exact mem_append_left _ (mem_append_left _ (hG' a y))
           ·exact mem_append_left _ (mem_append_right _ y)
          ·exact mem_append_right _ z
         have Dnot:∀{m:Nat} {Gj:List Addr},Gs[m]?=some Gj->A0∉Gj:=fun {m Gj} hj z=>by
          have nd:=g.env.ndO
          exact (List.nodup_cons.mp nd).1 (mem_append_left _ (nS hj z))
         refine ⟨at4,vs.length-(k+1),by omega,rfl,hlt,(Γb.set i none).set j none,Fs4,Gs++[aV s G],acc++[p.d],⟨E7,fun b o hb=>?_,dI,fun a ha=>?_,by simp [g.l1],by simp [g.l2],fun m w d' G' h1 h2 h3=>?_,by rw [length_set,length_set];exact lenb⟩,eg'⟩
         ·rw [cS (kj hb hD)]
          exact s14 b o hb
         ·rcases List.mem_append.mp ha with z | z
          ·rw [wq] at z
           rcases List.mem_append.mp z with z | z
           ·exact g.new a (mem_append_left _ z)
           ·exact new4 a (mem_append_left _ (hG' a z))
          ·exact new4 a (mem_append_right _ z)
         ·by_cases hm:m<ys.length
          ·rw [getElem?_append_left hm] at h1
           rw [getElem?_append_left (by rw [<-g.l1];exact hm)] at h2
           rw [getElem?_append_left (by rw [g.l2,<-g.l1];exact hm)] at h3
           have o1:=g.own m w d' G' h1 h2 h3
           have o2:=o1.mono (O':=A0::(Gs++[aV s G]).flatten++O++Fs4.flatten) (s3.trans A4.same) fun a ha=>by
            have up:a∈G++Fs4.flatten->a∈A0::Gs.flatten++O++Fk.flatten\/H' a=none:=fun z=>(A4.new a z).elim (fun y=>(n3k a y).elim (fun y=>.inl (mem_append_right _ y)) .inr) fun y=>.inr (s3.free y)
            rcases List.mem_append.mp (subH a ha) with z | z
            ·rcases List.mem_append.mp z with z | z
             ·exact up (mem_append_left _ z)
             ·exact .inl (mem_append_left _ z)
            ·exact up (mem_append_right _ z)
           exact o2.mut hsv (mem_append_left _ hDin) (Dnot h3) at4
          ·have hm':m=ys.length:=by
            have:=(List.getElem?_eq_some_iff.mp h1).1
            rw [length_append,length_singleton] at this;omega
           subst hm'
           rw [getElem?_append_right (Nat.le_refl _),Nat.sub_self] at h1;rw [getElem?_append_right (by rw [g.l1];exact Nat.le_refl _),show ys.length-acc.length=0 by rw [g.l1];exact Nat.sub_self _] at h2
           rw [getElem?_append_right (by rw [g.l2,g.l1];exact Nat.le_refl _),show ys.length-Gs.length=0 by rw [g.l2,g.l1];exact Nat.sub_self _] at h3
           cases h1
           cases h2
           cases h3;have o3:=A4.own.coer (s:=s) (O':=A0::(Gs++[aV s G]).flatten++O++Fs4.flatten) hco subH fun a ha hO=>by
            cases s with
            | leaf=>
             exfalso
             have hO':a∈(A0::Gs.flatten++O)++Fs4.flatten:=by
              rw [wq] at hO;simpa [aV] using hO
             rcases List.mem_append.mp hO' with z | z
             ·exact k3 a ha a z rfl
             ·have nd:=A4.env.nd
              exact (List.nodup_append.mp nd).2.2 a (mem_append_left _ ha) a z rfl
            | view=>cases hsv
            | lst s=>exact ha
            | tup ss=>exact ha
           refine o3.mut hsv (mem_append_left _ hDin) (fun z=>?_) at4
           exact k3 A0 (hG' A0 z) A0 mem_cons_self rfl
  | _=>exact h.elim
end
def zI (N:List Str) (is:List Nat) (cs:List Nat) (sc:Scope):Bool:=
 decide (sc.kind=.function)&&(sc.names.all fun p=>!decide (p.2=.free)||cs.any fun j=>decide (N[j]?=some p.1)) &&
 ((List.range N.length).all fun j=>is.contains j||(sc.names.all fun p=>!decide (some p.1=N[j]?)||(!decide (p.2=.local)&&!decide (p.2=.cell)))) &&
 (sc.names.all fun p=>!decide (p.2=.local)||decide (sc.names.lookup p.1=some .local)) &&
 (sc.names.all fun p=>!decide (p.2=.free)||sc.names.all fun q=>!decide (q.1=p.1)||!decide (q.2=.cell))
theorem E8 {X:Cx} {N gl:List Str} {vs cs ls lo gs is:List Nat} {scope:Scope} (S:Cp X N gl vs cs ls lo gs) (h:zI N is cs scope=true):dB X.N is X.env.scope scope:=by
 unfold zI at h;simp only [Bool.and_eq_true,decide_eq_true_eq,all_eq_true,Bool.or_eq_true,Bool.not_eq_true',decide_eq_false_iff_not,any_eq_true,mem_range] at h
 obtain ⟨⟨⟨⟨h0,h1⟩,h2⟩,h3⟩,h4⟩:=h;refine ⟨h0,fun n hn=>?_,fun j x e hj=>?_,fun x hx e=>?_,fun n hn hc=>?_⟩
 ·rcases h1 _ hn with z | ⟨j,hj,e⟩
  ·exact absurd rfl z
  ·exact S.cel j n e (by simpa using hj)
 ·rw [S.hN] at e
  rcases h2 j (List.getElem?_eq_some_iff.mp e).1 with z | z
  ·simpa using z
  ·exfalso
   rcases hj with y | y
   ·rcases z _ y with w | w
    ·exact w e.symm
    ·exact w.1 rfl
   ·rcases z _ y with w | w
    ·exact w e.symm
    ·exact w.2 rfl
 ·rcases h3 x hx with z | z
  ·exact absurd e z
  ·exact z
 ·rcases h4 _ hn with z | z
  ·exact z rfl
  ·rcases z _ hc with w | w
   ·exact w rfl
   ·exact w rfl
end T
namespace TQ
open PySem PySem.Spec L2 T
open PyProof.Rows hiding St
section
variable {X:Cx} {N gl:List Str} {vs cs ls lo gs:List Nat} {W:XW} {a b c e:Expr} {es:List Expr} {pos p:Pos} {fa fb fc:F1} {fl:FL} {ga gb:FB} {g1 g2 g:FS}
theorem vP {st:Stmt}:Q (PS X st (tS X.K W tM)):=⟨fun pins s σ H D I h=>by
 obtain ⟨He,O,Fs,Γ,E,h⟩:=h;exact h.elim⟩
theorem ki (ha:Q (PE X e (tE X.K W fa))) (hs:swapsWith e none pos.line X.env=pure false):Q (PS X (.Expr e pos) (tS X.K W (bw fa))):=⟨T.ds_drop ha.p hs⟩
theorem Fh {p2 pos2:Pos} (S:Cp X N gl vs cs ls lo gs) (j k:Nat) (hj:gl[j]?=some ("list":Str)) (hg:gs.contains j=true) (hm:X.mg "list"=none) (hk:gl[k]?=some ("range":Str)) (hg2:gs.contains k=true) (hm2:X.mg "range"=none) (ha:Q (PA X [a] (tA X.K W fl))) (hs:starEach [a] X.env=[(false,eval a X.env)]) (hs1:starEach [.Call (.Name "range" p2) [a] [] pos2] X.env=[(false,eval (.Call (.Name "range" p2) [a] [] pos2) X.env)]):Q (PE X (.Call (.Name "list" p) [.Call (.Name "range" p2) [a] [] pos2] [] pos) (tE X.K W (sq fl))):=⟨have ha:=ha.p;bh (kG (S.g hj hg).1 hm (S.g hk hg2).1 hm2 S.calm ha hs hs1) fun _ _ _=>Dj⟩
theorem Ff (n:Nat) {body:List Stmt} (hp:PassesOwn (model X.prog X.w) X.A X.env X.xe) (hc:Q (PT X c (tT X.K W ga))) (hb:Q (PSs X body (tS X.K W g))):Q (PS X (.While c body [] pos) (tS X.K W (nU n ga g))):=⟨have hc:=hc.p;have hb:=hb.p;dy (mr hp hc hb) fun _ _ _=>tQ⟩
theorem sU {scope:Scope} {x y:Str} {px py pt cpos:Pos} {kt:Nat} {elt:Expr} {ifs:List Expr} {fe:F1} {fc:FB} {vs' cs' lo' gs':List Nat} (S:Cp X N gl vs cs ls lo gs) (s:Sh) (i j k:Nat) (hij:(i != j)=true) (hx:N[i]?=some x) (hy:N[j]?=some y) (hk:gl[k]?=some ("enumerate":Str)) (hg:gs.contains k=true) (hm:X.mg "enumerate"=none) (h1:zI N [i,j] cs scope=true) (h2:jb N gl vs' cs' [i,j] lo' gs' scope=true) (ha:Q (PE X a (tE X.K W fa))) (hs1:starEach [a] X.env=[(false,eval a X.env)]) (hc:nT X N gl vs' cs' [i,j] lo' gs' fun Y=>Q (PF Y ifs (tT Y.K W0 fc))) (he:nT X N gl vs' cs' [i,j] lo' gs' fun Y=>Q (PE Y elt (tE Y.K W0 fe))) (hs:∀x,foldedSetIterable (.Call (.Name "enumerate" p) [a] [] cpos) X.env x=pure x):Q (PE X (.ListComp elt [⟨.Tuple [.Name x px,.Name y py] kt pt,.Call (.Name "enumerate" p) [a] [] cpos,ifs,0⟩] scope pos) (tE X.K W (ic s i j fa fc fe))):=⟨by
 have ha:=ha.p
 have hc:=fun Y S F=>(hc Y S F).p
 have he:=fun Y S F=>(he Y S F).p
 have B:=fun cells C s₀ H₀ ex=>S.blk h2 cells C s₀ H₀ ex
 have L:=fun cells C s₀ H₀ ex=>(B cells C s₀ H₀ ex).loc i x hx (by simp)
 have L2':=fun cells C s₀ H₀ ex=>(B cells C s₀ H₀ ex).loc j y hy (by simp)
 have hN:X.N.Nodup:=by rw [S.hN];exact S.nd
 exact bh (GG (E8 S h1) S.calm (GH (S.g hk hg).1 hm (da_cons ha da_nil hs1) hs1)
  (fun cells C s₀ H₀ ex=>Em (X:=blk X scope cells C s₀ H₀ ex) S.calm (yM (nW (X:=blk X scope cells C s₀ H₀ ex) (i:=i) hN (by show X.N[i]?=_;rw [S.hN];exact hx) (L cells C s₀ H₀ ex).1 (L cells C s₀ H₀ ex).2) (yM (nW (X:=blk X scope cells C s₀ H₀ ex) (i:=j) hN (by show X.N[j]?=_;rw [S.hN];exact hy) (L2' cells C s₀ H₀ ex).1 (L2' cells C s₀ H₀ ex).2) Es)))
  (fun cells C s₀ H₀ ex=>hc _ (B cells C s₀ H₀ ex) ⟨rfl,rfl,rfl,rfl,rfl,rfl⟩) (fun cells C s₀ H₀ ex=>he _ (B cells C s₀ H₀ ex) ⟨rfl,rfl,rfl,rfl,rfl,rfl⟩) hs) fun _ _ _=>me (by simpa using hij)⟩
end
end TQ
namespace L2
open PySem PySem.Spec PyProof.Rows
section
variable {κ:Type} [DecidableEq κ]
def dt (kvs:List (κ×V)) (k:κ):Option V:=(kvs.find? fun kv=>decide (kv.1=k)).map (·.2)
def d6 (kvs:List (κ×V)) (k:κ) (v:V):List (κ×V):=
 if (kvs.any fun kv=>decide (kv.1=k))=true then kvs.map (fun kv=>if kv.1=k then (kv.1,v) else kv) else kvs++[(k,v)]
theorem CQ {p:κ×V} {r:List (κ×V)} {k:κ} (e:p.1=k):dt (p::r) k=some p.2:=by simp [dt,find?_cons,e]
theorem CP {p:κ×V} {r:List (κ×V)} {k:κ} (e:¬p.1=k):dt (p::r) k=dt r k:=by simp [dt,find?_cons,e]
theorem Hf (k:κ):∀kvs:List (κ×V),(kvs.any fun kv=>decide (kv.1=k))=(dt kvs k).isSome
 | []=>rfl
 | p::r=>by
  rw [List.any_cons];by_cases e:p.1=k
  ·simp only [CQ e,decide_eq_true e,Bool.true_or,Option.isSome_some]
  ·rw [CP e,decide_eq_false e,Bool.false_or];exact Hf k r
theorem HB (kvs:List (κ×V)) (k:κ) (v:V):(d6 kvs k v).length<=kvs.length+1:=by
 unfold d6;split
 ·rw [length_map];omega
 ·rw [length_append,length_cons,length_nil];omega
theorem ml {kvs:List (κ×V)} {k:κ} (v:V) (h:dt kvs k=none):d6 kvs k v=kvs++[(k,v)]:=by
 unfold d6;rw [Hf,h];exact if_neg (by decide)
theorem RelO.isSome_eq {o:Option V} {u:Option Value} (r:RelO o u):o.isSome=u.isSome:=by
 cases o with
 | none=>cases u with
  | none=>rfl
  | some _=>exact (show False from r).elim
 | some _=>cases u with
  | none=>exact (show False from r).elim
  | some _=>rfl
theorem KV.val {kvs:List (κ×V)} {vs:List (κ×Value)} (r:KV kvs vs) (k:κ):RelO (dt kvs k) (valueAt vs k):=by
 unfold KV at r;induction r with
 | nil=>exact True.intro
 | @cons p q ps qs h t ih=>
  obtain ⟨h1,h2⟩:=h;by_cases e:p.1=k
  ·have e':q.1=k:=h1.symm.trans e
   have b:valueAt (q::qs) k=some q.2:=by simp [valueAt,find?_cons,e']
   rw [CQ e,b];exact h2
  ·have e':¬q.1=k:=fun z=>e (h1.trans z)
   have b:valueAt (q::qs) k=valueAt qs k:=by simp [valueAt,find?_cons,e']
   rw [CP e,b];exact ih
theorem KV.any {kvs:List (κ×V)} {vs:List (κ×Value)} (r:KV kvs vs) (k:κ):(kvs.any fun kv=>decide (kv.1=k))=vs.any fun kv=>decide (kv.1=k):=by
 unfold KV at r;induction r with
 | nil=>rfl
 | cons h t ih=>rw [List.any_cons,List.any_cons,ih,h.1]
theorem KV.repl {kvs:List (κ×V)} {vs:List (κ×Value)} (r:KV kvs vs) (k:κ) {y:V} {u:Value} (ry:RelV y u) :
  KV (kvs.map fun kv=>if kv.1=k then (kv.1,y) else kv) (vs.map fun kv=>if kv.1=k then (kv.1,u) else kv):=by
 unfold KV at r ⊢
 induction r with
 | nil=>exact .nil
 | @cons p q ps qs h t ih=>
  rw [map_cons,map_cons];refine .cons ?_ ih
  obtain ⟨h1,h2⟩:=h;by_cases e:p.1=k
  ·rw [if_pos e,if_pos (h1.symm.trans e)];exact ⟨h1,ry⟩
  ·rw [if_neg e,if_neg (fun z=>e (h1.trans z))];exact ⟨h1,h2⟩
theorem KV.put {kvs:List (κ×V)} {vs:List (κ×Value)} (r:KV kvs vs) (k:κ) {y:V} {u:Value} (ry:RelV y u):KV (d6 kvs k y) (stored vs k u):=by
 unfold d6 stored;rw [r.any k];by_cases e:(vs.any fun kv=>decide (kv.1=k))=true
 ·rw [if_pos e,if_pos e];exact r.repl k ry
 ·rw [if_neg e,if_neg e];exact Paired.snoc r ⟨rfl,ry⟩
theorem KV.length {kvs:List (κ×V)} {vs:List (κ×Value)} (r:KV kvs vs):kvs.length=vs.length:=Paired.length r
end
theorem jU {P:Program} {w:World} {k:bR} {u:Value} (r:RelV (kV k) u):(jD P w).is k u=true:=by
 cases k with
 | inl i=>obtain ⟨t,e⟩:=(show ∃t,u=Value.int i t from r);subst e;exact mH P w i t
 | inr x=>obtain ⟨t,e⟩:=(show ∃t,u=Value.str x t from r);subst e;exact mG P w x t
theorem jV {P:Program} {w:World}:∀{ks:List bR} {us:List Value},Vals (ks.map kV) us->ItemsAre (jD P w) ks us
 | [],_,r=>by rw [map_nil] at r;cases r;exact .nil
 | k::ks,_,r=>by
  rw [map_cons] at r
  cases r with
  | cons h t=>exact .cons (jU h) (jV t)
abbrev KT (H:Hp):List (List bR×V)->List (List bR×Addr×Value)->Prop:=Paired fun p q=>p.1=q.1/\H q.2.1=some (.tup (p.1.map kV))/\RelV p.2 q.2.2
theorem KT.val {H:Hp} {kvs:List (List bR×V)} {xs:List (List bR×Addr×Value)} (r:KT H kvs xs) (k:List bR):RelO (dt kvs k) ((atKey xs k).map (·.2)):=by
 induction r with
 | nil=>exact True.intro
 | @cons p q ps qs h t ih=>
  obtain ⟨h1,_,h2⟩:=h;by_cases e:p.1=k
  ·have e':q.1=k:=h1.symm.trans e
   have b:atKey (q::qs) k=some q.2:=by simp [atKey,find?_cons,e']
   rw [CQ e,b];exact h2
  ·have e':¬q.1=k:=fun z=>e (h1.trans z)
   have b:atKey (q::qs) k=atKey qs k:=by simp [atKey,find?_cons,e']
   rw [CP e,b];exact ih
theorem KT.repl {H:Hp} {kvs:List (List bR×V)} {xs:List (List bR×Addr×Value)} (r:KT H kvs xs) (k:List bR) {y:V} {u:Value} (ry:RelV y u) :
  KT H (kvs.map fun kv=>if kv.1=k then (kv.1,y) else kv) (xs.map (putAt k u)):=by
 induction r with
 | nil=>exact .nil
 | @cons p q ps qs h t ih=>
  rw [map_cons,map_cons];refine .cons ?_ ih
  obtain ⟨h1,h2,h3⟩:=h;unfold putAt;by_cases e:p.1=k
  ·rw [if_pos e,if_pos (h1.symm.trans e)];exact ⟨h1,h2,ry⟩
  ·rw [if_neg e,if_neg (fun z=>e (h1.trans z))];exact ⟨h1,h2,h3⟩
theorem KT.put {H:Hp} {kvs:List (List bR×V)} {xs:List (List bR×Addr×Value)} (r:KT H kvs xs) (k:List bR) {b:Addr} {y:V} {u:Value} (hb:H b=some (.tup (k.map kV))) (ry:RelV y u) :
  KT H (d6 kvs k y) (storedH xs k b u):=by
 have e:(kvs.any fun kv=>decide (kv.1=k))=(atKey xs k).isSome:=by
  rw [Hf,(r.val k).isSome_eq,Option.isSome_map]
 unfold d6 storedH;rw [e];by_cases q:(atKey xs k).isSome=true
 ·rw [if_pos q,if_pos q];exact r.repl k ry
 ·rw [if_neg q,if_neg q];exact Paired.snoc r ⟨rfl,hb,ry⟩
theorem KT.keeps {H H':Hp} {kvs:List (List bR×V)} {xs:List (List bR×Addr×Value)} (r:KT H kvs xs) (ht:∀b ys,H b=some (.tup ys)->H' b=some (.tup ys)):KT H' kvs xs:=
 Paired.mapP r fun _ _ z=>⟨z.1,ht _ _ z.2.1,z.2.2⟩
section
variable {P:Program} {w:World} {H:Hp} {h:Heap} {a:Addr}
theorem y2 {u:HO} (ok:HOk P w H h) (e:Rd H a u):ObjOk P w H h a u:=e.ok ok
theorem mY {kvs:List (bR×V)} (ok:HOk P w H h) (e:Rd H a (.dK kvs)):kvs.length<=sizeLine/\(a==sysModules)=false/\∃vs,KV kvs vs/\h.DictOf (jD P w) a vs:=
 show ObjOk P w H h a (.dK kvs) from y2 ok e
theorem vi {kvs:List (bR×V)} (ok:HOk P w H h) (e:H a=some (.dK kvs)):kvs.length<=sizeLine/\(a==sysModules)=false/\∃vs,KV kvs vs/\h.DictOf (jD P w) a vs:=mY ok (.inl e)
theorem CI {ks:List bR} (ok:HOk P w H h) (e:H a=some (.tup (ks.map kV))):(tupleKind (jD P w)).is h ks a:=by
 obtain ⟨_,its,r,o,h1,h2,n,h3⟩:=(show ObjOk P w H h a (.tup (ks.map kV)) from ok a _ e);exact ⟨o,its.toArray,n,h1,h2,h3,by simpa using jV r⟩
theorem mX {kvs:List (List bR×V)} (ok:HOk P w H h) (e:Rd H a (.dT kvs)):kvs.length<=sizeLine/\(a==sysModules)=false /\
  ∃xs,KT H kvs xs/\h.DictOfH (tupleKind (jD P w)) a xs:=by
 obtain ⟨z,y,xs,r,o,es,ep,h1,h2,h3,h4,h5⟩:=(show ObjOk P w H h a (.dT kvs) from y2 ok e);refine ⟨z,y,xs,r,o,es,ep,h1,h2,h3,h4,fun x hx=>?_,h5⟩
 have all:∀{l:List (List bR×V)} {m:List (List bR×Addr×Value)},KT H l m->∀x∈m,(tupleKind (jD P w)).is h x.1 x.2.1:=by
  intro l m q;induction q with
  | nil=>intro x hx;exact nomatch hx
  | @cons p q ps qs hq t ih=>
   intro x hx;rcases List.mem_cons.mp hx with e | hx
   ·subst e
    exact CI ok (by rw [<-hq.1];exact hq.2.1)
   ·exact ih x hx
 exact all r x hx
theorem DS {kvs:List (List bR×V)} (ok:HOk P w H h) (e:H a=some (.dT kvs)):kvs.length<=sizeLine/\(a==sysModules)=false /\
  ∃xs,KT H kvs xs/\h.DictOfH (tupleKind (jD P w)) a xs:=mX ok (.inl e)
end
def DGet (H:Hp) (a:Addr) (y:V) (r:Option V):Prop:=
 (∃kvs k,Rd H a (.dK kvs)/\y=kV k/\r=dt kvs k)\/∃kvs k b,Rd H a (.dT kvs)/\y=.ref b/\H b=some (.tup (k.map kV))/\r=dt kvs k
def DPut (H:Hp) (a:Addr) (y v:V) (H':Hp):Prop:=
 (∃kvs k,H a=some (.dK kvs)/\y=kV k/\kvs.length<sizeLine/\H'=bA H a (.dK (d6 kvs k v))) \/
 ∃kvs k b,H a=some (.dT kvs)/\y=.ref b/\H b=some (.tup (k.map kV))/\kvs.length<sizeLine/\H'=bA H a (.dT (d6 kvs k v))
theorem DGet.k {H:Hp} {a:Addr} {kvs:List (bR×V)} {k:bR} (e:H a=some (.dK kvs)):DGet H a (kV k) (dt kvs k):=.inl ⟨kvs,k,.inl e,rfl,rfl⟩
theorem DPut.k {H:Hp} {a:Addr} {kvs:List (bR×V)} {k:bR} {v:V} (e:H a=some (.dK kvs)) (hl:kvs.length<sizeLine):DPut H a (kV k) v (bA H a (.dK (d6 kvs k v))):=.inl ⟨kvs,k,e,rfl,hl,rfl⟩
section
variable {X:Cx} {pins:List (Addr×Obj)} {σ:St} {H:Hp} {s:Shared} {a:Addr} {y v:V} {u r:Value} {o:Option V} {A:Around} {E:Value->Shared->Prop}
theorem Inv.big (I:Inv X pins σ H s):sysModules<s.heap.objs.size:=by
 have h:mainGlobals<s.heap.objs.size:=(I.mod.glob.keeps I.bk).lt
 exact Nat.lt_trans (by decide) h
theorem rU {Q:Value->Shared->Prop} (hu:A.units+1<cLine) (I:Inv X pins σ H s) (g:DGet H a y (some v)) (ry:RelV y u) (h:∀w' s',Inv X pins σ H s'->RelV v w'->Q w' s') :
  wpAny (model X.prog X.w) A (getItem (.ref a) u) Q E s:=by
 rcases g with ⟨kvs,k,e,ey,l⟩ | ⟨kvs,k,b,e,ey,eb,l⟩
 ·subst ey
  obtain ⟨z,hd,vs,rel,dd⟩:=mY I.hok e;obtain ⟨w',hw,rw'⟩:=RelO.some_of (v:=v) (o:=valueAt vs k) (by rw [l];exact rel.val k)
  exact wpAny_getItem_of (jU ry) dd.mapOf hw (h w' _ (I.tok _) rw')
 ·subst ey
  cases (show u=Value.ref b from ry)
  obtain ⟨z,hd,xs,rel,dd⟩:=mX I.hok e;obtain ⟨w',hw,rw'⟩:=RelO.some_of (v:=v) (o:=(atKey xs k).map (·.2)) (by rw [l];exact rel.val k)
  obtain ⟨p,hp,hp2⟩:=Option.map_eq_some_iff.mp hw;refine wpAny_getItem_heap (tupleKind_room_in1 hu) (CI I.hok eb) dd hp ?_
  rw [hp2];exact h w' _ (I.tok _) rw'
theorem Jb {Q:Value->Shared->Prop} (hu:A.units+1<cLine) (I:Inv X pins σ H s) (g:DGet H a y o) (ry:RelV y u) (h:∀s',Inv X pins σ H s'->Q (.bool o.isSome) s') :
  wpAny (model X.prog X.w) A (compareOp .In u (.ref a)) Q E s:=by
 rcases g with ⟨kvs,k,e,ey,l⟩ | ⟨kvs,k,b,e,ey,eb,l⟩
 ·subst ey
  obtain ⟨z,hd,vs,rel,dd⟩:=mY I.hok e;refine wpAny_in_of (jU ry) hd dd.mapOf ?_
  rw [<-(rel.val k).isSome_eq,<-l];exact h _ (I.tok _)
 ·subst ey
  cases (show u=Value.ref b from ry)
  obtain ⟨z,hd,xs,rel,dd⟩:=mX I.hok e;refine wpAny_in_heap (tupleKind_room_in1 hu) (CI I.hok eb) hd dd ?_
  have q:=(rel.val k).isSome_eq
  rw [Option.isSome_map] at q;rw [<-q,<-l];exact h _ (I.tok _)
theorem yl {Q:Value->Shared->Prop} (hu:A.units+1<cLine) (I:Inv X pins σ H s) (g:DGet H a y o) (ry:RelV y u) (h:∀s',Inv X pins σ H s'->Q (.bool (!o.isSome)) s') :
  wpAny (model X.prog X.w) A (compareOp .NotIn u (.ref a)) Q E s:=by
 rcases g with ⟨kvs,k,e,ey,l⟩ | ⟨kvs,k,b,e,ey,eb,l⟩
 ·subst ey
  obtain ⟨z,hd,vs,rel,dd⟩:=mY I.hok e;refine wpAny_notIn_of (jU ry) hd dd.mapOf ?_
  rw [<-(rel.val k).isSome_eq,<-l];exact h _ (I.tok _)
 ·subst ey
  cases (show u=Value.ref b from ry)
  obtain ⟨z,hd,xs,rel,dd⟩:=mX I.hok e;refine wpAny_notIn_heap (tupleKind_room_in1 hu) (CI I.hok eb) hd dd ?_
  have q:=(rel.val k).isSome_eq
  rw [Option.isSome_map] at q;rw [<-q,<-l];exact h _ (I.tok _)
theorem Gx {h':Heap} {t':Nat} {ob:HO} (I:Inv X pins σ H s) (mu:Eb (H a)) (hs:Heap.SameBut a s.heap h') (he:∃q,h'.get? a=some q) (new:ObjOk X.prog X.w (bA H a ob) h' a ob) :
  Inv X pins σ (bA H a ob) { s with heap:=h',toks:=t' }:=
 I.write (x:=a) (e:=a) mu (.inl rfl) (fun b q hb z=>(hs.2 b hb).trans z) he new
theorem vj {P:Program} {w:World} {H':Hp} {h':Heap} {kvs:List (bR×V)} {vs:List (bR×Value)} (z:kvs.length<=sizeLine) (hd:(a==sysModules)=false) (rel:KV kvs vs) (dd:h'.DictOf (jD P w) a vs) :
  ObjOk P w H' h' a (.dK kvs):=⟨z,hd,vs,rel,dd⟩
theorem rQ {H':Hp} {Q:Unit->Shared->Prop} (hu:A.units+1<cLine) (I:Inv X pins σ H s) (g:DPut H a y v H') (ry:RelV y u) (rv:RelV v r) (h:∀s',Inv X pins σ H' s'->Q () s') :
  wpAny (model X.prog X.w) A (setItem (.ref a) u r) Q E s:=by
 rcases g with ⟨kvs,k,e,ey,l,eH⟩ | ⟨kvs,k,b,e,ey,eb,l,eH⟩
 ·subst ey eH
  obtain ⟨z,hd,vs,rel,dd⟩:=vi I.hok e;have hz:vs.length<=sizeLine:=by rw [<-rel.length];exact z
  have hl:(d6 kvs k v).length<=sizeLine:=by have:=HB kvs k v;omega
  refine wpAny_setItem_pairs (hsz:=hz) (jU ry) dd fun h' dd' hs=>h _ ?_
  have he:∃q,h'.get? a=some q:=let ⟨q,_,_,hq,_⟩:=dd';⟨q,hq⟩
  exact Gx I (by rw [e];exact True.intro) hs he (vj hl hd (rel.put k rv) dd')
 ·subst ey eH
  cases (show u=Value.ref b from ry)
  obtain ⟨z,hd,xs,rel,dd⟩:=DS I.hok e;have hz:xs.length<=sizeLine:=by rw [<-Paired.length rel];exact z
  have hl:(d6 kvs k v).length<=sizeLine:=by have:=HB kvs k v;omega
  refine wpAny_setItem_heap (hsz:=hz) (tupleKind_room_in1 hu) (CI I.hok eb) dd fun h' dd' hs=>h _ ?_
  obtain ⟨q,es,ep,hq,h2,h3,h4,_,h5⟩:=dd'
  refine Gx I (by rw [e];exact True.intro) hs ⟨q,hq⟩ ⟨hl,hd,_,(rel.put k eb rv).keeps fun c ys ec=>?_,q,es,ep,hq,h2,h3,h4,h5⟩
  rw [cS (DF ec e nofun)];exact ec
end
def Ea (i:Expr):Prop:=∀ov iv,subscripted i false ov iv=operate [ov,iv] (getItem ov iv)
theorem wG {prog:Program} {w:World} {A:Around} {E:Value->Shared->Prop} {s:Shared} {env:Env} {value slice:Expr} {pos:Pos} {T id:String} {Q:Value->Shared->Prop}
  (hl:typeLookup (.type T) "__getitem__"=pure (some (.builtin id))) (hs:Ea slice)
  (h:wpAny (model prog w) A (eval value env) (fun o s₁=>wpAny (model prog w) A (eval slice env) (fun i s₂=>s₂.TypeIs o T/\wpAny (model prog w) A (getItem o i) Q E s₂) E s₁) E s) :
  wpAny (model prog w) A (eval (.Subscript value slice pos) env) Q E s:=by
 refine Subscript_ (wpAny_mono h (fun o s₁ h₁=>wpAny_mono h₁ (fun i s₂ h₂=>?_) fun _ _ x=>x) fun _ _ x=>x)
 obtain ⟨hT,h₂⟩:=h₂;unfold subscriptTail;refine wpAny_bind ?_
 rw [getitemInPython_of_ne hT.not_modules];refine wpAny_bind (wpAny_specialOf hT hl ?_)
 have fin:wpAny (model prog w) A (subscripted slice false o i) (fun r s₃=>wpAny (model prog w) A (letTemporaryGo value o r >>= fun _=>pure r) Q E s₃) E s₂:=by
  rw [hs o i];exact wpAny_operating (wpAny_mono h₂ (fun r s₃ h₃=>wpAny_bind (wpAny_letTemporaryGo (wpAny_pure h₃))) fun _ _ x=>x)
 first
  | exact wpAny_pure (wpAny_bind fin)
  | exact wpAny_bind (wpAny_pure (wpAny_bind fin))
  | exact wpAny_bind fin
theorem m4 {X:Cx} {pins:List (Addr×Obj)} {σ:St} {H:Hp} {s:Shared} {a:Addr} {y:V} {o:Option V} (I:Inv X pins σ H s) (g:DGet H a y o):s.TypeIs (.ref a) "dict":=by
 rcases g with ⟨kvs,k,e,_,_⟩ | ⟨kvs,k,b,e,_,_,_⟩
 ·obtain ⟨_,_,vs,_,dd⟩:=mY I.hok e
  exact dd.typeIs
 ·obtain ⟨_,_,xs,_,dd⟩:=mX I.hok e
  exact dd.typeIs
def tq (td ty:TE):TE:=fun σ H Q=>td σ H fun x H1=>ty σ H1 fun y H2=>∃a v,x=.ref a/\DGet H2 a y (some v)/\Q v H2
def z9 (ty td:TE):TE:=fun σ H Q=>ty σ H fun y H1=>td σ H1 fun x H2=>∃a o,x=.ref a/\DGet H2 a y o/\Q (.bl o.isSome) H2
def GO (ty td:TE):TE:=fun σ H Q=>ty σ H fun y H1=>td σ H1 fun x H2=>∃a o,x=.ref a/\DGet H2 a y o/\Q (.bl (!o.isSome)) H2
def pC (td ty tv:TE):TS:=fun D σ H=>tv σ H fun v H1=>td σ H1 fun x H2=>ty σ H2 fun y H3=>∃a H4,x=.ref a/\DPut H3 a y v H4/\D.nx σ H4
section
variable {X:Cx} {o i e value:Expr} {pos pos' tpos:Pos} {td ty tv:TE}
theorem xv (hu:X.A.units+1<cLine) (ho:PE X o td) (hi:PE X i ty) (hs:Ea i):PE X (.Subscript o i pos) (tq td ty):=by
 intro pins s σ H Q I h;refine wG PySem.F.slot_dict_getitem.lookup hs (bB (ho pins s σ H _ I h) fun u s1 ⟨x,H1,I1,rx,q1⟩=>bB (hi pins s1 σ H1 _ I1 q1) fun iv s2 ⟨y,H2,I2,ry,a,v,ex,g,q2⟩=>?_)
 subst ex;obtain rfl:u=Value.ref a:=rx
 exact ⟨m4 I2 g,rU hu I2 g ry fun w' s3 I3 rw'=>⟨v,H2,I3,rw',q2⟩⟩
theorem Ba (hu:X.A.units+1<cLine) (hi:PE X i ty) (ho:PE X o td):PC X .In i o (z9 ty td):=by
 intro pins s σ H Q I h;refine bB (hi pins s σ H _ I h) fun iv s1 ⟨y,H1,I1,ry,q1⟩=>bB (ho pins s1 σ H1 _ I1 q1) fun u s2 ⟨x,H2,I2,rx,a,ov,ex,g,q2⟩=>?_
 subst ex;obtain rfl:u=Value.ref a:=rx
 exact Jb hu I2 g ry fun s3 I3=>⟨.bl ov.isSome,H2,I3,rfl,q2⟩
theorem qP (hu:X.A.units+1<cLine) (hi:PE X i ty) (ho:PE X o td):PC X .NotIn i o (GO ty td):=by
 intro pins s σ H Q I h;refine bB (hi pins s σ H _ I h) fun iv s1 ⟨y,H1,I1,ry,q1⟩=>bB (ho pins s1 σ H1 _ I1 q1) fun u s2 ⟨x,H2,I2,rx,a,ov,ex,g,q2⟩=>?_
 subst ex;obtain rfl:u=Value.ref a:=rx
 exact yl hu I2 g ry fun s3 I3=>⟨.bl (!ov.isSome),H2,I3,rfl,q2⟩
theorem pM (hu:X.A.units+1<cLine) (ho:PE X o td) (hi:PE X i ty) (hv:PE X value tv) (hs:swapsWith value (some (.Subscript o i pos')) pos.line X.env=pure false) :
  PS X (.Assign [.Subscript o i pos'] value pos) (pC td ty tv):=by
 intro pins s σ H D I h;refine wpAny_Assign_Subscript (bB (hv pins s σ H _ I h) fun r s1 ⟨v,H1,I1,rv,q1⟩=>bB (ho pins s1 σ H1 _ I1 q1) fun u s2 ⟨x,H2,I2,rx,q2⟩=>bB (hi pins s2 σ H2 _ I2 q2) fun iv s3 ⟨y,H3,I3,ry,a,H4,ex,g,q3⟩=>?_) hs
 subst ex;obtain rfl:u=Value.ref a:=rx
 exact rQ hu I3 g ry rv fun s4 I4=>⟨σ,H4,I4,q3⟩
end
theorem mZ {P:Program} {w:World} {H:Hp} (h:Heap) (hb:sysModules<h.objs.size):ObjOk P w H (h.push { cls:=.type "dict",data:=.dict #[] }) h.objs.size (.dK []):=
 ⟨Nat.zero_le _,beq_eq_false_iff_ne.mpr (Ne.symm (Nat.ne_of_lt hb)),[],.nil,Heap.DictOf.new h⟩
def tp:TE:=fun _ H Q=>∀p,H p=none->Q (.ref p) (bA H p (.dK []))
section
variable {X:Cx} {pos:Pos}
theorem uA:PE X (.Dict [] [] pos) tp:=fun pins s σ H Q I h=>
 wpAny_Dict_empty ⟨.ref s.heap.objs.size,_,I.laid (a:=s.heap.objs.size) (o:=.dK []) (t':=s.toks) (fun _ _ q=>Heap.get?_push_of_some _ q) (Nat.le_refl _) (mZ s.heap I.big),rfl,h _ (I.hok.fresh (Nat.le_refl _))⟩
end
def GT:List (TE×TE)->St->Hp->(List (V×V)->Hp->Prop)->Prop
 | [],_,H,Q=>Q [] H
 | (tk,tv)::r,σ,H,Q=>tk σ H fun x H1=>tv σ H1 fun y H2=>GT r σ H2 fun ps H3=>Q ((x,y)::ps) H3
abbrev VV:List (V×V)->List (Value×Value)->Prop:=Paired fun p q=>RelV p.1 q.1/\RelV p.2 q.2
def FX (X:Cx) (pos:Pos) (keys:List (Option Expr)) (values:List Expr) (trs:List (TE×TE)):Prop:=
 ∀(pins:List (Addr×Obj)) (s:Shared) (σ:St) (H:Hp) (Q:List (V×V)->Hp->Prop),Inv X pins σ H s->GT trs σ H Q ->
  wpAny (model X.prog X.w) X.A (evalPairs (pairTrees keys values X.env pos)) (fun vs s'=>∃ps H',Inv X pins σ H' s'/\VV ps vs/\Q ps H') X.xe s
theorem xn {X:Cx} {pos:Pos}:FX X pos [] [] []:=fun pins s σ H Q I h=>pairTrees_nil_walk ⟨[],H,I,.nil,h⟩
theorem uj {X:Cx} {pos:Pos} {k v:Expr} {ks:List (Option Expr)} {vs:List Expr} {tk tv:TE} {trs:List (TE×TE)} (hk:PE X k tk) (hv:PE X v tv) (hr:FX X pos ks vs trs) :
  FX X pos (some k::ks) (v::vs) ((tk,tv)::trs):=fun pins s σ H Q I h=>
 pairTrees_cons_walk (bB (hk pins s σ H _ I h) fun u s1 ⟨x,H1,I1,rx,q1⟩=>bB (hv pins s1 σ H1 _ I1 q1) fun w2 s2 ⟨y,H2,I2,ry,q2⟩=>
  bB (hr pins s2 σ H2 _ I2 q2) fun ws s3 ⟨ps,H3,I3,rel,q3⟩=>⟨(x,y)::ps,H3,I3,.cons ⟨rx,ry⟩ rel,q3⟩)
def zD (kvs more:List (bR×V)):List (bR×V):=more.foldl (fun acc kv=>d6 acc kv.1 kv.2) kvs
theorem KV.merge:∀{more:List (bR×V)} {rs:List (bR×Value)} {kvs:List (bR×V)} {vs:List (bR×Value)},KV more rs->KV kvs vs->KV (zD kvs more) (merged vs rs):=by
 intro more rs kvs vs r;unfold KV at r;induction r generalizing kvs vs with
 | nil=>intro q;exact q
 | @cons p q ps qs h t ih=>
  intro r0;have e:KV (d6 kvs p.1 p.2) (stored vs q.1 q.2):=by
   have:=r0.put p.1 h.2
   rw [<-h.1];exact this
  exact ih e
theorem fh:∀(more kvs:List (bR×V)),(zD kvs more).length<=kvs.length+more.length
 | [],kvs=>by show kvs.length<=kvs.length+0;omega
 | p::r,kvs=>by
  have h1:=fh r (d6 kvs p.1 p.2)
  have h2:=HB kvs p.1 p.2
  show (zD (d6 kvs p.1 p.2) r).length<=_
  rw [length_cons];omega
theorem i6 {P:Program} {w:World}:∀{kvs:List (bR×V)} {ws:List (Value×Value)},VV (kvs.map fun kv=>(kV kv.1,kv.2)) ws->∃rs,Carries (jD P w) ws rs/\KV kvs rs
 | [],_,r=>by rw [map_nil] at r;cases r;exact ⟨[],True.intro,.nil⟩
 | p::kvs,_,r=>by
  rw [map_cons] at r
  cases r with
  | @cons a b as bs h t=>
   obtain ⟨rs,c,q⟩:=i6 (P:=P) (w:=w) t
   obtain ⟨b1,b2⟩:=b;exact ⟨(p.1,b2)::rs,⟨jU h.1,rfl,c⟩,.cons ⟨rfl,h.2⟩ q⟩
def yZ (trs:List (TE×TE)):TE:=fun σ H Q=>∀p,H p=none->GT trs σ (bA H p (.dK [])) fun ps H2=>H2 p=some (.dK [])/\∃kvs:List (bR×V),ps=kvs.map (fun kv=>(kV kv.1,kv.2))/\kvs.length<=15/\Q (.ref p) (bA H2 p (.dK (zD [] kvs)))
theorem xu {X:Cx} {pos:Pos} {keys:List (Option Expr)} {values:List Expr} {trs:List (TE×TE)} (h:FX X pos keys values trs) (hall:keys.all (·.isSome)=true) (hl:keys.length=values.length) (h0:keys≠[])
  (h15:keys.length<=15):PE X (.Dict keys values pos) (yZ trs):=by
 intro pins s σ H Q I q;have hn:=I.hok.fresh (Nat.le_refl s.heap.objs.size)
 have I1:=I.laid (a:=s.heap.objs.size) (o:=.dK []) (h':=s.heap.push { cls:=.type "dict",data:=.dict #[] }) (t':=s.toks) (fun _ _ q=>Heap.get?_push_of_some _ q) (Nat.le_refl _) (mZ s.heap I.big)
 refine wpAny_Dict_walk (knd:=jD X.prog X.w) hall hl h0 h15 (bB (h pins _ σ _ _ I1 (q _ hn)) fun ws s2 ⟨ps,H2,I2,rel,e,kvs,ep,lk,q2⟩=>?_)
 subst ep;obtain ⟨rs,c,rk⟩:=i6 (P:=X.prog) (w:=X.w) rel
 obtain ⟨z,hd,vs0,r0,dd⟩:=vi I2.hok e
 cases r0;refine ⟨rs,c,dd,fun h' dd' hs=>⟨.ref s.heap.objs.size,_,?_,rfl,q2⟩⟩
 have hz:(zD [] kvs).length<=sizeLine:=by
  have h1:=fh kvs []
  rw [length_nil] at h1;rw [sizeLine_eq];omega
 have he:∃q,h'.get? s.heap.objs.size=some q:=let ⟨q,_,_,hq,_⟩:=dd';⟨q,hq⟩
 exact Gx I2 (by rw [e];exact True.intro) hs he (vj hz hd (rk.merge .nil) dd')
end L2
namespace T
open PySem PySem.Spec L2
open PyProof.Rows hiding St
def cP (ns:List Int) (v:V):List (bR×V):=ns.map fun n=>((Sum.inl n:bR),v)
def t7:List V->Hp->VK->Prop:=fun xs H Q=>∃(p:Addr) (ns:List Int) (v:V),xs=[.ref p]/\H p=some (.dK (cP ns v))/\ns.length<64/\∀l,H l=none->Q (.ref l) (bA H l (.lst ((PySem.W.sortI ns).map V.int)))
theorem jW {P:Program} {w:World}:∀{ns:List Int} {v:V} {vs:List (bR×Value)} {us:List Value},KV (cP ns v) vs->us.length=ns.length->(∀(j:Nat) u,us[j]?=some u->∃k x,vs[j]?=some (k,x)/\(jD P w).is k u=true)->IntsAre us ns
 | [],_,_,[],.nil,_,_=>.nil
 | n::ns,v,_,u::us,.cons r t,hl,h=>by
  obtain ⟨k,x,e,hk⟩:=h 0 u rfl
  cases e;have rk:(Sum.inl n:bR)=k:=r.1
  have hs:∃t,u=Value.int n t:=by
   rcases vS (show iL _ u=true from hk) with ⟨i,t,e1,e2⟩ | ⟨y,t,e1,e2⟩
   ·rw [<-rk] at e1
    injection e1 with e1
    exact ⟨t,by rw [e2,e1]⟩
   ·rw [<-rk] at e1
    cases e1
  obtain ⟨t',rfl⟩:=hs;exact .cons _ _ (jW t (by simpa using hl) fun j u e=>h (j+1) u (by simpa using e))
 | [],_,_,_::_,_,hl,_=>by simp at hl
 | _::_,_,_,[],_,hl,_=>by simp at hl
theorem oW {X:Cx} (hc:X.calm=true):CallR X (.builtin "sorted") t7:=by
 intro pins s σ H xs us Q I rv h;obtain ⟨p,ns,v,rfl,hS,h64,q⟩:=h;obtain ⟨u,rfl,ru⟩:=rv.one
 cases ru;obtain ⟨hz,lo,vs,r,hD⟩:=vi I.hok hS;obtain ⟨ep,hat⟩:=hD.dictAt;have hl:vs.length=ns.length:=by rw [<-r.length];simp [cP]
 have hb:=jK (n:=ns.length) (by omega)
 refine Calls.call_function_entry kind_sorted plain_sorted entry_sorted (args_sorted1 _) ?_
 unfold Builtin.«sorted»
 refine wpAny_bind (m:=checkCount "sorted" 1 1 _) (wpAny_pure ?_)
 refine wpAny_bind (PySem.W.kdu_collect (PySem.W.kdl_dict (knd:=jD X.prog X.w) (kvs:=vs) (ep:=ep) lo) (I.ok.hd hc) hat (by rw [hl];omega) fun h' tk acc hk hacc=>?_)
 have hla:acc.toList.length=ns.length:=by rw [Array.length_toList,hacc.1,hl]
 have hI:IntsAre acc.toList ns:=jW (P:=X.prog) (w:=X.w) r hla fun j u e=>hacc.2 j u (by rw [<-Array.getElem?_toList];exact e)
 refine wpAny_bind (wpAny_newList ?_ (by rw [hla];omega))
 have hoL:(h'.push { cls:=.type "list",data:=.seq acc.toList.toArray }).get? h'.objs.size=some (seqObj "list" acc.toList.toArray 0):=Heap.get?_push_size _ rfl
 refine wpAny_bind (wpAny_holding (wpAny_call_entry slot_list_sort ⟨_,hoL,rfl⟩ entry_list_sort (list_sort_tree hoL hI (by rw [hla];exact h64) fun out ns' a1 a2 a3=>⟨_,rfl,?_⟩) (args_list_sort _)))
 have e:=PySem.W.eq_sortI a2 a3
 subst e;have hlen:(PySem.W.sortI ns).length=ns.length:=(PySem.W.sortI_perm ns).length_eq
 obtain ⟨n,ho⟩:=sortedHeap_at (out:=out) hoL
 have I1:L2.Inv X pins σ H { s with heap:=h',toks:=tk }:=I.kept (t':=tk) hk
 have kk:∀b o,h'.get? b=some o->(sortedHeap (h'.push { cls:=.type "list",data:=.seq acc.toList.toArray }) h'.objs.size acc.toList out).get? b=some o:=fun b o e=>by
  have hlt:=Heap.lt_size e
  rw [sortedHeap_old (Nat.ne_of_lt hlt) (by rw [Heap.size_push];exact Nat.lt_succ_of_lt hlt)]
  exact Heap.get?_push_of_some _ e
 exact wpAny_pure ⟨_,rfl,.ref h'.objs.size,bA H h'.objs.size (.lst ((PySem.W.sortI ns).map V.int)),I1.laid (t':=tk) kk (Nat.le_refl _) ⟨by rw [length_map,hlen];omega,out.toList,n,GS a1,by simpa [seqObj] using ho⟩,rfl,q _ (I1.hok.fresh (Nat.le_refl _))⟩
def o7:PySem.PyData->Bool
 | .none=>true
 | _=>false
def bx (neg:Bool):PySem.PyData->PySem.PyData->Option PySem.PyData
 | a,.none=>some (.bool (if neg then !o7 a else o7 a))
 | _,_=>none
theorem mE {K:Fg} {H:Hp} {x:V} {a:PySem.PyData} (r:Rep K H x a):decide (x=V.non)=o7 a:=by
 cases r<;>simp [o7]
theorem xV {K:Fg}:GOp K (fun x y H Q=>y=.non/\Q (.bl (decide (x=.non))) H) (bx false):=by
 intro x y H Q a b d ra rb e k
 cases rb<;>simp only [bx] at e<;>try cases e
 exact ⟨rfl,by rw [mE ra];exact k _ (.bl _)⟩
theorem u4 {K:Fg}:GOp K (fun x y H Q=>y=.non/\Q (.bl (!decide (x=.non))) H) (bx true):=by
 intro x y H Q a b d ra rb e k
 cases rb<;>simp only [bx] at e<;>try cases e
 exact ⟨rfl,by rw [mE ra];exact k _ (.bl _)⟩
theorem mj {X:Cx} (R:Rm X):Ck X .Is (fun x y H Q=>y=.non/\Q (.bl (decide (x=.non))) H) (bx false):=⟨Bj,xV⟩
theorem wm {X:Cx} (R:Rm X):Ck X .IsNot (fun x y H Q=>y=.non/\Q (.bl (!decide (x=.non))) H) (bx true):=⟨xx,u4⟩
def JV:PySem.PyData->PySem.PyData->Option PySem.PyData
 | .str i,.str j=>if i.length+j.length<=sizeLine then some (.str (i++j)) else none
 | _,_=>none
def gx (fa fb:F1):F1:=aW fa fun p=>aW fb fun q=>fun Γ=>match p.d,q.d with
 | .list xs,.list ys=>if dD p xs&&dD q ys&&decide (xs.length+ys.length<=sizeLine) then .ok ⟨.lst .leaf,.list (xs++ys)⟩ Γ else .no
 | _,_=>.no
def JY (fa fb:F1):F1:=aW fa fun p=>aW fb fun q=>fun Γ=>match p.d,q.d with
 | .tuple xs,.tuple ys=>if !p.s.isView&&dD q ys&&!xs.isEmpty&&decide (xs.length+ys.length<=sizeLine) then .ok ⟨.leaf,.tuple (xs++ys)⟩ Γ else .no
 | _,_=>.no
def IW (fa fb:F1):F1:=aW fa fun p=>aW fb fun q=>fun Γ=>match p.d,q.d with
 | .tuple xs,.int k=>if !p.s.isView&&decide (1<=k)&&decide (k<=xs.length) then .ok ⟨.leaf,.tuple (xs.drop k.toNat)⟩ Γ else .no
 | _,_=>.no
def ub (K:Fg):R2:=fun x y H Q=>∃l b xs zs,x=.ref l/\y=.ref b/\SqL K H l xs/\SqL K H b zs/\xs.length+zs.length<=sizeLine/\∀p,H p=none->Q (.ref p) (bA H p (.lst (xs++zs)))
theorem yq {prog:Program} {w:World} {A:Around} {E:Value->Shared->Prop} {s:Shared} {l b:Addr} {vs ws:List Value} {Q:Value->Shared->Prop} (hl:s.heap.IsList l vs.toArray) (hb:s.heap.IsList b ws.toArray) (hz:vs.length+ws.length<=sizeLine)
  (h:Q (.ref s.heap.objs.size) { s with heap:=s.heap.push { cls:=.type "list",data:=.seq (vs++ws).toArray } }):wpAny (model prog w) A (binaryOp .Add (.ref l) (.ref b)) Q E s:=by
 obtain ⟨⟨cls,dd,data,sl⟩,ho,hc,n,hd⟩:=id hl;obtain ⟨⟨cls2,dd2,data2,sl2⟩,ho2,hc2,n2,hd2⟩:=id hb;simp only at hc hd hc2 hd2
 subst hc hd hc2 hd2;have e:vs.toArray++ws.toArray=(vs++ws).toArray:=by simp
 rw [<-e] at h;exact concat_meets ⟨_,ho,rfl⟩ ⟨_,ho2,rfl⟩ noFill_list_add seq_list_add PySem.F.slot_list_add PySem.F.entry_list_add (PySem.F.args_list_add_2 _ _) (list_addW l b vs.toArray ws.toArray n n2 dd dd2 sl sl2 (by simpa using hz)) ⟨ho,ho2,h⟩
theorem xB {X:Cx}:OpR X (binaryOp .Add) (ub X.K):=by
 intro pins s σ H x y v u Q I rx ry h;obtain ⟨l,b,xs,zs,rfl,rfl,hH,hB,hz,q⟩:=h
 cases rx
 cases ry;obtain ⟨its,r,pl,z⟩:=I.list hH;obtain ⟨its2,r2,pl2,z2⟩:=I.list hB;refine yq pl.isList pl2.isList (by rw [<-r.length,<-r2.length];exact hz) ?_
 exact ⟨.ref _,_,I.lnew (t':=s.toks) (r.append r2) (by rw [length_append];exact hz),rfl,q _ I.fresh⟩
section
variable {K:Fg} {W:XW} {σ:St} {H:Hp} {Q:VK} {D:fL} {fa fb:F1} {fl:FL}
theorem Reps.app {vs ws:List V} {ds es:List PySem.PyData} (h:Reps K H vs ds) (h':Reps K H ws es):Reps K H (vs++ws) (ds++es):=by
 refine ⟨by rw [length_append,length_append,h.1,h'.1],fun i v d e1 e2=>?_⟩
 by_cases hi:i<vs.length
 ·rw [getElem?_append_left hi] at e1
  rw [getElem?_append_left (by rw [<-h.1];exact hi)] at e2
  exact h.2 i v d e1 e2
 ·rw [getElem?_append_right (by omega)] at e1
  rw [getElem?_append_right (by rw [<-h.1];omega),<-h.1] at e2
  exact h'.2 _ v d e1 e2
theorem Reps.drop {vs:List V} {ds:List PySem.PyData} (k:Nat) (h:Reps K H vs ds):Reps K H (vs.drop k) (ds.drop k):=by
 refine ⟨by rw [length_drop,length_drop,h.1],fun i v d e1 e2=>?_⟩
 rw [List.getElem?_drop] at e1 e2
 exact h.2 _ v d e1 e2
theorem B3 {G2 G1 O F:List Addr} (nd:(G2++(G1++O)++F).Nodup):(∀a∈G1,a∉O++F)/\(∀a∈G2,a∉O++F):=by
 rw [append_assoc,append_assoc] at nd;obtain ⟨_,n2,n3⟩:=List.nodup_append.mp nd;obtain ⟨_,_,n4⟩:=List.nodup_append.mp n2;exact ⟨fun a ha z=>n4 a ha a z rfl,fun a ha z=>n3 a ha a (mem_append_right _ z) rfl⟩
theorem wH {G2 G1 O F:List Addr}:∀a∈O++F,a∈G2++(G1++O)++F:=fun a ha=>by
 rcases List.mem_append.mp ha with z | z
 ·exact mem_append_left _ (mem_append_right _ (mem_append_right _ z))
 ·exact mem_append_right _ z
theorem xM {He H1:Hp} {O:List Addr} {Fs Fs1:List (List Addr)} {Γ1:Ev} {vs:List V} {ds:List PySem.PyData} {p:Addr} (E:EnvOk K He O Fs1 H1 σ Γ1) (s:Same H H1) (n:∀a∈Fs1.flatten,a∈Fs.flatten\/H a=none)
  (hr:Reps K (bY H1 (O++Fs1.flatten)) vs ds) (hp:H1 p=none):Aft K He O Fs H σ Γ1 ⟨.leaf,.tuple ds⟩ (.ref p) (bA H1 p (.tup vs)) [] Fs1:=by
 refine ⟨s.trans (gC hp),by rw [nil_append];exact E.grow (gC hp),by rw [nil_append];exact n,.leaf ?_⟩
 rw [nil_append];have hn:p∉O++Fs1.flatten:=fun z=>E.inH p z hp
 exact .tup (.of (vN dI hn)) hr.1 fun i v d h1 h2=>(hr.2 i v d h1 h2).mono (qm (gC hp) fun a ha=>.inl ha)
theorem pS {He H1:Hp} {O:List Addr} {Fs Fs1:List (List Addr)} {Γ1:Ev} {v:V} {d:PySem.PyData} (E:EnvOk K He O Fs1 H1 σ Γ1) (s:Same H H1) (n:∀a∈Fs1.flatten,a∈Fs.flatten\/H a=none)
  (hr:Rep K (bY H1 (O++Fs1.flatten)) v d):Aft K He O Fs H σ Γ1 ⟨.leaf,d⟩ v H1 [] Fs1:=
 ⟨s,by rw [nil_append];exact E,by rw [nil_append];exact n,.leaf (by rw [nil_append];exact hr)⟩
theorem AF (h:tE K W (gx fa fb) σ H Q):vT (ub K) (tE K W fa) (tE K W fb) σ H Q:=by
 refine Cn (R:=fun v u H2=>ub K v u H2 Q) h fun He O Fs Γ2 p q v u H1 H2 G1 G2 Fs2 nd s1 s2 E new o1 o2 w=>?_
 obtain ⟨s,d⟩:=p;obtain ⟨s',d'⟩:=q;dsimp only at w o1 o2
 split at w
 ·rename_i xs ys
  cases hc:(dD ⟨s,.list xs⟩ xs&&dD ⟨s',.list ys⟩ ys&&decide (xs.length+ys.length<=sizeLine)) with
  | false=>rw [hc] at w;exact w.elim
  | true=>
   rw [hc] at w;simp only [Bool.and_eq_true,decide_eq_true_eq] at hc
   obtain ⟨⟨h1,h2⟩,h3⟩:=hc;obtain ⟨d1,d2⟩:=B3 E.nd;obtain ⟨p1,vs,rfl,q1,_,r1⟩:=o1.items (O':=O++Fs2.flatten) h1 wH d1
   obtain ⟨p2,ws,rfl,q2,_,r2⟩:=o2.items (O':=O++Fs2.flatten) h2 wH d2
   refine ⟨p1,p2,vs,ws,rfl,rfl,q1,q2,by rw [r1.1,r2.1];exact h3,fun p' hp'=>w _ _ _ _ (EI (E.drop (fun a ha=>mem_append_right _ (mem_append_right _ ha)) nd) (s1.trans s2) (fun a ha=>new a (mem_append_right _ (mem_append_right _ ha))) (r1.app r2) hp')⟩
 ·exact w.elim
end
theorem qE {K:Fg} {H:Hp} {ws:List V} {ns:List Int} (h:Reps K H ws (ns.map .int)):ws=ns.map V.int:=by
 obtain ⟨hwl,hw⟩:=h;apply ext_getElem?
 intro i;by_cases hi:i<ws.length
 ·have hi2:i<ns.length:=by rw [length_map] at hwl;omega
  have q:=hw i (ws[i]'hi) (.int (ns[i]'hi2)) (getElem?_eq_getElem _) (by rw [getElem?_map,getElem?_eq_getElem hi2];rfl)
  rw [getElem?_eq_getElem hi,getElem?_map,getElem?_eq_getElem hi2];generalize ws[i]'hi=u at q
  cases q;rfl
 ·rw [getElem?_eq_none (by omega),getElem?_eq_none (by rw [length_map] at hwl ⊢;omega)]
def gK (k:Str):List (Str×Int)->Option Int
 | []=>none
 | (x,i)::r=>if k=x then some i else gK k r
def IY (neg:Bool) (tab:List (Str×Int)) (fa:F1):F1:=aW fa fun p Γ=>match p.d with
 | .str k=>.ok ⟨.leaf,.bool (if neg then !(gK k tab).isSome else (gK k tab).isSome)⟩ Γ
 | _=>.no
def DR (tab:List (Str×Int)) (fa:F1):F1:=aW fa fun p Γ=>match p.d with
 | .str k=>(match gK k tab with
  | some i=>.ok ⟨.leaf,.int i⟩ Γ
  | none=>.no)
 | _=>.no
def xR (i:Nat) (q:PV) (Γ:Ev):Out PV:=match Γ[i]?,q.d with
 | some (some ⟨.lst .leaf,.list ds⟩),.int k=>(match d9 ds.length k with
  | some j=>(match ds[j]? with
   | some d=>.ok ⟨.leaf,d⟩ Γ
   | none=>.no)
  | none=>.no)
 | _,_=>.no
def cA (i:Nat) (fb:F1):F1:=fun Γ=>if sA Γ[i]? then (fb Γ).bind (xR i) else .no
section
variable {K:Fg} {W:XW} {σ:St} {H:Hp} {Q:VK} {D:fL} {fa fb:F1} {fl:FL}
theorem xa {i:Nat} (h:tE K W (cA i fb) σ H Q):vT (AQ K) (br i) (tE K W fb) σ H Q:=by
 obtain ⟨He,O,Fs,Γ,E,h⟩:=h;unfold cA at h
 cases ho:sA Γ[i]? with
 | false=>rw [ho] at h;exact h.elim
 | true=>
  rw [ho] at h;obtain ⟨ds,e0⟩:=HF ho;obtain ⟨l,vs,h1,h2,h3,_,_⟩:=E.chgF e0;refine ⟨.ref l,h1,?_⟩
  refine zF (k:=xR i) ⟨He,O,Fs,Γ,E,h⟩ fun He O Fs Γ1 q u H1 G Fs1 nd A w=>?_
  unfold xR at w;split at w
  ·rename_i ds1 k e1 e2
   obtain ⟨l1,vs1,q1,q2,q3,q4,_⟩:=A.go.chgF e1;rw [h1] at q1
   cases q1;have r:=A.own.rep
   rw [e2] at r
   cases r
   cases hj:d9 ds1.length k with
   | none=>rw [hj] at w;exact w.elim
   | some j=>
    rw [hj] at w;have w:Wants K W He O Fs H σ Q (match ds1[j]? with | some d=>.ok ⟨.leaf,d⟩ Γ1 | none=>.no):=w
    cases hd:ds1[j]? with
    | none=>rw [hd] at w;exact w.elim
    | some d=>
     rw [hd] at w;have hjl:j<vs1.length:=by rw [q3];exact (List.getElem?_eq_some_iff.mp hd).1
     have hv:vs1[j]?=some (vs1[j]'hjl):=getElem?_eq_getElem _
     refine .inl ⟨l,vs1,k,vs1[j]'hjl,rfl,rfl,.of q2,Ga q3 hj hv,?_⟩
     exact w _ _ _ _ (pS A.go A.same A.newF (q4 j _ d hv hd))
  ·exact w.elim
def oI (p:PV):Bool:=match p with
 | ⟨.lst .leaf,.list ds⟩=>ds.all bJ
 | _=>false
def zC (n:Nat) (den:List PySem.PyData->bN) (fl:FL):F1:=fun Γ=>(fl Γ).bind fun ps Γ'=>if ps.length=n then (match den (ps.map (·.d)) with
 | .ok p=>if oI p then .ok p Γ' else .no
 | _=>.no) else .no
theorem tY {n:Nat} {den:List PySem.PyData->bN} {E:XK} (h:tE K W (zC n den fl) σ H Q):lQ (sm K n den) [] E (tA K W fl) σ H Q:=by
 obtain ⟨He,O,Fs,Γ,E0,h⟩:=h;refine ⟨He,O,Fs,Γ,E0,?_⟩
 unfold zC at h
 cases e:fl Γ with
 | er c Γ'=>rw [e] at h;exact h
 | no=>rw [e] at h;exact h
 | ok ps Γ1=>
  rw [e] at h;intro vs H1 Gs Fs1 A;have h:Wants K W He O Fs H σ Q (if ps.length=n then (match den (ps.map (·.d)) with | .ok p=>if oI p then .ok p Γ1 else .no | _=>.no) else .no):=h
  by_cases hn:ps.length=n
  case neg=>rw [if_neg hn] at h;exact h.elim
  rw [if_pos hn] at h;have hl:(vs++[]).length=n:=by rw [append_nil,A.len1];exact hn
  cases ed:den (ps.map (·.d)) with
  | er c=>rw [ed] at h;exact h.elim
  | no=>rw [ed] at h;exact h.elim
  | ok p=>
   rw [ed] at h;have h:Wants K W He O Fs H σ Q (if oI p then .ok p Γ1 else .no):=h
   have newF:∀a∈Fs1.flatten,a∈Fs.flatten\/H a=none:=fun a ha=>A.new a (mem_append_right _ ha)
   cases hc:oI p with
   | false=>rw [hc] at h;exact h.elim
   | true=>
    rw [hc] at h;have h:Wants K W He O Fs H σ Q (.ok p Γ1):=h
    refine ⟨hl,[],ps.map (·.d),nodup_nil,(fun _ z=>nomatch z),by rw [append_nil,GA];exact A.reps,?_⟩
    rw [ed];intro v H2 G r;unfold oI at hc;split at hc
    ·rename_i ds
     obtain ⟨l,us,rfl,rfl,hp,hul,hr⟩:=r.own.leaves;refine h (.ref l) H2 [l] Fs1 ⟨A.same.trans r.same,A.env.dropL.hide r.same r.nd r.fresh r.inH,fun a ha=>?_,Own.mkLeaves hp hul fun j u d e1 e2=>((hr j u d e1 e2).sc (List.all_eq_true.mp hc d (mem_of_getElem? e2))).rep⟩
     rcases List.mem_append.mp ha with z | z
     ·exact .inr (A.same.free (r.fresh a z))
     ·exact newF a z
    ·cases hc
def vx (i:Nat) (a:Int) (p:PV) (Γ:Ev):fJ:=match p.d with
 | .int b=>if i<Γ.length then .nx (Γ.set i (some ⟨.leaf,.int (a+b)⟩)) else .no
 | _=>.no
def fR (i:Nat) (f:F1):FS:=fun Γ=>match Γ[i]? with
 | some (some ⟨.leaf,.int a⟩)=>gX f (vx i a) Γ
 | _=>.no
theorem AH {i:Nat} (h:tS K W (fR i fa) D σ H):C7 i (tE K W fa) (JU fun i j=>i+j) D σ H:=by
 obtain ⟨He,O,Fs,Γ,E,h⟩:=h;unfold fR at h;split at h
 ·rename_i a e0
  obtain ⟨_,v,F,h1,h2,h3⟩:=E.slot i _ e0;have r:=h3.rep
  cases r;refine ⟨.int a,h1,?_⟩
  refine gE (D:=D) (k:=vx i a) ⟨He,O,Fs,Γ,E,h⟩ fun He O Fs Γ1 p u H1 G Fs1 _ fr A w=>?_
  unfold vx at w;split at w
  ·rename_i b eb
   have r:=A.own.rep
   rw [eb] at r
   cases r;by_cases hi:i<Γ1.length
   ·rw [if_pos hi] at w
    exact ⟨a,b,rfl,rfl,w _ _ _ (EnvOk.put (G:=[]) (p:=⟨.leaf,.int (a+b)⟩) (v:=.int (a+b)) A.go (.leaf (.int _)) rfl (fun a ha=>by simp at ha) hi)⟩
   ·rw [if_neg hi] at w;exact w.elim
  ·exact w.elim
 ·exact h.elim
def BV (i:Nat) (p:PV) (Γ:Ev):fJ:=match Γ[i]?,p.d with
 | some (some ⟨.lst .leaf,.list ds⟩),.tuple es=>if dD p es&&decide (ds.length+es.length<=sizeLine) then .nx (Γ.set i (some ⟨.lst .leaf,.list (ds++es)⟩)) else .no
 | some (some ⟨.lst .leaf,.list ds⟩),.list es=>if dD p es&&decide (ds.length+es.length<=sizeLine) then .nx (Γ.set i (some ⟨.lst .leaf,.list (ds++es)⟩)) else .no
 | _,_=>.no
def ma (i:Nat) (f:F1):FS:=fun Γ=>if sA Γ[i]? then gX f (BV i) Γ else .no
def AS (K:Fg):V->List V->Hp->VK->Prop:=fun x vs H Q=>∃l b xs zs,x=.ref l/\vs=[.ref b]/\H l=some (.lst xs)/\(SqL K H b zs\/SqT K H b zs)/\xs.length+zs.length<=sizeLine/\Q .non (bA H l (.lst (xs++zs)))
theorem AE {i:Nat} (h:tS K W (ma i fa) D σ H):jI (Ab K "list" (AS K) (br i) (tA K W (ah fa ai))) D σ H:=by
 obtain ⟨He,O,Fs,Γ,E,h⟩:=h;unfold ma at h
 cases ho:sA Γ[i]? with
 | false=>rw [ho] at h;exact h.elim
 | true=>
  rw [ho] at h;obtain ⟨ds,e0⟩:=HF ho;obtain ⟨l,vs,h1,h2,h3,_,_⟩:=E.chgF e0;refine ⟨.ref l,h1,.inl ⟨rfl,vs,.of h2⟩,Eo (gE (D:=D) ⟨He,O,Fs,Γ,E,h⟩ fun He O Fs Γ1 p v H1 G Fs1 _ fr A w=>?_)⟩
  obtain ⟨s,d⟩:=p;have fin:∀(ds1 es:List PySem.PyData) (b:Addr) (ws:List V),Γ1[i]?=some (some ⟨.lst .leaf,.list ds1⟩)->v=.ref b->(SqL K H1 b ws\/SqT K H1 b ws)->Reps K (bY H1 (O++Fs1.flatten)) ws es->ds1.length+es.length<=sizeLine ->
    o6 K W He O D (.nx (Γ1.set i (some ⟨.lst .leaf,.list (ds1++es)⟩)))->AS K (.ref l) [v] H1 (fun _ H2=>D.nx σ H2):=fun ds1 es b ws e1 hv hq hr hz w=>by
   obtain ⟨l1,vs1,q1,q2,q3,q4,q5⟩:=A.go.chgF e1;rw [h1] at q1
   cases q1;subst hv;refine ⟨l,b,vs1,ws,rfl,rfl,q2,hq,by rw [q3,hr.1];exact hz,w σ _ _ (q5 (vs1++ws) (ds1++es) (by rw [length_append,length_append,q3,hr.1]) ?_)⟩
   exact (Reps.app ⟨q3,q4⟩ hr).2
  unfold BV at w;split at w
  ·rename_i ds1 es e1 e2
   dsimp only at e2;subst e2
   cases hc:(dD ⟨s,.tuple es⟩ es&&decide (ds1.length+es.length<=sizeLine)) with
   | false=>rw [hc] at w;exact w.elim
   | true=>
    rw [hc] at w;simp only [Bool.and_eq_true,decide_eq_true_eq] at hc
    obtain ⟨b,ws,rfl,hq,_,hr⟩:=A.own.itemsT (O':=O++Fs1.flatten) hc.1 lS A.disj
    exact fin ds1 es b ws e1 rfl (.inr hq) hr hc.2 w
  ·rename_i ds1 es e1 e2
   dsimp only at e2;subst e2
   cases hc:(dD ⟨s,.list es⟩ es&&decide (ds1.length+es.length<=sizeLine)) with
   | false=>rw [hc] at w;exact w.elim
   | true=>
    rw [hc] at w;simp only [Bool.and_eq_true,decide_eq_true_eq] at hc
    obtain ⟨b,ws,rfl,hq,_,hr⟩:=A.own.items (O':=O++Fs1.flatten) hc.1 lS A.disj
    exact fin ds1 es b ws e1 rfl (.inl hq) hr hc.2 w
  ·exact w.elim
end
theorem IP {l b:Addr} {xs ys:Array Value} {n m:Nat} {d2:Option Addr} {s2:Array (Option Value)} (h0:¬(!xs.isEmpty&&Builtin.List.listTooLong (xs.size+ys.size))=true) (h1:xs.size<=sizeLine) (h2:(xs++ys).size<=sizeLine+1) :
  Meets (Builtin.«list.extend» ⟨[.ref l,.ref b],[]⟩) (fun _ R s=>s.heap.get? l=some ⟨.type "list",none,.seq xs n,#[]⟩/\s.heap.get? b=some ⟨.type "tuple",d2,.seq ys m,s2⟩ /\
   R (.ok (.ret Value.none)) { s with heap:=s.heap.update l (Obj.mapSeq fun x=>x++ys),toks:=s.toks }):=
 .of_wp fun prog w A R s h=>by
  obtain ⟨hp,g,d,tk,os⟩:=s;obtain ⟨hl,hb,h⟩:=h;have f1:=AutoSeq1.idx_int
  have f2:=AutoSeq1.sub_tuple_tuple
  have f3:=AutoSeq1.sub_list_list
  have f4:=AutoSeq1.sub_tuple_list
  have f5:=AutoSeq1.sub_list_tuple
  wp_walk using (wpAny_updateSeq hl rfl (hz:=h1) (_hz':=h2)),AutoSeq1.wpAny_loadPart' hl,AutoSeq1.wpAny_loadPart' hb
  exact ⟨_,rfl,h⟩
theorem IQ {l b:Addr} {xs ys:Array Value} {n m:Nat} {d2:Option Addr} {s2:Array (Option Value)} (h0:¬(!xs.isEmpty&&Builtin.List.listTooLong (xs.size+ys.size))=true) (h1:xs.size<=sizeLine) (h2:(xs++ys).size<=sizeLine+1) :
  Meets (Builtin.«list.extend» ⟨[.ref l,.ref b],[]⟩) (fun _ R s=>s.heap.get? l=some ⟨.type "list",none,.seq xs n,#[]⟩/\s.heap.get? b=some ⟨.type "list",d2,.seq ys m,s2⟩ /\
   R (.ok (.ret Value.none)) { s with heap:=s.heap.update l (Obj.mapSeq fun x=>x++ys),toks:=s.toks }):=
 .of_wp fun prog w A R s h=>by
  obtain ⟨hp,g,d,tk,os⟩:=s;obtain ⟨hl,hb,h⟩:=h;have f1:=AutoSeq1.idx_int
  have f2:=AutoSeq1.sub_tuple_tuple
  have f3:=AutoSeq1.sub_list_list
  have f4:=AutoSeq1.sub_tuple_list
  have f5:=AutoSeq1.sub_list_tuple
  wp_walk using (wpAny_updateSeq hl rfl (hz:=h1) (_hz':=h2)),AutoSeq1.wpAny_loadPart' hl,AutoSeq1.wpAny_loadPart' hb
  exact ⟨_,rfl,h⟩
theorem Bq {X:Cx}:Jh X "list.extend" (AS X.K):=by
 intro pins s σ H x vs v us Q I rx rv h;obtain ⟨l,b,xs,zs,rfl,rfl,hH,hB,hz,q⟩:=h
 cases rx;obtain ⟨u,rfl,ru⟩:=rv.one
 cases ru;obtain ⟨z,its,n,r,hl,e⟩:=I.lstM hH;have fin:∀its2:List Value,Vals zs its2->its.toArray.size+its2.toArray.size<=sizeLine/\(its.toArray++its2.toArray).size<=sizeLine+1/\its.toArray.size<=sizeLine/\¬(!its.toArray.isEmpty&&Builtin.List.listTooLong (its.toArray.size+its2.toArray.size))=true /\
   EP X pins σ Q Value.none { s with heap:=s.heap.update l (Obj.mapSeq fun x=>x++its2.toArray),toks:=s.toks }:=fun its2 r2=>by
  have h1:its.toArray.size+its2.toArray.size<=sizeLine:=by rw [size_toArray,size_toArray,<-r.length,<-r2.length];exact hz
  refine ⟨h1,by rw [Array.size_append];omega,by omega,?_,?_⟩
  ·rw [uL h1,Bool.and_false]
   exact Bool.false_ne_true
  ·exact ⟨.non,_,I.lset (its':=its++its2) hH e (by simp) (r.append r2) (by rw [length_append];exact hz),rfl,q⟩
 rcases hB with hB | hB
 ·obtain ⟨its2,r2,⟨⟨c2,d2,dat2,s2⟩,n2,e2,ec,ed,es⟩,_⟩:=I.list hB
  simp only at ec es
  subst ec es;obtain ⟨f1,f2,f3,f4,f5⟩:=fin its2 r2;exact call_meets F.slot_list_extend ⟨_,e,rfl⟩ F.entry_list_extend (F.args_list_extend_2 _ _) (IQ f4 f3 f2) ⟨e,e2,f5⟩
 ·obtain ⟨its2,r2,⟨⟨c2,d2,dat2,s2⟩,e2,ec,n2,es⟩,_⟩:=I.tuple hB
  simp only at ec es
  subst ec es;obtain ⟨f1,f2,f3,f4,f5⟩:=fin its2 r2;exact call_meets F.slot_list_extend ⟨_,e,rfl⟩ F.entry_list_extend (F.args_list_extend_2 _ _) (IP f4 f3 f2) ⟨e,e2,f5⟩
section
variable {X:Cx} {N gl:List Str} {vs cs ls lo gs:List Nat} {W:XW} {a b c e:Expr} {es:List Expr} {pos p:Pos} {fa fb fc:F1} {fl:FL} {g:FS}
theorem cs_extend (S:Cp X N gl vs cs ls lo gs) (i:Nat) {x:Str} {apos cpos:Pos} (hi:N[i]?=some x) (hv:vs.contains i=true) (ha:PE X a (tE X.K W fa)) (hs:starEach [a] X.env=[(false,eval a X.env)])
  (hbase:attributeBase (.Name x p) "extend" X.env (eval (.Name x p) X.env)=eval (.Name x p) X.env) (hline:(apos.endLine==cpos.line)=true)
  (hfew:((backTo cpos (starEach [a] X.env)).all (fun x=>!x.1)&&(backToKw cpos (keywordEach [] X.env)).all (fun x=>x.1.isSome)
   && decide ([a].length+([]:List Keyword).length+(if ([]:List Keyword).isEmpty then 0 else 1)<30))=true)
  (hsw:swapsWith (.Call (.Attribute (.Name x p) "extend" apos) [a] [] cpos) none pos.line X.env=pure false) :
  PS X (.Expr (.Call (.Attribute (.Name x p) "extend" apos) [a] [] cpos) pos) (tS X.K W (ma i fa)):=by
 have m:=S.nm x (mem_of_getElem? hi)
 exact dy (Eu (mx PySem.F.plainAttrs_list PySem.F.slot_list_extend PySem.F.type_list_extend Bq (wb (by rw [S.hN];exact hi) (S.vis i x hi hv) m.1 m.2) (da_cons ha da_nil hs) hbase hfew hline hs rfl) hsw) fun _ _ _=>AE
end
end T
namespace TQ
open PySem PySem.Spec L2 T
open PyProof.Rows hiding St
section
variable {X:Cx} {N gl:List Str} {vs cs ls lo gs:List Nat} {W:XW} {a b c e:Expr} {es:List Expr} {pos p:Pos} {fa fb fc:F1} {fl:FL} {ga gb:FB} {g1 g2 g:FS}
theorem EJ (ha:Q (PE X a (tE X.K W fa))) (hb:Q (PE X b (tE X.K W fb))):Q (PE X (.BinOp a .Add b pos) (tE X.K W (gx fa fb))):=⟨have ha:=ha.p;have hb:=hb.p;bh (iB xB ha hb) fun _ _ _=>AF⟩
theorem EU (S:Cp X N gl vs cs ls lo gs) (i:Nat) {x:Str} (hi:N[i]?=some x) (hv:vs.contains i=true) (hb:Q (PE X b (tE X.K W fb))) (hs:ED b):Q (PE X (.Subscript (.Name x p) b pos) (tE X.K W (cA i fb))):=⟨by
 have hb:=hb.p
 have m:=S.nm x (mem_of_getElem? hi)
 exact bh (pO El (wb (by rw [S.hN];exact hi) (S.vis i x hi hv) m.1 m.2) hb hs) fun _ _ _=>xa⟩
theorem zQ {x:Str} {n:Nat} {den:List PySem.PyData->bN} (S:Cp X N gl vs cs ls lo gs) (j:Nat) (hj:gl[j]?=some x) (hg:gs.contains j=true) (C:vY X x n den) (ha:Q (PA X (e::es) (tA X.K W fl))) (he:starEach (e::es) X.env=(false,eval e X.env)::starEach es X.env) (hpl:(backTo pos (starEach es X.env)).any (·.1)=false):Q (PE X (.Call (.Name x p) (e::es) [] pos) (tE X.K W (zC n den fl))):=⟨by
 have ha:=ha.p
 obtain ⟨k,f,fd,ps,F,hr,hm,hk,hb⟩:=C;exact bh (GF F hr (S.g hj hg).1 hm hk hb .nil uD ha (S.g hj hg).2.1 he hpl) fun _ _ _=>tY⟩
theorem lL (S:Cp X N gl vs cs ls lo gs) (i:Nat) {x:Str} {pos':Pos} (hi:N[i]?=some x) (hl:ls.contains i=true) (ha:Q (PE X a (tE X.K W fa))):Q (PS X (.AugAssign (.Name x pos') .Add a pos) (tS X.K W (fR i fa))):=⟨have ha:=ha.p;dy (AZ (by rw [S.hN];exact S.nd) (by rw [S.hN];exact hi) (S.loc i x hi hl).1 ha BF (S.loc i x hi hl).2) fun _ _ _=>AH⟩
theorem lK (S:Cp X N gl vs cs ls lo gs) (i:Nat) {x:Str} {apos cpos:Pos} (hi:N[i]?=some x) (hv:vs.contains i=true) (ha:Q (PE X a (tE X.K W fa))) (hs:starEach [a] X.env=[(false,eval a X.env)]) (hbase:attributeBase (.Name x p) "extend" X.env (eval (.Name x p) X.env)=eval (.Name x p) X.env) (hline:(apos.endLine==cpos.line)=true) (hfew:((backTo cpos (starEach [a] X.env)).all (fun x=>!x.1)&&(backToKw cpos (keywordEach [] X.env)).all (fun x=>x.1.isSome)
   && decide ([a].length+([]:List Keyword).length+(if ([]:List Keyword).isEmpty then 0 else 1)<30))=true) (hsw:swapsWith (.Call (.Attribute (.Name x p) "extend" apos) [a] [] cpos) none pos.line X.env=pure false):Q (PS X (.Expr (.Call (.Attribute (.Name x p) "extend" apos) [a] [] cpos) pos) (tS X.K W (ma i fa))):=⟨T.cs_extend S i hi hv ha.p hs hbase hline hfew hsw⟩
end
end TQ
namespace T
open PySem PySem.Spec L2
open PyProof.Rows hiding St
def jt (neg:Bool):PySem.PyData->PySem.PyData->Option PySem.PyData
 | .bool a,.bool b=>some (.bool (if neg then a != b else a==b))
 | _,_=>none
theorem xy {X:Cx}:OpR X (compareOp .IsNot) (fun x y H Q=>∃a b,x=.bl a/\y=.bl b/\Q (.bl (a != b)) H):=by
 intro pins s σ H x y v u Q I rx ry h;obtain ⟨a,b,rfl,rfl,q⟩:=h
 cases rx
 cases ry;exact isnot_bool (CH I q rfl)
theorem u5 {K:Fg}:GOp K (fun x y H Q=>∃a b,x=.bl a/\y=.bl b/\Q (.bl (a != b)) H) (jt true):=by
 intro x y H Q a b d ra rb e k
 cases ra<;>cases rb<;>simp only [jt] at e<;>try cases e
 exact ⟨_,_,rfl,rfl,k _ (.bl _)⟩
theorem ud {X:Cx} (R:Rm X):Ck X .IsNot (fun x y H Q=>∃a b,x=.bl a/\y=.bl b/\Q (.bl (a != b)) H) (jt true):=⟨xy,u5⟩
def F7 (x:Str):It where
 go:=fun i _=>i<x.cps.size
 yld:=fun i H v H'=>H'=H/\∃c,x.cps[i]?=some c/\v=.str ⟨#[c]⟩
 stop:=fun i _=>x.cps.size<=i
theorem qt {P:Program} {w:World} {K:Fg} {tg:Expr} (it:Addr) (x:Str) (t:Tok):vF P w K tg (F7 x) [it] it (fun i h=>h.IsStrIter it "str_ascii_iterator" x t i) where
 mem:=by simp
 obj:=fun i h st b hb=>by
  have e:b=it:=by simpa using hb
  subst e;obtain ⟨o,ho,hc,hd⟩:=st;exact ⟨o,ho,fun v z=>by rw [hd] at z;cases z⟩
 keep:=fun i h h' st k=>let ⟨o,ho,r⟩:=st;⟨o,k it (by simp) o ho,r⟩
 item:=by
  intro X hP hw hK hc i pins s σ H E I hf st hg;subst hP hw hK;obtain ⟨f0,f1,f2,f3,f4,f5⟩:=hf it (by simp)
  have W:=Walks.strAscii (prog:=X.prog) (w:=X.w) (I.ok.hd hc) it x t
  refine W.item i s _ _ hg st fun v h' tk hv st' kk=>?_
  obtain ⟨c,u,hx,rfl⟩:=hv;have I1:Inv X pins σ H { s with heap:=h',toks:=tk }:=I.turned (fun b o hb e=>kk b o (by simpa using hb) e) f0 f1 f3 f4 f5
  obtain ⟨o,ho,oc,od⟩:=id st'
  exact ⟨_,rfl,u7 (s:={ s with heap:=h',toks:=tk }) (n := "str_ascii_iterator") ho oc od (by decide) ⟨.str ⟨#[c]⟩,H,I1,⟨u,rfl⟩,⟨rfl,c,hx,rfl⟩,st',fun b hb=>(hf b hb).1⟩⟩
 done:=by
  intro X hP hw hK hc i pins s σ H E I hf st hg;subst hP hw hK;obtain ⟨f0,f1,f2,f3,f4,f5⟩:=hf it (by simp)
  exact wpAny_pyNext_ascii_end (I.ok.hd hc) st (by have:x.cps.size<=i:=hg;simp;omega) fun h' eb=>⟨rfl,I.turned (t':=s.toks) (fun b o hb e=>eb b o hb e) f0 f1 f3 f4 f5⟩
 self:=fun _ _ _ _ _ st h=>wpAny_pyIter_striter_ascii st h
def u1 (x:Str):TI:=fun σ H R=>R (F7 x) H
theorem xq {X:Cx} {tg:Expr} {x:Str} {j:Nat} {pos:Pos} (ha:x.cps.all (·<128)=true):PI X tg (.Constant (.str x) j pos) (u1 x):=by
 intro pins s σ H R I h;refine Calls.Constant_str ?_
 refine wpAny_pyIter_ascii ha ?_
 have I1:=I.tok (s.toks+1)
 refine ⟨s.heap.objs.size,[s.heap.objs.size],_,_,H,rfl,I1.kept (t':=s.toks+1) fun b o e=>Heap.get?_push_of_some _ e,qt _ x _,⟨_,Heap.get?_push_size _ rfl,rfl,rfl⟩,fun b hb=>?_,h⟩
 have e:b=s.heap.objs.size:=by simpa using hb
 subst e;exact I1.fpOk (Nat.le_refl _) (I1.hok.fresh (Nat.le_refl _))
def zu (x:Str):List V:=x.cps.toList.map fun c=>.str ⟨#[c]⟩
def DZ (x:Str):List PySem.PyData:=x.cps.toList.map fun c=>.str ⟨#[c]⟩
theorem xP {x:Str}:yC (F7 x) (fun _=>True) (zu x):=by
 refine ⟨fun i H v _ hv=>?_,fun H _=>?_⟩
 ·unfold zu at hv
  rw [getElem?_map,Array.getElem?_toList] at hv
  cases e:x.cps[i]? with
  | none=>rw [e] at hv;cases hv
  | some c=>
   rw [e] at hv
   cases hv;refine ⟨(Array.getElem?_eq_some_iff.mp e).1,fun y H' ⟨h1,c',h2,h3⟩=>⟨h1,?_⟩⟩
   rw [e] at h2
   cases h2;exact h3
 ·show x.cps.size<=(zu x).length
  unfold zu;rw [length_map,Array.length_toList];exact Nat.le_refl _
theorem wV {K:Fg} {H:Hp} {x:Str}:Reps K H (zu x) (DZ x):=by
 refine ⟨by simp [zu,DZ],fun i v d h1 h2=>?_⟩
 unfold zu at h1;unfold DZ at h2;rw [getElem?_map] at h1 h2
 cases e:x.cps.toList[i]? with
 | none=>rw [e] at h1;cases h1
 | some c=>
  rw [e] at h1 h2
  cases h1
  cases h2;exact .str _
def fj (x:Str):FI:=fun Γ=>.ok ⟨DZ x,true⟩ Γ
theorem tW {K:Fg} {W:XW} {σ:St} {H:Hp} {R:It->Hp->Prop} {x:Str} (h:tI K W (fj x) σ H R):u1 x σ H R:=by
 obtain ⟨He,O,Fs,Γ,E,h⟩:=h;exact h (F7 x) H Fs (zu x) (fun _=>True) (Same.refl _) E (fun a ha=>.inl ha) xP trivial (fun _ _=>trivial) (fun _ _ _=>trivial) wV
def pI:V->List V->Hp->VK->Prop:=fun x xs H Q=>∃(i j:Str) (k:Nat) (rest:List Nat),x=.str i/\xs=[.str j]/\Builtin.Str.occurrences i j 0 i.length 1=k::rest/\Q (.int k) H
theorem rf {X:Cx}:F5 X "str.index" pI:=by
 intro pins s σ H x xs v us Q I rx rv h;obtain ⟨i,j,k,rest,rfl,rfl,ho,q⟩:=h;obtain ⟨t,rfl⟩:=rx;obtain ⟨u,rfl,ru⟩:=rv.one;obtain ⟨t',rfl⟩:=ru;exact SC.index ho ⟨.int k,H,I.tok _,⟨_,rfl⟩,q⟩
def fm (x:Str):List PySem.PyData->Option PySem.PyData
 | [.str j]=>match Builtin.Str.occurrences x j 0 x.length 1 with
  | k::_=>some (.int k)
  | []=>none
 | _=>none
theorem xY {K:Fg} {x:Str}:GCall K (fun xs H Q=>pI (.str x) xs H Q) (fm x):=by
 intro vs H Q ds d rs e k;unfold fm at e;split at e
 ·rename_i j
  obtain ⟨v,rfl,r⟩:=rs.one
  cases r;split at e
  ·rename_i k' rest ho
   cases e;exact ⟨x,j,k',rest,rfl,rfl,ho,k _ (.int _)⟩
  ·cases e
 ·cases e
theorem w9 {K:Fg} {W:XW} {σ:St} {H:Hp} {Q:VK} {x:Str} {fl:FL} (h:tE K W (bM (fm x) fl) σ H Q):Ab K "str" pI (tC (.str x)) (tA K W fl) σ H Q:=
 ⟨rfl,tX xY h⟩
theorem ce_idxS {X:Cx} {W:XW} {x:Str} {j:Nat} {p apos cpos:Pos} {e:Expr} {fe:F1} (ha:PE X e (tE X.K W fe)) (hs:starEach [e] X.env=[(false,eval e X.env)]) (hline:(apos.endLine==cpos.line)=true) :
  PE X (.Call (.Attribute (.Constant (.str x) j p) "index" apos) [e] [] cpos) (tE X.K W (bM (fm x) (ah fe ai))):=
 bh (mx (T := "str") (r:=pI) F.plainAttrs_str F.slot_str_index F.type_str_index rf uw (da_cons ha da_nil hs) rfl (by rw [hs];rfl) hline hs rfl) fun _ _ _=>w9
end T
namespace TQ
open PySem PySem.Spec L2 T
open PyProof.Rows hiding St
theorem qp {X:Cx} {W:XW} {tg:Expr} {x:Str} {j:Nat} {pos:Pos} (ha:x.cps.all (·<128)=true):Q (PI X tg (.Constant (.str x) j pos) (tI X.K W (fj x))):=⟨qj (xq ha) fun _ _ _=>tW⟩
theorem qq {X:Cx} {W:XW} {x:Str} {j:Nat} {p apos cpos:Pos} {e:Expr} {fe:F1} (ha:Q (PE X e (tE X.K W fe))) (hs:starEach [e] X.env=[(false,eval e X.env)]) (hline:(apos.endLine==cpos.line)=true) :
  Q (PE X (.Call (.Attribute (.Constant (.str x) j p) "index" apos) [e] [] cpos) (tE X.K W (bM (fm x) (ah fe ai)))):=⟨T.ce_idxS ha.p hs hline⟩
end TQ
namespace T
open PySem PySem.Spec L2
open PyProof.Rows hiding St
def putN:List Nat->List PV->Ev->Option Ev
 | [],[],Γ=>some Γ
 | i::is,p::ps,Γ=>if decide (i<Γ.length)&&!p.s.isView then putN is ps (Γ.set i (some p)) else none
 | _,_,_=>none
def wM:List Nat->List V->St->St
 | i::is,v::vs,σ=>wM is vs (σ.set i (some v))
 | _,_,σ=>σ
def xk:List Sh->List PySem.PyData->List PV
 | s::ss,d::ds=>⟨s,d⟩::xk ss ds
 | _,_=>[]
def zU (p:PV):Option (List PV):=match p.s,p.d with
 | .tup ss,.tuple ds=>some (xk ss ds)
 | .leaf,.tuple ds=>some (ds.map fun d=>⟨.leaf,d⟩)
 | _,_=>none
def iz (is:List Nat) (f:F1):FS:=gX f fun p Γ=>match zU p with
 | some ps=>if ps.length=is.length then (match putN is ps Γ with
  | some Γ'=>.nx Γ'
  | none=>.no) else .no
 | none=>.no
def Ge:List Nat->zz
 | []=>ya
 | i::is=>jX (bQ i) (Ge is)
theorem Hn {H:Hp} {Q:St->Hp->Prop}:∀{is:List Nat} {vs:List V} {σ:St},vs.length=is.length->Q (wM is vs σ) H->Ge is vs σ H Q
 | [],[],_,_,q=>⟨rfl,q⟩
 | i::is,v::vs,σ,hl,q=>⟨v,vs,rfl,Hn (is:=is) (vs:=vs) (by simpa using hl) q⟩
 | [],_::_,_,hl,_=>by simp at hl
 | _::_,[],_,hl,_=>by simp at hl
section
variable {K:Fg} {W:XW} {σ:St} {H:Hp} {D:fL} {fa:F1}
theorem G5 {He:Hp} {O:List Addr}:∀{is:List Nat} {ps:List PV} {vs:List V} {Gs:List (List Addr)} {Fs:List (List Addr)} {σ:St} {Γ Γ':Ev},vs.length=ps.length->Gs.length=ps.length->EnvOk K He (Gs.flatten++O) Fs H σ Γ->(∀a∈Gs.flatten,He a=none) ->
  (∀(k:Nat) v p G,vs[k]?=some v->ps[k]?=some p->Gs[k]?=some G->Own K (Gs.flatten++O++Fs.flatten) H p.s G v p.d)->putN is ps Γ=some Γ'->∃Fs',EnvOk K He O Fs' H (wM is vs σ) Γ'
 | [],[],[],[],Fs,σ,Γ,Γ',_,_,E,_,_,h=>by
  cases h;exact ⟨Fs,by simpa [wM] using E⟩
 | i::is,p::ps,v::vs,G::Gs,Fs,σ,Γ,Γ',h1,h2,E,fr,o,h=>by
  unfold putN at h;split at h
  ·rename_i hc
   simp only [Bool.and_eq_true,decide_eq_true_eq,Bool.not_eq_true'] at hc
   obtain ⟨hi,n1⟩:=hc;have fl:(G::Gs).flatten++O=G++(Gs.flatten++O):=by simp [append_assoc]
   rw [fl] at E o
   have E1:=EnvOk.put (i:=i) E (o 0 v p G rfl rfl rfl) n1 (fun a ha=>fr a (by simp [ha])) hi
   refine G5 (is:=is) (ps:=ps) (vs:=vs) (Gs:=Gs) (by simpa using h1) (by simpa using h2) E1 (fun a ha=>fr a (mem_append_right G ha)) (fun k v' p' G' a1 a2 a3=>?_) h
   refine (o (k+1) v' p' G' (by simpa using a1) (by simpa using a2) (by simpa using a3)).perm fun a ha=>?_
   rcases List.mem_append.mp ha with z | z
   ·exact mem_append_left _ (mem_append_right _ z)
   ·obtain ⟨F,hF⟩:=E.lt hi
    rcases List.mem_append.mp ((nX (G:=G) hF).mem_iff.mp (mem_append_right _ z)) with y | y
    ·exact mem_append_left _ (mem_append_left _ y)
    ·exact mem_append_right _ y
  ·cases h
 | [],_::_,_,_,_,_,_,_,_,_,_,_,_,h=>by cases h
 | _::_,[],_,_,_,_,_,_,_,_,_,_,_,h=>by cases h
 | [],[],_::_,_,_,_,_,_,h,_,_,_,_,_=>by simp at h
 | [],[],[],_::_,_,_,_,_,_,h,_,_,_,_=>by simp at h
 | _::_,_::_,[],_,_,_,_,_,h,_,_,_,_,_=>by simp at h
 | _::_,_::_,_::_,[],_,_,_,_,_,h,_,_,_,_=>by simp at h
theorem pK:∀{ss:List Sh} {ds:List PySem.PyData},ss.length=ds.length->(xk ss ds).length=ds.length
 | [],[],_=>rfl
 | _::ss,_::ds,h=>by simp only [xk,length_cons];rw [pK (ss:=ss) (ds:=ds) (by simpa using h)]
 | [],_::_,h=>by simp at h
 | _::_,[],h=>by simp at h
theorem uf:∀{ss:List Sh} {ds:List PySem.PyData} {k:Nat} {p:PV},(xk ss ds)[k]?=some p->ss[k]?=some p.s/\ds[k]?=some p.d
 | [],_,k,p,h=>by simp [xk] at h
 | _::_,[],k,p,h=>by simp [xk] at h
 | s::ss,d::ds,0,p,h=>by
  simp only [xk,List.getElem?_cons_zero,Option.some.injEq] at h
  subst h;exact ⟨rfl,rfl⟩
 | s::ss,d::ds,k+1,p,h=>by
  simp only [xk,List.getElem?_cons_succ] at h ⊢
  exact uf h
theorem GM {n:Nat}:(List.replicate n ([]:List Addr)).flatten=[]:=by
 induction n with
 | zero=>rfl
 | succ n ih=>rw [List.replicate_succ,flatten_cons,ih];rfl
theorem wW {is:List Nat} (h:tS K W (iz is fa) D σ H):fQ (tE K W fa) (xZ K is.length (Ge is)) D σ H:=by
 refine gE h fun He O Fs Γ1 p v H1 G Fs1 _ fr A w=>?_
 obtain ⟨s,d⟩:=p;have o:=A.own
 have E:=A.env
 dsimp only at w o
 cases hu:zU ⟨s,d⟩ with
 | none=>rw [hu] at w;exact w.elim
 | some ps=>
  rw [hu] at w;dsimp only at w;by_cases hl:ps.length=is.length
  ·rw [if_pos hl] at w
   cases hp:putN is ps Γ1 with
   | none=>rw [hp] at w;exact w.elim
   | some Γ'=>
    rw [hp] at w
    cases o with
    | view r=>cases hu
    | lst=>cases hu
    | leaf r=>
     cases d with
     | tuple ds=>
      cases hu
      cases r with
      | @tup a vs _ hq hlen hr=>
       obtain ⟨Fs',E'⟩:=G5 (is:=is) (vs:=vs) (Gs:=List.replicate ds.length []) (Fs:=Fs1) (by rw [hlen,length_map]) (by rw [List.length_replicate,length_map]) (by rw [GM];exact E) (by rw [GM];intro a ha;simp at ha) (fun k v' p' G' a1 a2 a3=>by
        rw [GM];rw [getElem?_map] at a2
        cases ed:ds[k]? with
        | none=>rw [ed] at a2;cases a2
        | some d'=>
         rw [ed] at a2
         cases a2;have:G'=[]:=List.eq_of_mem_replicate (mem_of_getElem? a3)
         subst this;exact .leaf (hr k v' d' a1 ed)) hp
       exact ⟨a,vs,rfl,ke hid_le hq,by rw [hlen];simpa using hl,Hn (by rw [hlen];simpa using hl) (w _ _ _ E')⟩
     | _=>cases hu
    | @tup ss a vs ds Fs0 hv hpa hn hlen hf hs nd q=>
     cases hu;have pl:=pK hs
     obtain ⟨Fs',E'⟩:=G5 (is:=is) (vs:=vs) (Gs:=Fs0) (Fs:=Fs1) (by rw [hlen,pl]) (by rw [hf,pl]) E fr (fun k v' p' G' a1 a2 a3=>by
      obtain ⟨z1,z2⟩:=uf a2;exact q k v' p'.d G' p'.s a1 z2 a3 z1) hp
     have hn2:vs.length=is.length:=by rw [hlen,<-pl];exact hl
     exact ⟨a,vs,rfl,.of hpa,hn2,Hn hn2 (w _ _ _ E')⟩
  ·rw [if_neg hl] at w
   exact w.elim
end
section
variable {X:Cx} {N gl:List Str} {vs cs ls lo gs:List Nat} {W:XW} {a:Expr} {pos:Pos} {fa:F1}
theorem cs_unp2 (S:Cp X N gl vs cs ls lo gs) (i j:Nat) {x y:Str} {px py pt:Pos} {kt:Nat} (hi:N[i]?=some x) (hj:N[j]?=some y) (li:ls.contains i=true) (lj:ls.contains j=true) (ha:PE X a (tE X.K W fa))
  (hs:swapsWithSole [.Tuple [.Name x px,.Name y py] kt pt] a pos.line X.env=pure false) (hw:swappedStores [.Tuple [.Name x px,.Name y py] kt pt] a X.env=pure none) :
  PS X (.Assign [.Tuple [.Name x px,.Name y py] kt pt] a pos) (tS X.K W (iz [i,j] fa)):=by
 have hN:X.N.Nodup:=by rw [S.hN];exact S.nd
 exact dy (ui ha (Em S.calm (yM (nW hN (by rw [S.hN];exact hi) (S.loc i x hi li).1 (S.loc i x hi li).2) (yM (nW hN (by rw [S.hN];exact hj) (S.loc j y hj lj).1 (S.loc j y hj lj).2) Es))) hs hw) fun _ _ _=>wW (is:=[i,j])
end
end T
namespace TQ
open PySem PySem.Spec L2 T
open PyProof.Rows hiding St
variable {X:Cx} {N gl:List Str} {vs cs ls lo gs:List Nat} {W:XW} {a:Expr} {pos:Pos} {fa:F1}
theorem jF (S:Cp X N gl vs cs ls lo gs) (i j:Nat) {x y:Str} {px py pt:Pos} {kt:Nat} (hi:N[i]?=some x) (hj:N[j]?=some y) (li:ls.contains i=true) (lj:ls.contains j=true) (ha:Q (PE X a (tE X.K W fa)))
  (hs:swapsWithSole [.Tuple [.Name x px,.Name y py] kt pt] a pos.line X.env=pure false) (hw:swappedStores [.Tuple [.Name x px,.Name y py] kt pt] a X.env=pure none) :
  Q (PS X (.Assign [.Tuple [.Name x px,.Name y py] kt pt] a pos) (tS X.K W (iz [i,j] fa))):=⟨T.cs_unp2 S i j hi hj li lj ha.p hs hw⟩
end TQ
namespace T
open PySem PySem.Spec L2
open PyProof.Rows hiding St
def cutD (xs:List PySem.PyData) (lo hi:Option Int):List PySem.PyData:=(xs.drop (HT.sIx xs.length 0 lo)).take (HT.sIx xs.length xs.length hi-HT.sIx xs.length 0 lo)
theorem Reps.take {K:Fg} {H:Hp} {vs:List V} {ds:List PySem.PyData} (k:Nat) (h:Reps K H vs ds):Reps K H (vs.take k) (ds.take k):=by
 refine ⟨by rw [length_take,length_take,h.1],fun i v d e1 e2=>?_⟩
 by_cases hi:i<k
 ·rw [List.getElem?_take,if_pos hi] at e1 e2
  exact h.2 _ v d e1 e2
 ·rw [List.getElem?_take,if_neg hi] at e1
  cases e1
theorem Reps.cut {K:Fg} {H:Hp} {vs:List V} {ds:List PySem.PyData} (lo hi:Option Int) (h:Reps K H vs ds):Reps K H (jA vs lo hi) (cutD ds lo hi):=by
 unfold jA cutD;rw [h.1];exact (h.drop _).take _
def dS (g:Int->Option Int×Option Int) (fa fb:F1):F1:=aW fa fun p=>aW fb fun q=>fun Γ=>match p.d,q.d with
 | .list xs,.int k=>if dD p xs then .ok ⟨.lst .leaf,.list (cutD xs (g k).1 (g k).2)⟩ Γ else .no
 | _,_=>.no
section
variable {K:Fg} {W:XW} {σ:St} {H:Hp} {Q:VK} {fa fb:F1}
theorem tR {g:Int->Option Int×Option Int} (h:tE K W (dS g fa fb) σ H Q):tE K W fa σ H fun v H1=>tE K W fb σ H1 fun u H2=>∃k,u=.int k/\AN K v (g k).1 (g k).2 H2 Q:=by
 refine Cn (R:=fun v u H2=>∃k,u=.int k/\AN K v (g k).1 (g k).2 H2 Q) h fun He O Fs Γ2 p q v u H1 H2 G1 G2 Fs2 nd s1 s2 E new o1 o2 w=>?_
 obtain ⟨s,d⟩:=p;obtain ⟨s',d'⟩:=q;dsimp only at w o1 o2
 split at w
 ·rename_i xs k
  cases hc:dD ⟨s,.list xs⟩ xs with
  | false=>rw [hc] at w;exact w.elim
  | true=>
   rw [hc] at w;obtain ⟨d1,d2⟩:=B3 E.nd;obtain ⟨p1,vs,rfl,q1,_,r1⟩:=o1.items (O':=O++Fs2.flatten) hc wH d1
   have ru:=o2.rep
   cases ru;exact ⟨k,rfl,p1,vs,rfl,q1,fun p' hp'=>w _ _ _ _ (EI (E.drop (fun a ha=>mem_append_right _ (mem_append_right _ ha)) nd) (s1.trans s2) (fun a ha=>new a (mem_append_right _ (mem_append_right _ ha))) (r1.cut _ _) hp')⟩
 ·exact w.elim
end
end T
namespace TQ
open PySem PySem.Spec L2 T
open PyProof.Rows hiding St
variable {X:Cx} {W:XW} {a b:Expr} {fa fb:F1} {p2 pos:Pos}
theorem Ht (ha:Q (PE X a (tE X.K W fa))) (hb:Q (PE X b (tE X.K W fb))):Q (PE X (.Subscript a (.Slice none (some b) none p2) pos) (tE X.K W (dS (fun k=>(none,some k)) fa fb))):=⟨have ha:=ha.p;have hb:=hb.p;bh (G0 pA ha GI (GJ hb)) fun _ _ _=>tR⟩
theorem lO (ha:Q (PE X a (tE X.K W fa))) (hb:Q (PE X b (tE X.K W fb))):Q (PE X (.Subscript a (.Slice (some b) none none p2) pos) (tE X.K W (dS (fun k=>(some k,none)) fa fb))):=⟨have ha:=ha.p;have hb:=hb.p;bh (G0 pA ha (GJ hb) GI) fun _ _ _=>tR⟩
end TQ
namespace T
open PySem PySem.Spec L2
open PyProof.Rows hiding St
def AO (K:Fg):V->List V->Hp->VK->Prop:=fun x xs H Q=>∃(l:Addr) (ns:List Int) (k:Int) (j:Nat),x=.ref l/\xs=[.int k]/\SqL K H l (ns.map V.int)/\ns[j]?=some k/\(∀m,m<j->ns[m]?≠some k)/\Q (.int j) H
theorem pX:∀{us:List Value} {ns:List Int} {m:Nat} {u:Value} {k:Int},IntsAre us ns->us[m]?=some u->isInt k u=true->ns[m]?=some k
 | _,_,_,_,_,.nil,h,_=>by simp at h
 | _,_,0,_,_,.cons n t r,h,e=>by
  simp at h
  subst h;simp [isInt] at e
  simp [e]
 | _,_,m+1,_,_,.cons n t r,h,e=>by
  simp only [List.getElem?_cons_succ] at h ⊢
  exact pX r h e
theorem mQ:∀{us:List Value} {ns:List Int} {m:Nat} {u:Value} {k:Int},IntsAre us ns->us[m]?=some u->ns[m]?=some k->isInt k u=true
 | _,_,_,_,_,.nil,h,_=>by simp at h
 | _,_,0,_,_,.cons n t r,h,e=>by
  simp at h e
  subst h e;simp [isInt]
 | _,_,m+1,_,_,.cons n t r,h,e=>by
  simp only [List.getElem?_cons_succ] at h e
  exact mQ r h e
theorem rh {X:Cx}:F5 X "list.index" (AO X.K):=by
 intro pins s σ H x xs v us Q I rx rv h;obtain ⟨l,ns,k,j,rfl,rfl,hS,hj,hno,q⟩:=h
 cases rx;obtain ⟨u,rfl,ru⟩:=rv.one;obtain ⟨t,rfl⟩:=ru;obtain ⟨its,r,pl,hz⟩:=I.list hS;have hI:=GD r
 have hl:its.length=ns.length:=by rw [<-r.length,length_map]
 have hjl:j<its.toArray.size:=by rw [size_toArray,hl];exact (List.getElem?_eq_some_iff.mp hj).1
 obtain ⟨o,n,ho,hc,hd,hdt⟩:=pl;obtain ⟨ocls,odict,odata,oslots⟩:=o;simp only at hc hd hdt
 subst hc hd hdt;have hsm:(j:Int)<2 ^ 63-1:=by
  rw [length_map] at hz;have h1:sizeLine<2 ^ 62:=by decide
  have:=(List.getElem?_eq_some_iff.mp hj).1
  omega
 refine call_meets F.slot_list_index ⟨_,ho,rfl⟩ F.entry_list_index (F.args_list_index_2 _ _) (SeqAt.list_indexAt l its.toArray n none oslots (.int k t) (isInt k) j hjl hsm ?_ fun m hm hmj=>?_) ⟨ho,fun y hy=>?_,⟨.int j,H,I.tok _,⟨_,rfl⟩,q⟩⟩
 ·exact mQ hI (m:=j) (u:=its.toArray[j]) (by simp at hjl ⊢) hj
 ·cases e:isInt k its.toArray[m] with
  | false=>rfl
  | true=>exact absurd (pX hI (m:=m) (u:=its.toArray[m]) (by simp at hm ⊢) e) (hno m hmj)
 ·exact (eq_isInt k t hI y (by simpa using hy)).at _ _
def mP:Option (Option PV)->Bool
 | some (some ⟨.leaf,.list _⟩)=>true
 | _=>false
theorem uX {o:Option (Option PV)} (h:mP o=true):∃ds,o=some (some ⟨.leaf,.list ds⟩):=by
 unfold mP at h;split at h
 ·exact ⟨_,rfl⟩
 ·cases h
def zk (k:Int):List Int->Option Nat
 | []=>none
 | n::r=>if n=k then some 0 else (zk k r).map (·+1)
theorem Gg {k:Int}:∀{ns:List Int} {j:Nat},zk k ns=some j->ns[j]?=some k/\∀m,m<j->ns[m]?≠some k
 | [],_,h=>by cases h
 | n::r,j,h=>by
  unfold zk at h;by_cases e:n=k
  ·rw [if_pos e] at h
   cases h;exact ⟨by simp [e],fun m hm=>by omega⟩
  ·rw [if_neg e] at h
   cases hr:zk k r with
   | none=>rw [hr] at h;cases h
   | some j'=>
    rw [hr] at h
    cases h;obtain ⟨h1,h2⟩:=Gg hr;refine ⟨by simpa using h1,fun m hm=>?_⟩
    cases m with
    | zero=>simpa using e
    | succ m=>simpa using h2 m (by have:m+1<j'+1:=hm;omega)
def xO (i:Nat) (q:PV):Ev->Out PV:=fun Γ=>match Γ[i]?,q.d with
 | some (some ⟨.leaf,.list ds⟩),.int k=>(match ql ds with
  | some ns=>(match zk k ns with
   | some j=>.ok ⟨.leaf,.int (j:Nat)⟩ Γ
   | none=>.no)
  | none=>.no)
 | _,_=>.no
def oK (i:Nat) (fb:F1):F1:=fun Γ=>if mP Γ[i]? then (fb Γ).bind (xO i) else .no
section
variable {K:Fg} {W:XW} {σ:St} {H:Hp} {Q:VK} {fb:F1}
theorem pR {He:Hp} {O:List Addr} {Fs:List (List Addr)} {Γ:Ev} {i:Nat} {ds:List PySem.PyData} (E:EnvOk K He O Fs H σ Γ) (h:Γ[i]?=some (some ⟨.leaf,.list ds⟩)):∃l vs,σ[i]?=some (some (.ref l))/\SqL K H l vs/\Reps K H vs ds:=by
 obtain ⟨_,v,F,h1,_,o⟩:=E.slot i _ h;have r:=o.rep
 cases r with
 | @lst a vs _ hq hl hr=>exact ⟨a,vs,h1,hq,hl,hr⟩
theorem Ay {i:Nat} (h:tE K W (oK i fb) σ H Q):Ab K "list" (AO K) (br i) (tA K W (ah fb ai)) σ H Q:=by
 obtain ⟨He,O,Fs,Γ,E,h⟩:=h;unfold oK at h
 cases ho:mP Γ[i]? with
 | false=>rw [ho] at h;exact h.elim
 | true=>
  rw [ho] at h;obtain ⟨ds,e0⟩:=uX ho;obtain ⟨l,vs,h1,h2,h3⟩:=pR E e0;refine ⟨.ref l,h1,.inl ⟨rfl,vs,h2⟩,Eo ?_⟩
  refine zF (k:=xO i) ⟨He,O,Fs,Γ,E,h⟩ fun He O Fs Γ1 q u H1 G Fs1 nd A w=>?_
  unfold xO at w;split at w
  ·rename_i ds1 k e1 e2
   obtain ⟨l1,vs1,q1,q2,q3⟩:=pR A.go e1;rw [h1] at q1
   cases q1;have r:=A.own.rep
   rw [e2] at r
   cases r
   cases hi:ql ds1 with
   | none=>rw [hi] at w;exact w.elim
   | some ns=>
    rw [hi] at w;dsimp only at w
    cases hj:zk k ns with
    | none=>rw [hj] at w;exact w.elim
    | some j=>
     rw [hj] at w;rw [Ho hi] at q3;have ev:=qE q3
     subst ev;obtain ⟨a1,a2⟩:=Gg hj;exact ⟨l,ns,k,j,rfl,rfl,q2,a1,a2,w _ _ _ _ (pS A.go A.same A.newF (.int _))⟩
  ·exact w.elim
end
section
variable {X:Cx} {N gl:List Str} {vs cs ls lo gs:List Nat} {W:XW} {e:Expr} {fe:F1} {p:Pos}
theorem ce_ixN (S:Cp X N gl vs cs ls lo gs) (i:Nat) {x:Str} {apos cpos:Pos} (hi:N[i]?=some x) (hv:vs.contains i=true) (ha:PE X e (tE X.K W fe)) (hbase:attributeBase (.Name x p) "index" X.env (eval (.Name x p) X.env)=eval (.Name x p) X.env) (hs:starEach [e] X.env=[(false,eval e X.env)]) (hline:(apos.endLine==cpos.line)=true) :
  PE X (.Call (.Attribute (.Name x p) "index" apos) [e] [] cpos) (tE X.K W (oK i fe)):=by
 have m:=S.nm x (mem_of_getElem? hi)
 exact bh (mx (T := "list") (r:=AO X.K) F.plainAttrs_list F.slot_list_index F.type_list_index rh (wb (by rw [S.hN];exact hi) (S.vis i x hi hv) m.1 m.2) (da_cons ha da_nil hs) hbase (by rw [hs];rfl) hline hs rfl) fun _ _ _=>Ay
end
end T
namespace TQ
open PySem PySem.Spec L2 T
open PyProof.Rows hiding St
variable {X:Cx} {N gl:List Str} {vs cs ls lo gs:List Nat} {W:XW} {e a:Expr} {fe fa:F1} {p pos:Pos}
theorem sW (S:Cp X N gl vs cs ls lo gs) (i:Nat) {x:Str} {apos cpos:Pos} (hi:N[i]?=some x) (hv:vs.contains i=true) (ha:Q (PE X e (tE X.K W fe))) (hbase:attributeBase (.Name x p) "index" X.env (eval (.Name x p) X.env)=eval (.Name x p) X.env) (hs:starEach [e] X.env=[(false,eval e X.env)]) (hline:(apos.endLine==cpos.line)=true) :
  Q (PE X (.Call (.Attribute (.Name x p) "index" apos) [e] [] cpos) (tE X.K W (oK i fe))):=⟨T.ce_ixN S i hi hv ha.p hbase hs hline⟩
variable {X:Cx} {N gl:List Str} {vs cs ls lo gs:List Nat} {W:XW} {a:Expr} {pos p:Pos} {fa:F1}
end TQ
namespace T
open PySem PySem.Spec L2
open PyProof.Rows hiding St
section
variable {X:Cx} {N gl:List Str} {vs cs ls lo gs:List Nat} {W:XW} {a:Expr} {pos p:Pos} {fa:F1}
theorem cs_setCompE {scope:Scope} {x y z:Str} {px py pt pos' spos cpos:Pos} {kt:Nat} {elt:Expr} {ifs:List Expr} {fe:F1} {fc:FB} {vs' cs' lo' gs':List Nat} (S:Cp X N gl vs cs ls lo gs) (own:Bool) (l:Nat) (s:Sh) (i j:Nat) (hz:N[l]?=some z) (hzl:lo.contains l=true) (hij:(i != j)=true) (hx:N[i]?=some x) (hy:N[j]?=some y) (k:Nat) (hk:gl[k]?=some ("enumerate":Str)) (hg:gs.contains k=true) (hm:X.mg "enumerate"=none)
  (hsl:(pos'.line==pos.line)=true) (hsn:(scope.names.any fun (n,k)=>n==z&&(k==NameKind.local||k==NameKind.cell))=false)
  (h1:zI N [i,j] cs scope=true) (h2:jb N gl vs' cs' [i,j] lo' gs' scope=true) (ha:PE X a (tE X.K W fa)) (hs1:starEach [a] X.env=[(false,eval a X.env)])
  (hc:nT X N gl vs' cs' [i,j] lo' gs' fun Y=>PF Y ifs (tT Y.K W0 fc)) (he:nT X N gl vs' cs' [i,j] lo' gs' fun Y=>PE Y elt (tE Y.K W0 fe)) (hs:∀x,foldedSetIterable (.Call (.Name "enumerate" p) [a] [] cpos) X.env x=pure x) :
  PS X (.Assign [.Name z pos'] (.ListComp elt [⟨.Tuple [.Name x px,.Name y py] kt pt,.Call (.Name "enumerate" p) [a] [] cpos,ifs,0⟩] scope pos) spos) (tS X.K W (aD own l (ic s i j fa fc fe))):=by
 have B:=fun cells C s₀ H₀ ex=>S.blk h2 cells C s₀ H₀ ex
 have L:=fun cells C s₀ H₀ ex=>(B cells C s₀ H₀ ex).loc i x hx (by simp)
 have L2':=fun cells C s₀ H₀ ex=>(B cells C s₀ H₀ ex).loc j y hy (by simp)
 have hN:X.N.Nodup:=by rw [S.hN];exact S.nd
 exact dy (Fd hN (by rw [S.hN];exact hz) (S.loo l z hz hzl) (E8 S h1) S.calm (GH (S.g hk hg).1 hm (da_cons ha da_nil hs1) hs1)
  (fun cells C s₀ H₀ ex=>Em (X:=blk X scope cells C s₀ H₀ ex) S.calm (yM (nW (X:=blk X scope cells C s₀ H₀ ex) (i:=i) hN (by show X.N[i]?=_;rw [S.hN];exact hx) (L cells C s₀ H₀ ex).1 (L cells C s₀ H₀ ex).2) (yM (nW (X:=blk X scope cells C s₀ H₀ ex) (i:=j) hN (by show X.N[j]?=_;rw [S.hN];exact hy) (L2' cells C s₀ H₀ ex).1 (L2' cells C s₀ H₀ ex).2) Es)))
  (fun cells C s₀ H₀ ex=>hc _ (B cells C s₀ H₀ ex) ⟨rfl,rfl,rfl,rfl,rfl,rfl⟩) (fun cells C s₀ H₀ ex=>he _ (B cells C s₀ H₀ ex) ⟨rfl,rfl,rfl,rfl,rfl,rfl⟩) (Fe S.kind (S.loo l z hz hzl) hsl hsn) hs) fun D σ H h=>by
   have h2:fQ (tE X.K W (ic s i j fa fc fe)) (bQ l) D σ H:=Gn h
   exact me (by simpa using hij) h2
end
end T
namespace TQ
open PySem PySem.Spec L2 T
open PyProof.Rows hiding St
variable {X:Cx} {N gl:List Str} {vs cs ls lo gs:List Nat} {W:XW} {a:Expr} {pos p:Pos} {fa:F1}
theorem Fm {scope:Scope} {x y z:Str} {px py pt pos' spos cpos:Pos} {kt:Nat} {elt:Expr} {ifs:List Expr} {fe:F1} {fc:FB} {vs' cs' lo' gs':List Nat} (S:Cp X N gl vs cs ls lo gs) (own:Bool) (l:Nat) (s:Sh) (i j:Nat) (hz:N[l]?=some z) (hzl:lo.contains l=true) (hij:(i != j)=true) (hx:N[i]?=some x) (hy:N[j]?=some y) (k:Nat) (hk:gl[k]?=some ("enumerate":Str)) (hg:gs.contains k=true) (hm:X.mg "enumerate"=none)
  (hsl:(pos'.line==pos.line)=true) (hsn:(scope.names.any fun (n,k)=>n==z&&(k==NameKind.local||k==NameKind.cell))=false)
  (h1:zI N [i,j] cs scope=true) (h2:jb N gl vs' cs' [i,j] lo' gs' scope=true) (ha:Q (PE X a (tE X.K W fa))) (hs1:starEach [a] X.env=[(false,eval a X.env)])
  (hc:nT X N gl vs' cs' [i,j] lo' gs' fun Y=>Q (PF Y ifs (tT Y.K W0 fc))) (he:nT X N gl vs' cs' [i,j] lo' gs' fun Y=>Q (PE Y elt (tE Y.K W0 fe))) (hs:∀x,foldedSetIterable (.Call (.Name "enumerate" p) [a] [] cpos) X.env x=pure x) :
  Q (PS X (.Assign [.Name z pos'] (.ListComp elt [⟨.Tuple [.Name x px,.Name y py] kt pt,.Call (.Name "enumerate" p) [a] [] cpos,ifs,0⟩] scope pos) spos) (tS X.K W (aD own l (ic s i j fa fc fe)))):=⟨T.cs_setCompE S own l s i j hz hzl hij hx hy k hk hg hm hsl hsn h1 h2 ha.p hs1 (fun Y S' F=>(hc Y S' F).p) (fun Y S' F=>(he Y S' F).p) hs⟩
end TQ
namespace T
open PySem PySem.Spec L2
open PyProof.Rows hiding St
theorem CO:(1000:Nat)<=sizeLine:=by decide
theorem HA {i:Nat} {fc:FB} {fe:F1} {s:Sh} {c:D->Bool} {f:D->PV} {Γ:Ev} (hΓ:Γ.set i none=Γ):∀(r acc:List D),(∀d∈r,fc (Γ.set i (some ⟨.leaf,d⟩))=.ok (c d) (Γ.set i (some ⟨.leaf,d⟩))) ->
  (∀d∈r,c d=true->fe (Γ.set i (some ⟨.leaf,d⟩))=.ok (f d) (Γ.set i (some ⟨.leaf,d⟩))/\coer s (f d)=true)->acc.length+r.length<=sizeLine->qk i fc fe s r Γ acc=.ok (acc++((r.filter c).map fun d=>(f d).d)) Γ
 | [],acc,_,_,_=>by simp [qk]
 | d::r,acc,hc,he,hl=>by
  have h1:=hc d mem_cons_self
  have hl1:acc.length<sizeLine:=by simp at hl;omega
  have back:(Γ.set i (some ⟨.leaf,d⟩)).set i none=Γ:=by rw [set_set];exact hΓ
  rw [qk,h1]
  cases hcd:c d with
  | false=>
   dsimp only;rw [if_pos hl1,back,HA hΓ r acc (fun d hd=>hc d (mem_cons_of_mem _ hd)) (fun d hd=>he d (mem_cons_of_mem _ hd)) (by simp at hl;omega)]
   rw [List.filter_cons_of_neg (by rw [hcd];exact Bool.false_ne_true)]
  | true=>
   obtain ⟨h2,h3⟩:=he d mem_cons_self hcd;dsimp only;rw [h2];dsimp only;rw [h3,decide_eq_true hl1,Bool.and_self,if_pos rfl,back,HA hΓ r (acc++[(f d).d]) (fun d hd=>hc d (mem_cons_of_mem _ hd)) (fun d hd=>he d (mem_cons_of_mem _ hd)) (by simp at hl ⊢;omega)]
   rw [List.filter_cons_of_pos hcd,map_cons,append_assoc];rfl
theorem iT {s:Sh} {i:Nat} {fi:FI} {fc:FB} {fe:F1} {c:D->Bool} {f:D->PV} {ds:List D} {st:Bool} {Γ:Ev} (hi:fi Γ=.ok ⟨ds,st⟩ Γ) (hl:i<Γ.length) (hs:s.isView=false) (hn:ds.length<=1000)
  (hc:∀d∈ds,fc (Γ.set i (some ⟨.leaf,d⟩))=.ok (c d) (Γ.set i (some ⟨.leaf,d⟩))) (he:∀d∈ds,c d=true->fe (Γ.set i (some ⟨.leaf,d⟩))=.ok (f d) (Γ.set i (some ⟨.leaf,d⟩))/\coer s (f d)=true) :
  av s i fi fc fe Γ=.ok ⟨.lst s,.list ((ds.filter c).map fun d=>(f d).d)⟩ Γ:=by
 have hb:=CO
 unfold av;rw [hi];unfold Out.bind;dsimp only;rw [HA (c:=c) (f:=f) (by rw [set_set]) ds [] (fun d hd=>by rw [set_set];exact hc d hd) (fun d hd=>by rw [set_set];exact he d hd) (by simp;omega)]
 dsimp only;rw [hs,decide_eq_true hl];simp only [Bool.not_false,Bool.and_self,if_true,nil_append,set_set]
 have:Γ.set i (Γ.getD i none)=Γ:=by
  apply yN
  rw [getD_eq_getElem?_getD,getElem?_eq_getElem hl];rfl
 rw [this]
theorem Cs {s:Sh} {i:Nat} {fi:FI} {fe:F1} {f:D->PV} {ds:List D} {st:Bool} {Γ:Ev} (hi:fi Γ=.ok ⟨ds,st⟩ Γ) (hl:i<Γ.length) (hs:s.isView=false) (hn:ds.length<=1000)
  (he:∀d∈ds,fe (Γ.set i (some ⟨.leaf,d⟩))=.ok (f d) (Γ.set i (some ⟨.leaf,d⟩))/\coer s (f d)=true) :
  av s i fi aG fe Γ=.ok ⟨.lst s,.list (ds.map fun d=>(f d).d)⟩ Γ:=by
 rw [iT (fc:=aG) (c:=fun _=>true) (f:=f) hi hl hs hn (fun d hd=>rfl) fun d hd _=>he d hd,List.filter_eq_self.mpr fun _ _=>rfl]
theorem GW {P:Nat->Ev->Prop} {i:Nat} {body:FS}:∀(ds:List D) (n:Nat) (Γ:Ev),P n Γ->(∀k d Γ,d∈ds->n<=k->k<n+ds.length->P k Γ->i<Γ.length/\∃Γ',body (Γ.set i (some ⟨.leaf,d⟩))=.nx Γ'/\P (k+1) Γ')->∃Γ',b9 i body ds Γ=.nx Γ'/\P (n+ds.length) Γ'
 | [],n,Γ,h,_=>⟨Γ,rfl,h⟩
 | d::r,n,Γ,h,st=>by
  obtain ⟨hi,Γ1,e1,h1⟩:=st n d Γ mem_cons_self (Nat.le_refl _) (by simp) h
  obtain ⟨Γ2,e2,h2⟩:=GW r (n+1) Γ1 h1 fun k d Γ hd a b c=>st k d Γ (mem_cons_of_mem _ hd) (by omega) (by simp;omega) c
  refine ⟨Γ2,?_,?_⟩
  ·rw [b9,if_pos hi,e1]
   exact e2
  ·rw [length_cons,show n+(r.length+1)=n+1+r.length by omega]
   exact h2
theorem GY {any:Bool} {α:Type} {xs:List α} {f:α->Bool}:sx (xs.map fun x=>.bool (f x))=some (xs.map f):=by
 induction xs with
 | nil=>rfl
 | cons x r ih=>rw [map_cons,sx,ih];rfl
theorem wj {α:Type} {xs:List α} {f:α->Bool}:b8 false [.list (xs.map fun x=>.bool (f x))]=some (.bool (xs.all f)):=by
 show Option.map _ (sx _)=_
 rw [GY (any:=false)];simp [List.all_map]
section
variable {Γ Γ1 Γ2:Ev} {fa fb fc:F1} {fl:FL} {p q:PV} {ps:List PV} {d e:D} {s s' s2:Sh} {i j n:Nat}
theorem aA (h:Γ[i]?=some (some ⟨.leaf,d⟩)):ae i Γ=.ok ⟨.leaf,d⟩ Γ:=by unfold ae;rw [h]
theorem C0 (h:Γ[i]?=some (some ⟨.lst s,d⟩)):ae i Γ=.ok ⟨.view,d⟩ Γ:=by unfold ae;rw [h]
theorem zG (h:Γ[i]?=some (some p)):cz i Γ=.ok p (Γ.set i none):=by unfold cz;rw [h]
theorem bt:eK d Γ=.ok ⟨.leaf,d⟩ Γ:=rfl
theorem aY {g:D->D->Option D} (ha:fa Γ=.ok p Γ1) (hb:fb Γ1=.ok q Γ2) (hg:g p.d q.d=some d):aE g fa fb Γ=.ok ⟨.leaf,d⟩ Γ2:=by
 unfold aE aW;rw [ha];simp only [Out.bind];rw [hb];simp only [hg]
theorem Fn {g:D->Option D} (ha:fa Γ=.ok p Γ1) (hg:g p.d=some d):eU g fa Γ=.ok ⟨.leaf,d⟩ Γ1:=by
 unfold eU aW;rw [ha];simp only [Out.bind,hg]
theorem aC (ha:fa Γ=.ok p Γ1) (hl:fl Γ1=.ok ps Γ2):ah fa fl Γ=.ok (p::ps) Γ2:=by
 unfold ah;rw [ha];simp only [Out.bind];rw [hl]
theorem aq:ai Γ=.ok [] Γ:=rfl
theorem dg {g:List D->Option D} (hl:fl Γ=.ok ps Γ1) (hg:g (ps.map (·.d))=some d):bM g fl Γ=.ok ⟨.leaf,d⟩ Γ1:=by
 unfold bM;rw [hl];simp only [Out.bind];rw [hg]
theorem bH {den:List D->bN} (hl:fl Γ=.ok ps Γ1) (hd:den (ps.map (·.d))=.ok p) (hn:ps.length=n) (hc:ps.all (coer .leaf)=true):aj n den fl Γ=.ok p Γ1:=by
 unfold aj;rw [hl];simp only [Out.bind,hn,hd,hc,if_true]
theorem we {ds:List D} {k:Int} (ha:fa Γ=.ok ⟨s,.list ds⟩ Γ1) (hb:fb Γ1=.ok ⟨s',.int k⟩ Γ2) (hi:d9 ds.length k=some j) (hd:ds[j]?=some d) (hs:nQ s j d=some s2):ak fa fb Γ=.ok ⟨s2,d⟩ Γ2:=by
 unfold ak aW;rw [ha];simp only [Out.bind];rw [hb];simp only [hi,hd,hs]
theorem h9 {ds:List D} {k:Int} (ha:fa Γ=.ok ⟨s,.tuple ds⟩ Γ1) (hb:fb Γ1=.ok ⟨s',.int k⟩ Γ2) (hi:d9 ds.length k=some j) (hd:ds[j]?=some d) (hs:nQ s j d=some s2):ak fa fb Γ=.ok ⟨s2,d⟩ Γ2:=by
 unfold ak aW;rw [ha];simp only [Out.bind];rw [hb];simp only [hi,hd,hs]
theorem zS {x:Str} {k:Int} {c:Nat} (ha:fa Γ=.ok ⟨s,.str x⟩ Γ1) (hb:fb Γ1=.ok ⟨s',.int k⟩ Γ2) (hn:x.length<=sizeLine) (hi:eh x.cps.toList k=some c):ak fa fb Γ=.ok ⟨.leaf,.str ⟨#[c]⟩⟩ Γ2:=by
 unfold ak aW;rw [ha];simp only [Out.bind];rw [hb];simp only [hi,hn,if_true]
theorem lE (hl:fl Γ=.ok ps Γ1) (hs:s.isView=false) (hc:ps.all (coer s)=true) (hn:decide (ps.length<=1000)=true):aU s fl Γ=.ok ⟨.lst s,.list (ps.map (·.d))⟩ Γ1:=by
 have h2:ps.length<=sizeLine:=Nat.le_trans (of_decide_eq_true hn) CO
 unfold aU;rw [hl];simp only [Out.bind,hs,hc,decide_eq_true h2,Bool.not_false,Bool.and_self,if_true]
theorem et (hl:fl Γ=.ok ps Γ1) (hc:ps.all tok=true) (hn:decide (ps.length<=1000)=true):cQ fl Γ=.ok ⟨.tup (ps.map wx),.tuple (ps.map (·.d))⟩ Γ1:=by
 have h2:ps.length<=sizeLine:=Nat.le_trans (of_decide_eq_true hn) CO
 unfold cQ;rw [hl];simp only [Out.bind,hc,decide_eq_true h2,Bool.and_self,if_true]
theorem Cv {ds:List D} (ha:fa Γ=.ok ⟨s,.list ds⟩ Γ1) (ho:dD ⟨s,.list ds⟩ ds=true):km fa Γ=.ok ⟨.lst .leaf,.list ds⟩ Γ1:=by
 unfold km aW;rw [ha];simp only [Out.bind,ho,if_true]
theorem v_and {a b:Bool} (ha:fa Γ=.ok ⟨s,.bool a⟩ Γ) (hb:fb Γ=.ok ⟨.leaf,.bool b⟩ Γ):eF fa fb Γ=.ok ⟨.leaf,.bool (a&&b)⟩ Γ:=by
 unfold eF aW;rw [ha];simp only [Out.bind]
 cases a with
 | false=>rfl
 | true=>exact hb
theorem GQ {g g':D->D->Option D} {b b':Bool} (ha:fa Γ=.ok p Γ) (hb:fb Γ=.ok q Γ) (hg:g p.d q.d=some (.bool b)) (hs:bJ q.d=true) {z:PV} (hc:fc Γ=.ok z Γ) (hg':g' q.d z.d=some (.bool b')):sC g g' fa fb fc Γ=.ok ⟨.leaf,.bool (b&&b')⟩ Γ:=by
 unfold sC aW;rw [ha];simp only [Out.bind];rw [hb];simp only [hg]
 cases b with
 | false=>rfl
 | true=>simp only [hs,if_true,hc,hg',Bool.true_and]
theorem gR (ha:fa Γ=.ok ⟨s,.bool b⟩ Γ1):aQ ax fa Γ=.ok b Γ1:=by unfold aQ;rw [ha];rfl
theorem kc (ha:fa Γ=.ok ⟨s,.bool b⟩ Γ1):aQ bF fa Γ=.ok b Γ1:=by unfold aQ;rw [ha];rfl
theorem gP {ga:FB} {b:Bool} (h:ga Γ=.ok b Γ1):dr ga Γ=.ok (!b) Γ1:=by unfold dr;rw [h];rfl
theorem zy {ga gb:FB} {a b:Bool} (ha:ga Γ=.ok a Γ) (hb:gb Γ=.ok b Γ):gz ga gb Γ=.ok (a&&b) Γ:=by
 unfold gz;rw [ha];simp only [Out.bind]
 cases a with
 | false=>rfl
 | true=>exact hb
theorem r9 {ga gb:FB} {a b:Bool} (ha:ga Γ=.ok a Γ) (hb:gb Γ=.ok b Γ):nK ga gb Γ=.ok (a||b) Γ:=by
 unfold nK;rw [ha];simp only [Out.bind]
 cases a with
 | false=>exact hb
 | true=>rfl
theorem bZ {ds:List D} (ha:fa Γ=.ok ⟨s,.list ds⟩ Γ1) (ho:dD ⟨s,.list ds⟩ ds=true):aF fa Γ=.ok ⟨ds,!s.isView⟩ Γ1:=by
 unfold aF;rw [ha];simp only [Out.bind,ho,if_true]
theorem sN {k:Int} (hl:fl Γ=.ok ps Γ1) (hp:ps.map (·.d)=[.int k]) (h0:-1000<=k) (h1:k<=100000):gk fl Γ=.ok ⟨cj 0 k.toNat,true⟩ Γ1:=by
 have h3:dq k=true:=by unfold dq;simp only [Bool.and_eq_true,decide_eq_true_eq];omega
 unfold gk;rw [hl];simp only [Out.bind,hp,jn,h3,if_true]
theorem CY {k m:Int} (hl:fl Γ=.ok ps Γ1) (hp:ps.map (·.d)=[.int k,.int m]) (h0:-1000<=k) (h1:k<=100000) (h2:-1000<=m) (h4:m<=100000):xS fl Γ=.ok ⟨cj k (m-k).toNat,true⟩ Γ1:=by
 have h3:dq k=true:=by unfold dq;simp only [Bool.and_eq_true,decide_eq_true_eq];omega
 have h5:dq m=true:=by unfold dq;simp only [Bool.and_eq_true,decide_eq_true_eq];omega
 unfold xS;rw [hl];simp only [Out.bind,hp,qD,h3,h5,Bool.and_self,if_true]
theorem az {g1 g2:FS} {o:fJ} (h1:g1 Γ=.nx Γ1) (h2:g2 Γ1=o):aw g1 g2 Γ=o:=by unfold aw;rw [h1];exact h2
theorem yK {g1 g2:FS} (h1:g1 Γ=.rt p):aw g1 g2 Γ=.rt p:=by unfold aw;rw [h1]
theorem cb {c:FB} {a b:FS} {t:Bool} {o:fJ} (hc:c Γ=.ok t Γ1) (ht:t=true->a Γ1=o) (hf:t=false->b Γ1=o):cF c a b Γ=o:=by
 unfold cF;rw [hc]
 cases t with
 | true=>exact ht rfl
 | false=>exact hf rfl
theorem ba (h:fa Γ=.ok p Γ1) (hs:p.s.isView=false):aP fa Γ=.rt p:=by
 unfold aP gX;rw [h];simp only [hs];rfl
theorem cD (h:fa Γ=.ok p Γ1) (hc:coer .leaf p=true) (hi:i<Γ1.length):aD false i fa Γ=.nx (Γ1.set i (some ⟨.leaf,p.d⟩)):=by
 unfold aD gX;rw [h];simp only [hi,if_true,hc,Bool.false_and];rfl
theorem yL (h:fa Γ=.ok p Γ1) (hs:p.s.isView=false) (hi:i<Γ1.length):aD true i fa Γ=.nx (Γ1.set i (some p)):=by
 unfold aD gX;rw [h];simp only [hi,if_true,hs,Bool.true_and,Bool.not_false]
theorem EM {ds:List D} (ho:Γ[i]?=some (some ⟨.lst s,.list ds⟩)) (h:fa Γ=.ok p Γ) (hc:coer s p=true) (hn:ds.length<=900):eV i fa Γ=.nx (Γ.set i (some ⟨.lst s,.list (ds++[p.d])⟩)):=by
 have h2:ds.length<sizeLine:=Nat.lt_of_lt_of_le (by omega:ds.length<1000) CO
 unfold eV Cm;rw [ho];simp only [if_true];unfold gX;rw [h];simp only;unfold yw;rw [ho];simp only [hc,decide_eq_true h2,Bool.and_self,if_true]
theorem sJ {ds:List D} {k:Int} (ho:Γ[i]?=some (some ⟨.lst .leaf,.list ds⟩)) (h:fa Γ=.ok p Γ) (hk:fb Γ=.ok ⟨s,.int k⟩ Γ) (hi:d9 ds.length k=some j) (hc:coer .leaf p=true):ez i fa fb Γ=.nx (Γ.set i (some ⟨.lst .leaf,.list (ds.set j p.d)⟩)):=by
 unfold ez sA;rw [ho];simp only [if_true];unfold gX;rw [h];simp only;rw [hk];simp only;unfold Ag;rw [ho];simp only [hi,hc,if_true]
theorem eX {fi:FI} {body:FS} {ds:List D} {o:fJ} (h:fi Γ=.ok ⟨ds,true⟩ Γ1) (hg:b9 i body ds Γ1=o):dz i fi body Γ=o:=by unfold dz;rw [h];exact hg
end
end T
namespace KC
open PySem PySem.Spec L2 T
open PyProof.Rows hiding St
noncomputable def bV:PySem.PyData:=.tuple [.str "a",.str "b",.str "c",.str "d",.str "e",.str "f"]
noncomputable def bU:PySem.PyData:=.tuple [.int 0,.int 1]
noncomputable def dR:PySem.PyData:=.int 24
noncomputable def mM:PySem.PyData:=.tuple [.str "some until",.str "all until"]
noncomputable def mN:PySem.PyData:=.tuple [.str "some always",.str "all always"]
noncomputable def iM:PySem.PyData:=.tuple [.str "some next",.str "some until",.str "all always"]
noncomputable def wA:List (Str×Int):=[("yes",0),("not",1),("some next",1),("all next",1),("some always",1),("all always",1),("and",2),("or",2),("some until",2),("all until",2)]
noncomputable def nu:FS:=(aP (bM (b8 false) (ah (av .leaf 1 (xS (ah (eK (.int 1)) (ah (bM bL (ah (ae 0) ai)) ai))) aG (aE ia (ak (ae 0) (aE gSub (ae 1) (eK (.int 1)))) (ak (ae 0) (ae 1)))) ai)))
noncomputable def dv:List PySem.PyData->bN:=aL 2 nu
noncomputable def nD:FS:=(aP (eF (bM (b8 false) (ah (av .leaf 1 (aF (ae 0)) aG (aE (bG false) (ae 1) (eK bV))) ai)) (aj 1 dv (ah (ae 0) ai))))
noncomputable def bE:List PySem.PyData->bN:=aL 2 nD
noncomputable def nC:FS:=(aP (eF (bM (b8 false) (ah (av .leaf 2 (aF (ae 0)) aG (sC zq ia (eK (.int 0)) (ae 2) (ae 1))) ai)) (aj 1 dv (ah (ae 0) ai))))
noncomputable def cO:List PySem.PyData->bN:=aL 3 nC
noncomputable def nB:FS:=(aP (eF (aE mT (bM bL (ah (ae 0) ai)) (eK (.int 0))) (aj 2 cO (ah (ae 0) (ah (ae 1) ai)))))
noncomputable def dw:List PySem.PyData->bN:=aL 2 nB
noncomputable def oR:FS:=(aw (aD false 3 (bM bL (ah (ae 0) ai)))
  (aw (cF (nK (aQ ax (aE ia (ae 3) (eK (.int 1)))) (nK (aQ ax (aE mT (ae 3) (eK dR))) (nK (aQ ax (aE iR (bM bL (ah (ae 1) ai)) (ae 3))) (aQ ax (aE iR (bM bL (ah (ae 2) ai)) (ae 3)))))) (aP (eK (.bool false))) aS)
  (aw (cF (dr (aQ bF (bM (b8 false) (ah (av .leaf 4 (aF (ae 0)) aG (aE (bG false) (ae 4) (eK bU))) ai)))) (aP (eK (.bool false))) aS)
  (aP (eF (bM (b8 false) (ah (av .leaf 5 (aF (ae 1)) aG (aj 1 bE (ah (ae 5) ai))) ai)) (bM (b8 false) (ah (av .leaf 5 (aF (ae 2)) aG (aj 2 dw (ah (ae 5) (ah (ae 3) ai)))) ai)))))))
noncomputable def dN:List PySem.PyData->bN:=aL 6 oR
noncomputable def jz:FS:=(cF (dr (aQ bF (aj 3 dN (ah (ak (ae 0) (eK (.int 0))) (ah (ak (ae 0) (eK (.int 1))) (ah (ak (ae 0) (eK (.int 2))) ai)))))) tM aS)
noncomputable def aJ:List PySem.PyData->bN:=aL 1 jz
noncomputable def fz:FS:=(aP (av .leaf 2 (gk (ah (bM bL (ah (ak (ae 0) (eK (.int 0))) ai)) ai)) (aQ ax (aE (bG true) (ae 2) (ae 1))) (ae 2)))
noncomputable def dA:List PySem.PyData->bN:=aL 3 fz
noncomputable def ny:FS:=(aP (vW (aQ bF (ae 0)) (bM (b8 true) (ah (ae 1) ai)) (bM (b8 false) (ah (ae 1) ai))))
noncomputable def dF:List PySem.PyData->bN:=aL 2 ny
noncomputable def fy:FS:=(aw (aD true 4 (aU .leaf ai))
  (aw (dz 5 (aF (ae 2))
  (cF (gz (aQ ax (aE (bx false) (ak (ae 3) (ae 5)) (eK .none))) (aQ bF (aj 2 dF (ah (ak (ae 1) (ae 5)) (ah (av .leaf 6 (aF (ak (ak (ae 0) (eK (.int 2))) (ae 5))) aG (aE (bx true) (ak (ae 3) (ae 6)) (eK .none))) ai))))) (eV 4 (ae 5)) aS))
  (aP (cz 4))))
noncomputable def b6:List PySem.PyData->bN:=aL 7 fy
noncomputable def iZ:FS:=(aw (aD true 4 (av .leaf 8 (aF (ak (ae 0) (eK (.int 0)))) aG (eK .none)))
  (aw (aD false 5 (eK (.int 0)))
  (aw (aD false 6 (ae 3))
  (aw (nU 1000 (aQ bF (ae 6))
  (aw (dz 7 (aF (ae 6))
  (ez 4 (ae 5) (ae 7)))
  (aw (fR 5 (eK (.int 1)))
  (aD false 6 (zC 4 b6 (ah (ae 0) (ah (ae 1) (ah (ae 2) (ah (ae 4) ai)))))))))
  (aP (cz 4))))))
noncomputable def bT:List PySem.PyData->bN:=aL 9 iZ
noncomputable def i4:FS:=(aw (cF (aQ ax (aE ia (ae 1) (bM bL (ah (ae 0) ai)))) (aP (ak (ae 0) (ae 1))) aS)
  (aP (eK (.int 0))))
noncomputable def aH:List PySem.PyData->bN:=aL 2 i4
noncomputable def nF:FS:=(aw (cF (aQ ax (aE oH (ae 0) (aE x2 (eK (.int 10)) (eK (.int 18))))) (aw (aD false 4 (ae 0))
  (aw (dz 5 (gk (ah (ae 1) ai))
  (aD false 4 (aE vb (ae 4) (ae 2))))
  (aP (aE gc (ae 4) (ae 2))))) aS)
  (aw (aD false 3 (aE gc (aE mS (aE bf (aE bf (aE gc (ae 0) (eK (.int 1000000007))) (aE mS (eK (.int 1009)) (ae 1))) (eK (.int 17))) (eK (.int 69621))) (eK (.int 2147483647))))
  (aw (aD false 3 (aE gc (aE bf (aE bf (aE mS (ae 3) (ae 3)) (aE mS (eK (.int 40503)) (ae 1))) (eK (.int 5))) (eK (.int 2147483629))))
  (aP (aE gc (aE vb (aE gc (aE mS (ae 3) (eK (.int 48271))) (eK (.int 2147483647))) (eK (.int 32))) (ae 2))))))
noncomputable def aB:List PySem.PyData->bN:=aL 6 nF
noncomputable def d__law_world:FS:=(aw (aD false 3 (aE bf (eK (.int 1)) (aE gc (aj 2 aH (ah (ae 0) (ah (ae 1) ai))) (ae 2))))
  (aw (aD true 4 (aU .leaf ai))
  (aw (aD true 5 (aU .leaf ai))
  (aw (aD true 6 (aU .leaf ai))
  (aw (dz 7 (gk (ah (ae 3) ai))
  (aw (aD false 8 (aj 2 aH (ah (ae 0) (ah (aE bf (aE bf (ae 1) (eK (.int 1))) (ae 7)) ai))))
  (aw (eV 4 (aj 3 aB (ah (ae 8) (ah (eK (.int 0)) (ah (eK (.int 2)) ai)))))
  (aw (eV 5 (av .leaf 11 (gk (ah (eK (.int 3)) ai)) (aQ ax (aE cV (aj 3 aB (ah (ae 8) (ah (aE bf (eK (.int 1)) (ae 11)) (ah (eK (.int 2)) ai)))) (eK (.int 1)))) (ak (eK (.str "abc")) (ae 11))))
  (aw (aD false 9 (av .leaf 10 (gk (ah (ae 3) ai)) (aQ ax (aE cV (aj 3 aB (ah (ae 8) (ah (aE bf (eK (.int 4)) (ae 10)) (ah (aE bf (eK (.int 2)) (bM oG (ah (aE mT (ae 3) (eK (.int 3))) ai))) ai)))) (eK (.int 1)))) (ae 10)))
  (aw (cF (aQ ax (aE cV (ae 9) (aU .leaf ai))) (aD false 9 (aU .leaf (ah (aj 3 aB (ah (ae 8) (ah (aE bf (eK (.int 4)) (ae 3)) (ah (ae 3) ai)))) ai))) aS)
  (eV 6 (ae 9))))))))
  (aP (cQ (ah (cz 4) (ah (cz 5) (ah (cz 6) ai))))))))))
noncomputable def m__law_world:List PySem.PyData->bN:=aL 12 d__law_world
open PySem.SeqAt
noncomputable def FN (a b:D):Bool:=match ia a b with
 | some (.bool t)=>t
 | _=>false
noncomputable def hZ (ds:List D):Prop:=∀a∈ds,∃n,a=.int n
noncomputable def jB (ds:List D):Prop:=∀a∈ds,∃x,a=.str x/\PyData.strOk x=true
noncomputable def Row (ds:List D):Prop:=hZ ds\/jB ds
theorem zE (i:Int):shaped (.int i)=true:=by simp [shaped,PyData.canLay0,PyData.depth]
theorem tx {x:Str} (h:PyData.strOk x=true):shaped (.str x)=true:=by simp [shaped,PyData.canLay0,PyData.depth,h]
theorem Row.lt {ds:List D} {a b:D} (h:Row ds) (ha:a∈ds) (hb:b∈ds):ia a b=some (.bool (FN a b))/\oH a b=some (.bool (!FN a b)):=by
 rcases h with h | h
 ·obtain ⟨n,rfl⟩:=h a ha
  obtain ⟨m,rfl⟩:=h b hb;refine ⟨rfl,?_⟩
  show some (PyData.bool (decide (m<=n)))=some (.bool (!decide (n<m)))
  congr 2
  by_cases q:n<m
  ·simp [q,Int.not_le.mpr q]
  ·simp [q,Int.not_lt.mp q]
 ·obtain ⟨n,rfl,_⟩:=h a ha
  obtain ⟨m,rfl,_⟩:=h b hb;exact ⟨rfl,rfl⟩
noncomputable def zj (ds:List D) (d:D):Bool:=match d with
 | .int j=>FN (ds.getD (j-1).toNat .none) (ds.getD j.toNat .none)
 | _=>false
noncomputable def eZ (ds:List D):Bool:=(cj 1 ((ds.length:Int)-1).toNat).all (zj ds)
theorem CM {lo:Int} {n:Nat} {d:D} (h:d∈cj lo n):∃k:Nat,k<n/\d=.int (lo+k):=by
 unfold cj at h;simp only [mem_map,mem_range] at h
 obtain ⟨k,hk,e⟩:=h;exact ⟨k,hk,e.symm⟩
theorem Ey {lo:Int} {n:Nat}:(cj lo n).length=n:=by unfold cj;simp
theorem v7 {n:Nat} {k:Nat} (h:k<n):d9 n (k:Int)=some k:=by
 unfold d9;rw [if_pos (by omega),if_pos (by omega)]
 simp
theorem DH {n:Nat} {i:Int} (h0:0<=i) (h1:i<n):d9 n i=some i.toNat:=by
 unfold d9;rw [if_pos h0,if_pos h1]
theorem BG {i:Int} (h0:-1000<=i) (h1:i<=100000):dq i=true:=by
 unfold dq;simp only [Bool.and_eq_true,decide_eq_true_eq]
 omega
theorem Ej {ds:List D} {k:Nat} (h:k<ds.length):ds[k]?=some (ds.getD k .none):=by
 rw [getD_eq_getElem?_getD,getElem?_eq_getElem h];rfl
theorem getD_mem {ds:List D} {k:Nat} (h:k<ds.length):ds.getD k .none∈ds:=mem_of_getElem? (Ej h)
theorem DG {ds:List D} {k:Nat} (h:Row ds) (hk:k<((ds.length:Int)-1).toNat):d9 ds.length (1+(k:Int)-1)=some k/\d9 ds.length (1+(k:Int))=some (k+1)/\ds[k]?=some (ds.getD k .none)/\ds[k+1]?=some (ds.getD (k+1) .none) /\
  ia (ds.getD k .none) (ds.getD (k+1) .none)=some (.bool (zj ds (.int (1+(k:Int)))))/\oH (ds.getD k .none) (ds.getD (k+1) .none)=some (.bool (!zj ds (.int (1+(k:Int))))):=by
 have h1:k<ds.length:=by omega
 have h2:k+1<ds.length:=by omega
 have l:=h.lt (getD_mem h1) (getD_mem h2)
 have e3:zj ds (.int (1+(k:Int)))=FN (ds.getD k .none) (ds.getD (k+1) .none):=by
  unfold zj;dsimp only;rw [show (1+(k:Int)-1).toNat=k by omega,show (1+(k:Int)).toNat=k+1 by omega]
 rw [e3];exact ⟨by rw [show (1+(k:Int)-1)=k by omega];exact v7 h1,by rw [show (1+(k:Int))=((k+1:Nat):Int) by omega];exact v7 h2,Ej h1,Ej h2,l.1,l.2⟩
theorem aT {n:Nat} {g:FS} {ds:List D} {p:PV} (h:g (aN n ds)=.rt p):aL n g ds=.ok p:=by unfold aL;rw [h]
theorem eq_int {a b:Int}:cV (.int a) (.int b)=some (.bool (a==b)):=by
 unfold cV;rw [zE,zE,Bool.and_self,if_pos rfl,PyData.eqv]
theorem fq {ds:List D} (h:Row ds) (hl:ds.length<=100):dv [.list ds]=.ok ⟨.leaf,.bool (eZ ds)⟩:=by
 have hc:av .leaf 1 (xS (ah (eK (.int 1)) (ah (bM bL (ah (ae 0) ai)) ai))) aG (aE ia (ak (ae 0) (aE gSub (ae 1) (eK (.int 1)))) (ak (ae 0) (ae 1))) [some ⟨.leaf,.list ds⟩,none] =
   .ok ⟨.lst .leaf,.list ((cj 1 ((ds.length:Int)-1).toNat).map fun d=>.bool (zj ds d))⟩ [some ⟨.leaf,.list ds⟩,none]:=by
  refine Cs (f:=fun d=>⟨.leaf,.bool (zj ds d)⟩) (st:=true) (CY (k:=1) (m:=(ds.length:Int)) (aC bt (aC (dg (aC (aA rfl) aq) rfl) aq)) rfl (by omega) (by omega) (by omega) (by omega)) (by simp) rfl (by rw [Ey];omega) fun d hd=>⟨?_,rfl⟩
  obtain ⟨k,hk,rfl⟩:=CM hd;obtain ⟨e1,e2,e3,e4,e5,e6⟩:=DG h hk;exact aY (we (aA rfl) (aY (aA rfl) bt rfl) e1 e3 rfl) (we (aA rfl) (aA rfl) e2 e4 rfl) e5
 exact aT (ba (dg (aC hc aq) wj) rfl)
noncomputable def so (a:D):Bool:=[PyData.str "a",.str "b",.str "c",.str "d",.str "e",.str "f"].any fun y=>PyData.eqv y a
noncomputable def DL (a:D):Bool:=[PyData.int 0,.int 1].any fun y=>PyData.eqv y a
noncomputable def inR (n:Int) (a:D):Bool:=match a with
 | .int i=>decide (0<=i)&&decide (i<n)
 | _=>false
noncomputable def CC (d:D):Bool:=match d with
 | .list xs=>xs.all so&&eZ xs
 | _=>false
noncomputable def Fq (n:Int) (d:D):Bool:=match d with
 | .list xs=>decide (0<xs.length)&&(xs.all (inR n)&&eZ xs)
 | _=>false
theorem Af:shaped bV=true:=by decide +kernel
theorem Da:shaped bU=true:=by decide +kernel
theorem BH {x:Str} (hx:PyData.strOk x=true):bG false (.str x) bV=some (.bool (so (.str x))):=by
 unfold bG bV;have:=Af
 unfold bV at this;simp only [tx hx,this,Bool.and_self,if_true]
 rfl
theorem DK {i:Int}:bG false (.int i) bU=some (.bool (DL (.int i))):=by
 unfold bG bU;have:=Da
 unfold bU at this;simp only [zE,this,Bool.and_self,if_true]
 rfl
theorem fx {ds:List D} (h:jB ds) (hl:ds.length<=100):bE [.list ds]=.ok ⟨.leaf,.bool (ds.all so&&eZ ds)⟩:=by
 have hc:av .leaf 1 (aF (ae 0)) aG (aE (bG false) (ae 1) (eK bV)) [some ⟨.leaf,.list ds⟩,none]=.ok ⟨.lst .leaf,.list (ds.map fun d=>.bool (so d))⟩ [some ⟨.leaf,.list ds⟩,none]:=by
  refine Cs (f:=fun d=>⟨.leaf,.bool (so d)⟩) (bZ (aA rfl) rfl) (by simp) rfl (by omega) fun d hd=>⟨?_,rfl⟩
  obtain ⟨x,rfl,hx⟩:=h d hd;exact aY (aA rfl) bt (BH hx)
 exact aT (ba (v_and (dg (aC hc aq) wj) (bH (aC (aA rfl) aq) (fq (.inr h) hl) rfl rfl)) rfl)
theorem chain_ev {i n:Int}:zq (.int 0) (.int i)=some (.bool (decide (0<=i)))/\ia (.int i) (.int n)=some (.bool (decide (i<n))):=⟨rfl,rfl⟩
theorem fu {ds:List D} {n:Int} (h:hZ ds) (hl:ds.length<=100):cO [.list ds,.int n]=.ok ⟨.leaf,.bool (ds.all (inR n)&&eZ ds)⟩:=by
 have hc:av .leaf 2 (aF (ae 0)) aG (sC zq ia (eK (.int 0)) (ae 2) (ae 1)) [some ⟨.leaf,.list ds⟩,some ⟨.leaf,.int n⟩,none]=.ok ⟨.lst .leaf,.list (ds.map fun d=>.bool (inR n d))⟩ [some ⟨.leaf,.list ds⟩,some ⟨.leaf,.int n⟩,none]:=by
  refine Cs (f:=fun d=>⟨.leaf,.bool (inR n d)⟩) (bZ (aA rfl) rfl) (by simp) rfl (by omega) fun d hd=>⟨?_,rfl⟩
  obtain ⟨i,rfl⟩:=h d hd;exact GQ bt (aA rfl) (chain_ev (n:=n)).1 rfl (aA rfl) chain_ev.2
 exact aT (ba (v_and (dg (aC hc aq) wj) (bH (aC (aA rfl) aq) (fq (.inl h) hl) rfl rfl)) rfl)
theorem jv {ds:List D} {n:Int} (h:hZ ds) (hl:ds.length<=100):dw [.list ds,.int n]=.ok ⟨.leaf,.bool (decide (0<ds.length)&&(ds.all (inR n)&&eZ ds))⟩:=by
 have e:mT (.int (ds.length:Nat)) (.int 0)=some (.bool (decide (0<ds.length))):=by
  show some (PyData.bool (decide ((0:Int)<(ds.length:Int))))=_
  congr 2
  exact decide_eq_decide.mpr (by omega)
 exact aT (ba (v_and (aY (dg (aC (aA rfl) aq) rfl) bt e) (bH (aC (aA rfl) (aC (aA rfl) aq)) (fu h hl) rfl rfl)) rfl)
structure Wk (b:Nat) (os ms ss:List D):Prop where
 o:hZ os
 m:∀r∈ms,∃xs,r=.list xs/\jB xs/\xs.length<=30
 s:∀r∈ss,∃xs,r=.list xs/\hZ xs/\xs.length<=30
 lo:os.length<=b
 lm:ms.length<=b
 ls:ss.length<=b
noncomputable def FV (os ms ss:List D):Bool:=decide ((os.length:Int)<1)||(decide ((24:Int)<os.length)||((!((ms.length:Int)==(os.length:Int)))||(!((ss.length:Int)==(os.length:Int)))))
noncomputable def isW (os ms ss:List D):Bool:=!FV os ms ss&&(os.all DL&&(ms.all CC&&ss.all (Fq os.length)))
theorem ne_int {a b:Int}:iR (.int a) (.int b)=some (.bool (!(a==b))):=by
 unfold iR;rw [zE,zE,Bool.and_self,if_pos rfl,PyData.eqv]
theorem kW {b:Nat} {os ms ss:List D} (h:Wk b os ms ss) (hb:b<=100):dN [.list os,.list ms,.list ss]=.ok ⟨.leaf,.bool (isW os ms ss)⟩:=by
 have lo:=h.lo
 have lm:=h.lm
 have ls:=h.ls
 refine aT ?_
 refine az (cD (dg (aC (aA rfl) aq) rfl) rfl (by simp [aN])) ?_
 have hif:(nK (aQ ax (aE ia (ae 3) (eK (.int 1)))) (nK (aQ ax (aE mT (ae 3) (eK dR))) (nK (aQ ax (aE iR (bM bL (ah (ae 1) ai)) (ae 3))) (aQ ax (aE iR (bM bL (ah (ae 2) ai)) (ae 3)))))) [some ⟨.leaf,.list os⟩,some ⟨.leaf,.list ms⟩,some ⟨.leaf,.list ss⟩,some ⟨.leaf,.int (os.length:Nat)⟩,none,none]
   = .ok (FV os ms ss) [some ⟨.leaf,.list os⟩,some ⟨.leaf,.list ms⟩,some ⟨.leaf,.list ss⟩,some ⟨.leaf,.int (os.length:Nat)⟩,none,none]:=
  r9 (gR (aY (aA rfl) bt rfl)) (r9 (gR (aY (aA rfl) bt rfl)) (r9 (gR (aY (dg (aC (aA rfl) aq) rfl) (aA rfl) ne_int)) (gR (aY (dg (aC (aA rfl) aq) rfl) (aA rfl) ne_int))))
 cases hbad:FV os ms ss with
 | true=>
  rw [hbad] at hif;unfold isW;rw [hbad];exact yK (cb hif (fun _=>ba bt rfl) nofun)
 | false=>
  rw [hbad] at hif;refine az (cb hif nofun (fun _=>rfl)) ?_
  have c1:av .leaf 4 (aF (ae 0)) aG (aE (bG false) (ae 4) (eK bU)) [some ⟨.leaf,.list os⟩,some ⟨.leaf,.list ms⟩,some ⟨.leaf,.list ss⟩,some ⟨.leaf,.int (os.length:Nat)⟩,none,none]
    = .ok ⟨.lst .leaf,.list (os.map fun d=>.bool (DL d))⟩ [some ⟨.leaf,.list os⟩,some ⟨.leaf,.list ms⟩,some ⟨.leaf,.list ss⟩,some ⟨.leaf,.int (os.length:Nat)⟩,none,none]:=by
   refine Cs (f:=fun d=>⟨.leaf,.bool (DL d)⟩) (bZ (aA rfl) rfl) (by simp) rfl (by omega) fun d hd=>⟨?_,rfl⟩
   obtain ⟨i,rfl⟩:=h.o d hd;exact aY (aA rfl) bt DK
  have c2:av .leaf 5 (aF (ae 1)) aG (aj 1 bE (ah (ae 5) ai)) [some ⟨.leaf,.list os⟩,some ⟨.leaf,.list ms⟩,some ⟨.leaf,.list ss⟩,some ⟨.leaf,.int (os.length:Nat)⟩,none,none]
    = .ok ⟨.lst .leaf,.list (ms.map fun d=>.bool (CC d))⟩ [some ⟨.leaf,.list os⟩,some ⟨.leaf,.list ms⟩,some ⟨.leaf,.list ss⟩,some ⟨.leaf,.int (os.length:Nat)⟩,none,none]:=by
   refine Cs (f:=fun d=>⟨.leaf,.bool (CC d)⟩) (bZ (aA rfl) rfl) (by simp) rfl (by omega) fun d hd=>⟨?_,rfl⟩
   obtain ⟨xs,rfl,hx,hl⟩:=h.m d hd;exact bH (aC (aA rfl) aq) (fx hx (by omega)) rfl rfl
  have c3:av .leaf 5 (aF (ae 2)) aG (aj 2 dw (ah (ae 5) (ah (ae 3) ai))) [some ⟨.leaf,.list os⟩,some ⟨.leaf,.list ms⟩,some ⟨.leaf,.list ss⟩,some ⟨.leaf,.int (os.length:Nat)⟩,none,none]
    = .ok ⟨.lst .leaf,.list (ss.map fun d=>.bool (Fq os.length d))⟩ [some ⟨.leaf,.list os⟩,some ⟨.leaf,.list ms⟩,some ⟨.leaf,.list ss⟩,some ⟨.leaf,.int (os.length:Nat)⟩,none,none]:=by
   refine Cs (f:=fun d=>⟨.leaf,.bool (Fq os.length d)⟩) (bZ (aA rfl) rfl) (by simp) rfl (by omega) fun d hd=>⟨?_,rfl⟩
   obtain ⟨xs,rfl,hx,hl⟩:=h.s d hd;exact bH (aC (aA rfl) (aC (aA rfl) aq)) (jv hx (by omega)) rfl rfl
  have t1:=gP (kc (dg (aC c1 aq) wj))
  cases ho:os.all DL with
  | false=>
   rw [ho] at t1;unfold isW;rw [ho,Bool.false_and,Bool.and_false];exact yK (cb t1 (fun _=>ba bt rfl) nofun)
  | true=>
   rw [ho] at t1;refine az (cb t1 nofun (fun _=>rfl)) ?_
   unfold isW;rw [hbad,ho,Bool.not_false,Bool.true_and,Bool.true_and];exact ba (v_and (dg (aC c2 aq) wj) (dg (aC c3 aq) wj)) rfl
theorem BY {xs:List D} (h:shaped (.list xs)=true):cV (.list xs) (.list [])=some (.bool (decide (xs.length=0))):=by
 unfold cV;have h2:shaped (.list [])=true:=by decide +kernel
 rw [h,h2,Bool.and_self,if_pos rfl]
 cases xs with
 | nil=>rfl
 | cons a r=>rfl
theorem EA {xs:List D} (h:hZ xs):shaped (.list xs)=true:=by
 have c:PyData.canLayAll0 xs=true/\PyData.depthAll xs=0:=by
  induction xs with
  | nil=>exact ⟨rfl,rfl⟩
  | cons a r ih=>
   obtain ⟨n,rfl⟩:=h a mem_cons_self;have q:=ih fun x hx=>h x (mem_cons_of_mem _ hx)
   simp [PyData.canLayAll0,PyData.canLay0,PyData.depthAll,PyData.depth,q.1,q.2]
 simp [shaped,PyData.canLay0,PyData.depth,c.1,c.2]
theorem wL {xs:List D} (h:jB xs):shaped (.list xs)=true:=by
 have c:PyData.canLayAll0 xs=true/\PyData.depthAll xs=0:=by
  induction xs with
  | nil=>exact ⟨rfl,rfl⟩
  | cons a r ih=>
   obtain ⟨n,rfl,hn⟩:=h a mem_cons_self;have q:=ih fun x hx=>h x (mem_cons_of_mem _ hx)
   simp [PyData.canLayAll0,PyData.canLay0,PyData.depthAll,PyData.depth,q.1,q.2,hn]
 simp [shaped,PyData.canLay0,PyData.depth,c.1,c.2]
theorem lt_int {a b:Int}:ia (.int a) (.int b)=some (.bool (decide (a<b))):=rfl
theorem xX {a b:Int}:oH (.int a) (.int b)=some (.bool (decide (b<=a))):=rfl
theorem sD {a b:Int}:bf (.int a) (.int b)=some (.int (a+b)):=rfl
theorem sub_int' {a b:Int}:gSub (.int a) (.int b)=some (.int (a-b)):=rfl
theorem iI {a b:Int} (h:0<b):gc (.int a) (.int b)=some (.int (a % b)):=by
 show (if yt a b then _ else _)=_
 rw [if_pos (by unfold yt;simpa using h)]
theorem zt {a b:Int} (h:0<b) (h2:b<1073741824):vb (.int a) (.int b)=some (.int (a / b)):=by
 show (if yu a b then _ else _)=_
 rw [if_pos (by unfold yu;simp [h,h2])]
theorem zi {a b:Int} (h:-1000000000000<b) (h2:b<1000000000000):mS (.int a) (.int b)=some (.int (a*b)):=by
 show (if r6 a b then _ else _)=_
 rw [if_pos (by unfold r6;simp only [Bool.or_eq_true,Bool.and_eq_true,decide_eq_true_eq];right;omega)]
theorem uP {a b:Int} (h:-1000000000000<a) (h2:a<1000000000000):mS (.int a) (.int b)=some (.int (a*b)):=by
 show (if r6 a b then _ else _)=_
 rw [if_pos (by unfold r6;simp only [Bool.or_eq_true,Bool.and_eq_true,decide_eq_true_eq];left;omega)]
theorem Dt {b:Int} (h:0<=b) (h2:b<=100):x2 (.int 10) (.int b)=some (.int (10 ^ b.toNat)):=by
 show (if yr 10 b then _ else _)=_
 rw [if_pos (by unfold yr;simp only [Bool.and_eq_true,decide_eq_true_eq];exact ⟨⟨h,by omega⟩,by decide⟩)]
theorem EF {xs:List D} (h:hZ xs) {k:Int} (hk:0<=k):∃c,aH [.list xs,.int k]=.ok ⟨.leaf,.int c⟩:=by
 have t:aQ ax (aE ia (ae 1) (bM bL (ah (ae 0) ai))) [some ⟨.leaf,.list xs⟩,some ⟨.leaf,.int k⟩]=.ok (decide (k<(xs.length:Int))) [some ⟨.leaf,.list xs⟩,some ⟨.leaf,.int k⟩]:=
  gR (aY (aA rfl) (dg (aC (aA rfl) aq) rfl) lt_int)
 cases hlt:decide (k<(xs.length:Int)) with
 | true=>
  rw [hlt] at t;have hl:=of_decide_eq_true hlt
  have hk2:k.toNat<xs.length:=by omega
  obtain ⟨c,hc⟩:=h _ (getD_mem hk2);have g:=Ej hk2
  rw [hc] at g;exact ⟨c,aT (yK (cb t (fun _=>ba (we (aA rfl) (aA rfl) (DH hk hl) g rfl) rfl) nofun))⟩
 | false=>
  rw [hlt] at t;exact ⟨0,aT (az (cb t nofun (fun _=>rfl)) (ba bt rfl))⟩
theorem nr {c k b:Int} (hk:0<=k) (hk2:k<=1000) (hb:1<=b) (hb2:b<=1000):∃r,aB [.int c,.int k,.int b]=.ok ⟨.leaf,.int r⟩/\0<=r/\r<b:=by
 have t:aQ ax (aE oH (ae 0) (aE x2 (eK (.int 10)) (eK (.int 18)))) [some ⟨.leaf,.int c⟩,some ⟨.leaf,.int k⟩,some ⟨.leaf,.int b⟩,none,none,none]=.ok (decide (10 ^ (18:Int).toNat<=c)) [some ⟨.leaf,.int c⟩,some ⟨.leaf,.int k⟩,some ⟨.leaf,.int b⟩,none,none,none]:=
  gR (aY (aA rfl) (aY bt bt (Dt (by omega) (by omega))) xX)
 cases hge:decide (10 ^ (18:Int).toNat<=c) with
 | true=>
  rw [hge] at t;obtain ⟨Γ',e,l,x,hΓ⟩:=GW (P:=fun _ Γ=>∃l x,Γ=[some ⟨.leaf,.int c⟩,some ⟨.leaf,.int k⟩,some ⟨.leaf,.int b⟩,none,some ⟨.leaf,.int l⟩,x]) (i:=5) (body:=aD false 4 (aE vb (ae 4) (ae 2))) (cj 0 k.toNat) 0
   [some ⟨.leaf,.int c⟩,some ⟨.leaf,.int k⟩,some ⟨.leaf,.int b⟩,none,some ⟨.leaf,.int c⟩,none] ⟨c,none,rfl⟩ (fun m d Γ hd _ _ ⟨l,x,hΓ⟩=>by
    subst hΓ;refine ⟨by simp,_,cD (aY (aA rfl) (aA rfl) (zt (by omega) (by omega))) rfl (by simp),_,_,rfl⟩)
  subst hΓ;exact ⟨_,aT (yK (cb t (fun _=>az (cD (aA rfl) rfl (by simp)) (az (eX (sN (k:=k) (aC (aA rfl) aq) rfl (by omega) (by omega)) e) (ba (aY (aA rfl) (aA rfl) (iI (by omega))) rfl))) nofun)),Int.emod_nonneg _ (by omega),Int.emod_lt_of_pos _ (by omega)⟩
 | false=>
  rw [hge] at t;have m1:∀x:Int,0<=x % 2147483647/\x % 2147483647<2147483647:=fun x=>⟨Int.emod_nonneg _ (by omega),Int.emod_lt_of_pos _ (by omega)⟩
  refine ⟨_,aT (az (cb t nofun (fun _=>rfl)) (az (cD (aY (aY (aY (aY (aY (aA rfl) bt (iI (by omega))) (aY bt (aA rfl) (uP (by omega) (by omega))) sD) bt sD) bt (zi (by omega) (by omega))) bt (iI (by omega))) rfl (by simp [aN]))
   (az (cD (aY (aY (aY (aY (aA rfl) (aA rfl) (uP ?_ ?_)) (aY bt (aA rfl) (uP (by omega) (by omega))) sD) bt sD) bt (iI (by omega))) rfl (by simp [aN]))
   (ba (aY (aY (aY (aY (aA rfl) bt (zi (by omega) (by omega))) bt (iI (by omega))) bt (zt (by omega) (by omega))) (aA rfl) (iI (by omega))) rfl)))),Int.emod_nonneg _ (by omega),Int.emod_lt_of_pos _ (by omega)⟩
  ·exact Int.lt_of_lt_of_le (by omega) (m1 _).1
  ·exact Int.lt_trans (m1 _).2 (by omega)
noncomputable def fH (c k b:Int):Int:=match aB [.int c,.int k,.int b] with
 | .ok ⟨_,.int r⟩=>r
 | _=>0
theorem zJ {c k b:Int} (hk:0<=k) (hk2:k<=1000) (hb:1<=b) (hb2:b<=1000):aB [.int c,.int k,.int b]=.ok ⟨.leaf,.int (fH c k b)⟩:=by
 obtain ⟨r,e,_⟩:=nr (c:=c) hk hk2 hb hb2
 unfold fH;rw [e]
theorem Ei {c k b:Int} (hk:0<=k) (hk2:k<=1000) (hb:1<=b) (hb2:b<=1000):0<=fH c k b/\fH c k b<b:=by
 obtain ⟨r,e,h⟩:=nr (c:=c) hk hk2 hb hb2
 unfold fH;rw [e];exact h
noncomputable def abc (d:D):D:=match d with
 | .int k=>(match eh [97,98,99] k with
  | some c=>.str ⟨#[c]⟩
  | none=>.none)
 | _=>.none
theorem uG {c:Nat} (h:c<1000):PyData.strOk ⟨#[c]⟩=true:=by
 unfold PyData.strOk;simp
 omega
theorem yz:(Str.ofString "abc").cps.toList=[97,98,99]:=by decide +kernel
theorem yy:(Str.ofString "abc").length<=sizeLine:=by decide +kernel
noncomputable abbrev eW:FS:=(aw (aD false 8 (aj 2 aH (ah (ae 0) (ah (aE bf (aE bf (ae 1) (eK (.int 1))) (ae 7)) ai))))
  (aw (eV 4 (aj 3 aB (ah (ae 8) (ah (eK (.int 0)) (ah (eK (.int 2)) ai)))))
  (aw (eV 5 (av .leaf 11 (gk (ah (eK (.int 3)) ai)) (aQ ax (aE cV (aj 3 aB (ah (ae 8) (ah (aE bf (eK (.int 1)) (ae 11)) (ah (eK (.int 2)) ai)))) (eK (.int 1)))) (ak (eK (.str "abc")) (ae 11))))
  (aw (aD false 9 (av .leaf 10 (gk (ah (ae 3) ai)) (aQ ax (aE cV (aj 3 aB (ah (ae 8) (ah (aE bf (eK (.int 4)) (ae 10)) (ah (aE bf (eK (.int 2)) (bM oG (ah (aE mT (ae 3) (eK (.int 3))) ai))) ai)))) (eK (.int 1)))) (ae 10)))
  (aw (cF (aQ ax (aE cV (ae 9) (aU .leaf ai))) (aD false 9 (aU .leaf (ah (aj 3 aB (ah (ae 8) (ah (aE bf (eK (.int 4)) (ae 3)) (ah (ae 3) ai)))) ai))) aS)
  (eV 6 (ae 9)))))))
theorem md {ts:List Int} (h:ts.Pairwise (· < ·)):eZ (ts.map .int)=true:=by
 unfold eZ;rw [all_eq_true];intro d hd;obtain ⟨k,hk,rfl⟩:=CM hd;rw [length_map] at hk;have h1:k<ts.length:=by omega
 have h2:k+1<ts.length:=by omega
 unfold zj;dsimp only;rw [show (1+(k:Int)-1).toNat=k by omega,show (1+(k:Int)).toNat=k+1 by omega]
 rw [getD_eq_getElem?_getD,getD_eq_getElem?_getD,getElem?_map,getElem?_map,getElem?_eq_getElem h1,getElem?_eq_getElem h2];have:=List.pairwise_iff_getElem.mp h k (k+1) h1 h2 (by omega)
 show decide (ts[k]<ts[k+1])=true
 exact decide_eq_true this
structure Gw (N:Int) (n:Nat) (os ms ss:List D):Prop where
 lo:os.length=n
 lm:ms.length=n
 ls:ss.length=n
 o:∀a∈os,a=.int 0\/a=.int 1
 m:∀r∈ms,∃xs,r=.list xs/\jB xs/\xs.length<=30/\CC r=true
 s:∀r∈ss,∃ts:List Int,r=.list (ts.map .int)/\ts.length<=30/\ts≠[]/\(∀t∈ts,0<=t/\t<N)/\ts.Pairwise (· < ·)
theorem Cu {ts:List Int}:hZ (ts.map .int):=fun a ha=>by
 obtain ⟨n,_,e⟩:=List.mem_map.mp ha;exact ⟨n,e.symm⟩
theorem Gw.wk {N:Int} {n b:Nat} {os ms ss:List D} (h:Gw N n os ms ss) (hb:n<=b):Wk b os ms ss:=
 ⟨fun a ha=>(h.o a ha).elim (fun e=>⟨0,e⟩) fun e=>⟨1,e⟩,fun r hr=>let ⟨xs,e,a,b,_⟩:=h.m r hr;⟨xs,e,a,b⟩,fun r hr=>let ⟨ts,e,a,_⟩:=h.s r hr;⟨_,e,Cu,by rw [length_map];exact a⟩,by rw [h.lo];exact hb,by rw [h.lm];exact hb,by rw [h.ls];exact hb⟩
theorem Gw.isW {n:Nat} {os ms ss:List D} (h:Gw (n:Int) n os ms ss) (h1:1<=n) (h24:n<=24):isW os ms ss=true:=by
 unfold KC.isW FV;rw [h.lo,h.lm,h.ls];have e1:decide ((n:Int)<1)=false:=decide_eq_false (by omega)
 have e2:decide ((24:Int)<n)=false:=decide_eq_false (by omega)
 rw [e1,e2];simp only [beq_self_eq_true,Bool.not_true,Bool.or_self,Bool.not_false,Bool.true_and,Bool.and_eq_true,all_eq_true]
 refine ⟨fun a ha=>?_,fun r hr=>?_,fun r hr=>?_⟩
 ·rcases h.o a ha with rfl | rfl<;>rfl
 ·obtain ⟨xs,_,_,_,e⟩:=h.m r hr
  exact e
 ·obtain ⟨ts,rfl,h2,h3,h4,h5⟩:=h.s r hr
  unfold Fq;simp only [Bool.and_eq_true,decide_eq_true_eq,length_map,all_eq_true]
  refine ⟨by cases ts with | nil=>exact absurd rfl h3 | cons a r=>simp,fun a ha=>?_,md h5⟩
  obtain ⟨t,ht,rfl⟩:=List.mem_map.mp ha;have:=h4 t ht
  unfold inR;simp only [Bool.and_eq_true,decide_eq_true_eq]
  exact this
theorem IG (c0 c1 c2:Bool):CC (.list (((if c0 then [PyData.str ⟨#[97]⟩] else [])++((if c1 then [PyData.str ⟨#[98]⟩] else [])++(if c2 then [PyData.str ⟨#[99]⟩] else [])))))=true:=by
 cases c0<;>cases c1<;>cases c2<;>decide +kernel
theorem An (n:Nat) (c:D->Bool):∃ts:List Int,((cj 0 n).filter c).map (fun d=>d)=ts.map .int/\(∀t∈ts,0<=t/\t<(n:Int))/\ts.Pairwise (· < ·)/\ts.length<=n:=by
 refine ⟨((List.range n).map fun i=>(0:Int)+(i:Nat)).filter fun i=>c (.int i),?_,fun t ht=>?_,?_,?_⟩
 ·rw [List.map_id']
  unfold cj;rw [show (fun i:Nat=>PyData.int (0+(i:Int)))=(PyData.int∘fun i:Nat=>(0:Int)+(i:Nat)) from rfl,<-map_map,List.filter_map]
  rfl
 ·obtain ⟨h1,_⟩:=List.mem_filter.mp ht
  obtain ⟨i,hi,rfl⟩:=List.mem_map.mp h1;rw [mem_range] at hi;omega
 ·refine List.Pairwise.filter _ ?_
  rw [pairwise_map];exact List.pairwise_lt_range.imp fun h=>by omega
 ·refine Nat.le_trans (length_filter_le _ _) ?_
  simp
noncomputable abbrev W3:Sh:=.tup [.lst .leaf,.lst .leaf,.lst .leaf]
noncomputable abbrev bO (os ms ss:List D):D:=.tuple [.list os,.list ms,.list ss]
theorem eD {n:Nat} {g:FS} {ds:List D} {Γ:Ev} (h:g (aN n ds)=.nx Γ):aL n g ds=.ok ⟨.leaf,.none⟩:=by unfold aL;rw [h]
theorem o8 {Γ Γ1:Ev} {fa:F1} {p:PV} (h:fa Γ=.ok p Γ1):bw fa Γ=.nx Γ1:=by unfold bw gX;rw [h]
theorem rN {b:Nat} {os ms ss:List D} (h:Wk b os ms ss) (hb:b<=100) (hw:isW os ms ss=true):aJ [bO os ms ss]=.ok ⟨.leaf,.none⟩:=by
 have t:dr (aQ bF (aj 3 dN (ah (ak (ae 0) (eK (.int 0))) (ah (ak (ae 0) (eK (.int 1))) (ah (ak (ae 0) (eK (.int 2))) ai))))) [some ⟨.leaf,bO os ms ss⟩]=.ok (!(isW os ms ss)) [some ⟨.leaf,bO os ms ss⟩]:=
  gP (kc (bH (aC (h9 (j:=0) (aA rfl) bt rfl rfl rfl) (aC (h9 (j:=1) (aA rfl) bt rfl rfl rfl) (aC (h9 (j:=2) (aA rfl) bt rfl rfl rfl) aq))) (kW h hb) rfl rfl))
 rw [hw] at t;exact eD (cb t nofun (fun _=>rfl))
noncomputable def dl (S:List (List Int)):List D:=S.map fun ts=>.list (ts.map .int)
structure Sw (n:Nat) (S:List (List Int)):Prop where
 len:S.length=n
 row:∀ts∈S,ts.length<=30/\(∀t∈ts,0<=t/\t<(n:Int))/\ts.Pairwise (· < ·)
theorem u0 {ts:List Int} {i:Int}:bG false (.int i) (.list (ts.map .int))=some (.bool (ts.contains i)):=by
 unfold bG;simp only [zE,EA Cu,Bool.and_self,if_true]
 congr 2
 rw [Bool.eq_iff_iff];simp only [Bool.false_eq_true,if_false,any_eq_true,mem_map,contains_iff_mem]
 constructor
 ·rintro ⟨d,⟨t,ht,rfl⟩,e⟩
  rw [PyData.eqv] at e;have:t=i:=by simpa using e
  rw [<-this];exact ht
 ·intro h
  exact ⟨.int i,⟨i,h,rfl⟩,by rw [PyData.eqv];simp⟩
theorem Jc {xs:List D} (h:hZ xs):PyData.canLayAll0 xs=true/\PyData.depthAll xs=0:=by
 induction xs with
 | nil=>exact ⟨rfl,rfl⟩
 | cons a r ih=>
  obtain ⟨n,rfl⟩:=h a mem_cons_self;have q:=ih fun x hx=>h x (mem_cons_of_mem _ hx)
  simp [PyData.canLayAll0,PyData.canLay0,PyData.depthAll,PyData.depth,q.1,q.2]
theorem yp {ms:List D} (h:∀r∈ms,∃xs,r=.list xs/\PyData.canLayAll0 xs=true/\PyData.depthAll xs=0):PyData.canLayAll0 ms=true/\PyData.depthAll ms<=1:=by
 induction ms with
 | nil=>exact ⟨rfl,Nat.zero_le _⟩
 | cons a r ih=>
  obtain ⟨xs,rfl,h1,h2⟩:=h a mem_cons_self;have q:=ih fun x hx=>h x (mem_cons_of_mem _ hx)
  refine ⟨by simp [PyData.canLayAll0,PyData.canLay0,q.1,h1],?_⟩
  rw [PyData.depthAll,PyData.depth,h2];exact Nat.max_le.mpr ⟨by omega,q.2⟩
noncomputable def has (x:Str) (d:D):Bool:=match d with
 | .list xs=>xs.any fun y=>PyData.eqv y (.str x)
 | _=>false
theorem BI {x:Str} {xs:List D} (hx:PyData.strOk x=true) (h:jB xs):bG false (.str x) (.list xs)=some (.bool (has x (.list xs))):=by
 unfold bG;simp only [tx hx,wL h,Bool.and_self,if_true]
 rfl
noncomputable def rg (n:Nat):List Int:=(List.range n).map fun i:Nat=>(0:Int)+(i:Nat)
theorem qY {ts:List Int} {i:Int}:bG true (.int i) (.list (ts.map .int))=some (.bool (!ts.contains i)):=by
 have h:=u0 (ts:=ts) (i:=i)
 unfold bG at h ⊢
 simp only [zE,EA Cu,Bool.and_self,if_true,Bool.false_eq_true,if_false] at h ⊢
 have h:=Option.some.inj h
 injection h with h
 rw [h]
end KC
namespace T
open PySem PySem.Spec L2
open PyProof.Rows hiding St
section
variable {Γ Γ1:Ev} {fa fb fc:F1} {fl:FL} {p:PV} {i n:Nat} {ga gb:FB} {g1 g2:FS}
@[simp] theorem Ic:sizeLine=16777216:=rfl
@[simp] theorem yJ {α β:Type} {a:α} {e:Ev} {k:α->Ev->Out β}:(Out.ok a e).bind k=k a e:=rfl
@[simp] theorem r_k {d:D}:eK d Γ=.ok ⟨.leaf,d⟩ Γ:=rfl
@[simp] theorem JH:ai Γ=.ok [] Γ:=rfl
@[simp] theorem HW:aG Γ=.ok true Γ:=rfl
@[simp] theorem H0:aS Γ=.nx Γ:=rfl
@[simp] theorem Iu:ah fa fl Γ=(fa Γ).bind fun p Γ1=>(fl Γ1).bind fun ps Γ2=>.ok (p::ps) Γ2:=rfl
@[simp] theorem Kb {g:D->D->Option D}:aE g fa fb Γ=(fa Γ).bind fun p Γ1=>(fb Γ1).bind fun q Γ2=>match g p.d q.d with | some d=>.ok ⟨.leaf,d⟩ Γ2 | none=>.no:=rfl
@[simp] theorem Kd {g:List D->Option D}:bM g fl Γ=(fl Γ).bind fun ps Γ'=>match g (ps.map (·.d)) with | some d=>.ok ⟨.leaf,d⟩ Γ' | none=>.no:=rfl
@[simp] theorem JP {g:D->Option Bool}:aQ g fa Γ=(fa Γ).bind fun p Γ'=>match g p.d with | some b=>.ok b Γ' | none=>.no:=rfl
@[simp] theorem Iy:dr ga Γ=(ga Γ).bind fun c Γ'=>.ok (!c) Γ':=rfl
@[simp] theorem Iz:gz ga gb Γ=(ga Γ).bind fun c Γ'=>if c then gb Γ' else .ok false Γ':=rfl
@[simp] theorem JO:nK ga gb Γ=(ga Γ).bind fun c Γ'=>if c then .ok true Γ' else gb Γ':=rfl
@[simp] theorem Dl:vW ga fa fb Γ=(ga Γ).bind fun b Γ'=>if b then fa Γ' else fb Γ':=rfl
@[simp] theorem Iq:eF fa fb Γ=(fa Γ).bind fun p Γ=>match p.d with | .bool true=>fb Γ | .bool false=>.ok ⟨.leaf,.bool false⟩ Γ | _=>.no:=rfl
@[simp] theorem Ip:IX fa Γ=(fa Γ).bind fun p Γ=>match p.d with | .bool b=>.ok ⟨.leaf,.bool (!b)⟩ Γ | _=>.no:=rfl
@[simp] theorem pH:aw g1 g2 Γ=match g1 Γ with | .nx Γ'=>g2 Γ' | .rt p=>.rt p | .bk Γ'=>.bk Γ' | .ct Γ'=>.ct Γ' | .er c Γ'=>.er c Γ' | .no=>.no:=by
 unfold aw
 cases g1 Γ<;>rfl
@[simp] theorem t5 {k:PV->Ev->fJ}:gX fa k Γ=match fa Γ with | .ok p Γ1=>k p Γ1 | .er c Γ1=>.er c Γ1 | .no=>.no:=by
 unfold gX
 cases fa Γ<;>rfl
@[simp] theorem Kc:cF ga g1 g2 Γ=match ga Γ with | .ok b Γ1=>if b then g1 Γ1 else g2 Γ1 | .er c Γ1=>.er c Γ1 | .no=>.no:=by
 unfold cF
 cases ga Γ<;>rfl
@[simp] theorem Fw {b:Bool}:ax (.bool b)=some b:=rfl
@[simp] theorem Il {b:Bool}:bF (.bool b)=some b:=rfl
@[simp] theorem Fu {xs:List D}:bF (.list xs)=some (!xs.isEmpty):=rfl
noncomputable def FD (p:PV):PV:=match p.s with
 | .leaf=>p
 | _=>⟨.view,p.d⟩
@[simp] theorem JD {d:D}:FD ⟨.leaf,d⟩=⟨.leaf,d⟩:=rfl
@[simp] theorem JC {s:Sh} {d:D}:FD ⟨.lst s,d⟩=⟨.view,d⟩:=rfl
@[simp] theorem JB {s:List Sh} {d:D}:FD ⟨.tup s,d⟩=⟨.view,d⟩:=rfl
@[simp] theorem Jy:ae i Γ=match Γ[i]? with | some (some p)=>.ok (FD p) Γ | _=>.no:=by
 unfold ae
 cases h:Γ[i]? with
 | none=>rfl
 | some o=>
  cases o with
  | none=>rfl
  | some p=>
   obtain ⟨s,d⟩:=p
   cases s<;>rfl
@[simp] theorem Ia:cz i Γ=match Γ[i]? with | some (some p)=>.ok p (Γ.set i none) | _=>.no:=rfl
@[simp] theorem Iv {d:D}:coer .leaf ⟨.leaf,d⟩=true:=rfl
@[simp] theorem Fz {s:Sh} {d:D}:coer .leaf ⟨.lst s,d⟩=true:=rfl
@[simp] theorem Fy {s:List Sh} {d:D}:coer .leaf ⟨.tup s,d⟩=true:=rfl
@[simp] theorem FA {i:Int} {s:Sh}:coer .leaf ⟨s,.int i⟩=true:=by cases s<;>rfl
@[simp] theorem FC {b:Bool} {s:Sh}:coer .leaf ⟨s,.bool b⟩=true:=by cases s<;>rfl
@[simp] theorem Ih:Sh.isView .leaf=false:=rfl
@[simp] theorem Ig {s:Sh}:Sh.isView (.lst s)=false:=rfl
@[simp] theorem Ie {s:List Sh}:Sh.isView (.tup s)=false:=rfl
@[simp] theorem Dk {own:Bool}:aD own i fa Γ=match fa Γ with | .ok p Γ1=>(if i<Γ1.length then (if own&&!p.s.isView then .nx (Γ1.set i (some p)) else if T.coer .leaf p then .nx (Γ1.set i (some ⟨.leaf,p.d⟩)) else .no) else .no) | .er c Γ1=>.er c Γ1 | .no=>.no:=by
 unfold aD;rw [t5]
@[simp] theorem mi:aP fa Γ=match fa Γ with | .ok p Γ1=>(if p.s.isView then (if bJ p.d then .rt ⟨.leaf,p.d⟩ else .no) else .rt p) | .er c Γ1=>.er c Γ1 | .no=>.no:=by
 unfold aP;rw [t5]
@[simp] theorem Ir:bw fa Γ=match fa Γ with | .ok p Γ1=>.nx Γ1 | .er c Γ1=>.er c Γ1 | .no=>.no:=by
 unfold bw;rw [t5]
@[simp] theorem Iw {den:List D->bN}:aj n den fl Γ=(fl Γ).bind fun ps Γ'=>if ps.length=n then (match den (ps.map (·.d)) with | .ok p=>if ps.all (T.coer .leaf) then .ok p Γ' else if bJ p.d then .ok ⟨.leaf,p.d⟩ Γ' else .ok ⟨.view,p.d⟩ Γ' | _=>.no) else .no:=rfl
@[simp] theorem Io {a b:Int}:bf (.int a) (.int b)=some (.int (a+b)):=rfl
@[simp] theorem Im {a b:Int}:gSub (.int a) (.int b)=some (.int (a-b)):=rfl
@[simp] theorem JM {a b:Int}:ia (.int a) (.int b)=some (.bool (decide (a<b))):=rfl
@[simp] theorem JN {a b:Int}:mT (.int a) (.int b)=some (.bool (decide (b<a))):=rfl
@[simp] theorem AL {ds:List D}:bL [.list ds]=some (.int ds.length):=rfl
@[simp] theorem Fv {ds:List D}:bL [.tuple ds]=some (.int ds.length):=rfl
noncomputable def mR (p q:PV):Ev->Out PV:=ak (fun Γ=>.ok p Γ) (fun Γ=>.ok q Γ)
@[simp] theorem dX:ak fa fb Γ=(fa Γ).bind fun p Γ1=>(fb Γ1).bind fun q Γ2=>mR p q Γ2:=by
 unfold mR ak aW
 cases fa Γ with
 | ok p Γ1=>simp only [yJ]
 | er c Γ1=>rfl
 | no=>rfl
@[simp] theorem jM {ds:List D} {k:Int} {s:Sh}:mR ⟨.leaf,.tuple ds⟩ ⟨s,.int k⟩ Γ=match eh ds k with | some d=>.ok ⟨.leaf,d⟩ Γ | none=>.no:=by
 unfold mR ak aW eh;simp only [yJ]
 cases h:d9 ds.length k with
 | none=>rfl
 | some j=>
  simp only [Option.bind_some]
  cases h2:ds[j]? with
  | none=>rfl
  | some d=>rfl
@[simp] theorem jN {ds:List D} {k:Int} {s:Sh}:mR ⟨.leaf,.list ds⟩ ⟨s,.int k⟩ Γ=match eh ds k with | some d=>.ok ⟨.leaf,d⟩ Γ | none=>.no:=by
 unfold mR ak aW eh;simp only [yJ]
 cases h:d9 ds.length k with
 | none=>rfl
 | some j=>
  simp only [Option.bind_some]
  cases h2:ds[j]? with
  | none=>rfl
  | some d=>rfl
@[simp] theorem JL {ds:List D} {k:Int} {s:Sh}:mR ⟨.view,.list ds⟩ ⟨s,.int k⟩ Γ=match eh ds k with | some d=>.ok ⟨if bJ d then .leaf else .view,d⟩ Γ | none=>.no:=by
 unfold mR ak aW eh;simp only [yJ]
 cases h:d9 ds.length k with
 | none=>rfl
 | some j=>
  simp only [Option.bind_some]
  cases h2:ds[j]? with
  | none=>rfl
  | some d=>rfl
@[simp] theorem zb {α:Type} {a:α} {r:List α}:eh (a::r) 0=some a:=by
 simp [eh,d9]
@[simp] theorem za {α:Type} {a b:α} {r:List α}:eh (a::b::r) 1=some b:=by
 have:(1:Int)<(r.length:Int)+1+1:=by omega
 simp [eh,d9,this]
@[simp] theorem y3 {α:Type} {a b c:α} {r:List α}:eh (a::b::c::r) 2=some c:=by
 have:(2:Int)<(r.length:Int)+1+1+1:=by omega
 simp [eh,d9,this]
theorem yF {α:Type} {xs:List α} {k:Nat} {x:α} (h:xs[k]?=some x):eh xs (k:Int)=some x:=by
 have hk:=(List.getElem?_eq_some_iff.mp h).1
 have:(k:Int)<(xs.length:Int):=by omega
 simp [eh,d9,this,h]
end
section
variable {Γ:Ev} {fa fb:F1} {i:Nat}
@[simp] theorem JI {c:String}:DQ c fa Γ=(fa Γ).bind fun p Γ=>.ok ⟨.leaf,.bool (DJ (Jq p.d) c)⟩ Γ:=rfl
@[simp] theorem Ib {s:Sh} {fl:FL}:aU s fl Γ=(fl Γ).bind fun ps Γ'=>if !s.isView&&ps.all (T.coer s)&&decide (ps.length<=sizeLine) then .ok ⟨.lst s,.list (ps.map (·.d))⟩ Γ' else .no:=rfl
@[simp] theorem Jz {fl:FL}:cQ fl Γ=(fl Γ).bind fun ps Γ'=>if ps.all tok&&decide (ps.length<=sizeLine) then .ok ⟨.tup (ps.map wx),.tuple (ps.map (·.d))⟩ Γ' else .no:=rfl
@[simp] theorem HZ {d:D}:tok ⟨.leaf,d⟩=true:=rfl
@[simp] theorem HY {s:Sh} {d:D}:tok ⟨.lst s,d⟩=true:=rfl
@[simp] theorem HX {s:List Sh} {d:D}:tok ⟨.tup s,d⟩=true:=rfl
@[simp] theorem JJ {a:D}:bx false a .none=some (.bool (o7 a)):=rfl
@[simp] theorem AK {a:D}:bx true a .none=some (.bool (!o7 a)):=rfl
@[simp] theorem JA:IW fa fb Γ=(fa Γ).bind fun p Γ1=>(fb Γ1).bind fun q Γ2=>match p.d,q.d with | .tuple xs,.int k=>if !p.s.isView&&decide (1<=k)&&decide (k<=xs.length) then .ok ⟨.leaf,.tuple (xs.drop k.toNat)⟩ Γ2 else .no | _,_=>.no:=rfl
@[simp] theorem JK {neg:Bool} {tab:List (Str×Int)}:IY neg tab fa Γ=(fa Γ).bind fun p Γ=>match p.d with | .str k=>.ok ⟨.leaf,.bool (if neg then !(gK k tab).isSome else (gK k tab).isSome)⟩ Γ | _=>.no:=rfl
@[simp] theorem Ik {tab:List (Str×Int)}:DR tab fa Γ=(fa Γ).bind fun p Γ=>match p.d with | .str k=>(match gK k tab with | some i=>.ok ⟨.leaf,.int i⟩ Γ | none=>.no) | _=>.no:=rfl
@[simp] theorem Ii:zl fa Γ=(fa Γ).bind fun p Γ'=>match p.d with | .tuple ds=>if dD p ds then .ok ⟨ds,!p.s.isView⟩ Γ' else .no | _=>.no:=rfl
@[simp] theorem Ij:aF fa Γ=(fa Γ).bind fun p Γ'=>match p.d with | .list ds=>if dD p ds then .ok ⟨ds,!p.s.isView⟩ Γ' else .no | _=>.no:=rfl
@[simp] theorem JG {d:D} {ds:List D}:dD ⟨.leaf,d⟩ ds=true:=rfl
@[simp] theorem JF {s:Sh} {d:D} {ds:List D}:dD ⟨.lst s,d⟩ ds=true:=rfl
@[simp] theorem JE {s:List Sh} {d:D} {ds:List D}:dD ⟨.tup s,d⟩ ds=true:=rfl
@[simp] theorem JQ {f:F1}:fR i f Γ=match Γ[i]? with | some (some ⟨.leaf,.int a⟩)=>gX f (vx i a) Γ | _=>.no:=rfl
@[simp] theorem IA {a b:Int} {s:Sh}:vx i a ⟨s,.int b⟩ Γ=if i<Γ.length then .nx (Γ.set i (some ⟨.leaf,.int (a+b)⟩)) else .no:=rfl
theorem Ct {β:Type} {c:FB} {g:FS} {G:β->Ev} {test:β->Bool} {Inv:β->Prop} {meas:β->Nat} (hc:∀b,Inv b->c (G b)=.ok (test b) (G b)) (hg:∀b,Inv b->test b=true->∃b',g (G b)=.nx (G b')/\Inv b'/\meas b'<meas b) :
  ∀(N:Nat) (b:β),Inv b->meas b<N->∃b',sF c g N (G b)=.nx (G b')/\Inv b'/\test b'=false
 | 0,b,_,h=>by omega
 | N+1,b,hi,hm=>by
  rw [sF,hc b hi]
  cases ht:test b with
  | false=>exact ⟨b,rfl,hi,ht⟩
  | true=>
   obtain ⟨b1,h1,h2,h3⟩:=hg b hi ht;obtain ⟨b',e,q⟩:=Ct hc hg N b1 h2 (by omega)
   refine ⟨b',?_,q⟩
   simp only [h1]
   exact e
theorem vz {fa:F1} {p:PV} {ds:List D} (ho:Γ[i]?=some (some ⟨.lst .leaf,.list ds⟩)) (h:fa Γ=.ok p Γ) (hc:coer .leaf p=true) (hn:ds.length<=9000):eV i fa Γ=.nx (Γ.set i (some ⟨.lst .leaf,.list (ds++[p.d])⟩)):=by
 have hb:(10000:Nat)<=sizeLine:=by decide
 unfold eV Cm;rw [ho];simp only [if_true,t5,h]
 unfold yw;rw [ho];have:ds.length<sizeLine:=by omega
 simp only [hc,decide_eq_true this,Bool.and_self,if_true]
end
theorem Hz {α:Type} {en:α->D} {i:Nat} {fc:FB} {fe:F1} {s:Sh} {c:α->Bool} {f:α->PV} {Γ:Ev} (hΓ:Γ.set i none=Γ):∀(r:List α) (acc:List D),(∀x∈r,fc (Γ.set i (some ⟨.leaf,en x⟩))=.ok (c x) (Γ.set i (some ⟨.leaf,en x⟩))) ->
  (∀x∈r,c x=true->fe (Γ.set i (some ⟨.leaf,en x⟩))=.ok (f x) (Γ.set i (some ⟨.leaf,en x⟩))/\coer s (f x)=true)->acc.length+r.length<=sizeLine->qk i fc fe s (r.map en) Γ acc=.ok (acc++((r.filter c).map fun x=>(f x).d)) Γ
 | [],acc,_,_,_=>by simp [qk]
 | x::r,acc,hc,he,hl=>by
  have h1:=hc x mem_cons_self
  have hl1:acc.length<sizeLine:=by simp only [length_cons] at hl;omega
  have back:(Γ.set i (some ⟨.leaf,en x⟩)).set i none=Γ:=by rw [set_set];exact hΓ
  rw [map_cons,qk,h1]
  cases hcd:c x with
  | false=>
   dsimp only;rw [if_pos hl1,back,Hz hΓ r acc (fun d hd=>hc d (mem_cons_of_mem _ hd)) (fun d hd=>he d (mem_cons_of_mem _ hd)) (by simp only [length_cons] at hl;omega)]
   rw [List.filter_cons_of_neg (by rw [hcd];exact Bool.false_ne_true)]
  | true=>
   obtain ⟨h2,h3⟩:=he x mem_cons_self hcd;dsimp only;rw [h2];dsimp only;rw [h3,decide_eq_true hl1,Bool.and_self,if_pos rfl,back,Hz hΓ r (acc++[(f x).d]) (fun d hd=>hc d (mem_cons_of_mem _ hd)) (fun d hd=>he d (mem_cons_of_mem _ hd)) (by simp only [length_cons,length_append,length_nil] at hl ⊢;omega)]
   rw [List.filter_cons_of_pos hcd,map_cons,append_assoc];rfl
theorem nR {α:Type} (en:α->D) (xs:List α) (c:α->Bool) (f:α->PV) {s:Sh} {i:Nat} {fi:FI} {fc:FB} {fe:F1} {st:Bool} {Γ:Ev} (hi:fi Γ=.ok ⟨xs.map en,st⟩ Γ) (hl:i<Γ.length) (hs:s.isView=false) (hn:xs.length<=10000)
  (hc:∀x∈xs,fc (Γ.set i (some ⟨.leaf,en x⟩))=.ok (c x) (Γ.set i (some ⟨.leaf,en x⟩))) (he:∀x∈xs,c x=true->fe (Γ.set i (some ⟨.leaf,en x⟩))=.ok (f x) (Γ.set i (some ⟨.leaf,en x⟩))/\coer s (f x)=true) :
  av s i fi fc fe Γ=.ok ⟨.lst s,.list ((xs.filter c).map fun x=>(f x).d)⟩ Γ:=by
 have hb:(10000:Nat)<=sizeLine:=by decide
 unfold av;rw [hi];unfold Out.bind;dsimp only;rw [Hz (c:=c) (f:=f) (by rw [set_set]) xs [] (fun d hd=>by rw [set_set];exact hc d hd) (fun d hd=>by rw [set_set];exact he d hd) (by simp;omega)]
 dsimp only;rw [hs,decide_eq_true hl];simp only [Bool.not_false,Bool.and_self,if_true,nil_append,set_set]
 have:Γ.set i (Γ.getD i none)=Γ:=by
  apply yN
  rw [getD_eq_getElem?_getD,getElem?_eq_getElem hl];rfl
 rw [this]
theorem ie {α:Type} (en:α->D) (xs:List α) (f:α->PV) {s:Sh} {i:Nat} {fi:FI} {fe:F1} {st:Bool} {Γ:Ev} (hi:fi Γ=.ok ⟨xs.map en,st⟩ Γ) (hl:i<Γ.length) (hs:s.isView=false) (hn:xs.length<=10000)
  (he:∀x∈xs,fe (Γ.set i (some ⟨.leaf,en x⟩))=.ok (f x) (Γ.set i (some ⟨.leaf,en x⟩))/\coer s (f x)=true):av s i fi aG fe Γ=.ok ⟨.lst s,.list (xs.map fun x=>(f x).d)⟩ Γ:=by
 rw [nR (fc:=aG) en xs (fun _=>true) f hi hl hs hn (fun _ _=>rfl) fun x hx _=>he x hx,List.filter_eq_self.mpr fun _ _=>rfl]
theorem EG {α β:Type} (en:α->D) (step:β->α->β) {Inv:β->List α->Prop} {i:Nat} {body:FS} {G:β->Option PV->Ev} (hi:∀b x,i<(G b x).length) (hset:∀b x y,(G b x).set i y=G b y)
  (hb:∀b a r,Inv b (a::r)->body (G b (some ⟨.leaf,en a⟩))=.nx (G (step b a) (some ⟨.leaf,en a⟩))/\Inv (step b a) r):∀(xs:List α) (b:β) (x:Option PV),Inv b xs->∃y,b9 i body (xs.map en) (G b x)=.nx (G (xs.foldl step b) y)/\Inv (xs.foldl step b) []
 | [],b,x,h=>⟨x,rfl,h⟩
 | a::r,b,x,h=>by
  obtain ⟨h1,h2⟩:=hb b a r h;obtain ⟨y,e,h3⟩:=EG en step hi hset hb r (step b a) (some ⟨.leaf,en a⟩) h2
  refine ⟨y,?_,h3⟩
  rw [map_cons,b9,if_pos (hi b x),hset,h1];exact e
end T
namespace KC
open PySem PySem.Spec L2 T PySem.SeqAt
open PyProof.Rows hiding St
noncomputable abbrev rm (t:Nat):D:=.int (t:Int)
noncomputable abbrev ay (r:List Nat):D:=.list (r.map rm)
theorem Ez {n:Nat}:cj 0 n=(List.range n).map rm:=by
 unfold cj;simp
theorem vZ {t:Nat} {r:List Nat}:bG false (rm t) (ay r)=some (.bool (r.contains t)):=by
 have h:=u0 (ts:=r.map fun t:Nat=>(t:Int)) (i:=t)
 rw [map_map] at h;refine h.trans ?_
 congr 2
 rw [Bool.eq_iff_iff,contains_iff_mem,contains_iff_mem,mem_map];exact ⟨fun ⟨a,h1,h2⟩=>by rw [<-Int.ofNat_inj.mp h2];exact h1,fun h=>⟨t,h,rfl⟩⟩
theorem ER {t:Nat} {r:List Nat}:bG true (rm t) (ay r)=some (.bool (!r.contains t)):=by
 have h:=qY (ts:=r.map fun t:Nat=>(t:Int)) (i:=t)
 rw [map_map] at h;refine h.trans ?_
 congr 3
 rw [Bool.eq_iff_iff,contains_iff_mem,contains_iff_mem,mem_map];exact ⟨fun ⟨a,h1,h2⟩=>by rw [<-Int.ofNat_inj.mp h2];exact h1,fun h=>⟨t,h,rfl⟩⟩
structure Wd where
 n:Nat
 os:List D
 m:List (List Str)
 s:List (List Nat)
noncomputable def bX (r:List Str):D:=.list (r.map .str)
noncomputable def Wd.enc (w:Wd):D:=bO w.os (w.m.map bX) (w.s.map ay)
structure Wd.Ok (w:Wd):Prop where
 g:Gw (w.n:Int) w.n w.os (w.m.map bX) (w.s.map ay)
 h1:1<=w.n
 h24:w.n<=24
 lm:w.m.length=w.n
 ls:w.s.length=w.n
 st:∀r∈w.s,r≠[]/\r.length<=30/\∀t∈r,t<w.n
 mc:∀r∈w.m,∀c∈r,PyData.strOk c=true
noncomputable def Wd.stp (w:Wd) (r:Nat):List Nat:=w.s.getD r []
noncomputable def Wd.mks (w:Wd) (r:Nat):List Str:=w.m.getD r []
theorem Wd.Ok.at2 {w:Wd} (h:w.Ok) {r:Nat} (hr:r<w.n):eh (w.s.map ay) (r:Int)=some (ay (w.stp r)):=by
 refine yF ?_
 unfold Wd.stp;rw [getElem?_map,getD_eq_getElem?_getD,getElem?_eq_getElem (by rw [h.ls];exact hr)]
 rfl
theorem Wd.Ok.at1 {w:Wd} (h:w.Ok) {r:Nat} (hr:r<w.n):eh (w.m.map bX) (r:Int)=some (bX (w.mks r)):=by
 refine yF ?_
 unfold Wd.mks;rw [getElem?_map,getD_eq_getElem?_getD,getElem?_eq_getElem (by rw [h.lm];exact hr)]
 rfl
theorem Wd.Ok.stp_lt {w:Wd} (h:w.Ok) {r t:Nat} (ht:t∈w.stp r):t<w.n:=by
 unfold Wd.stp at ht;rw [getD_eq_getElem?_getD] at ht
 cases e:w.s[r]? with
 | none=>rw [e] at ht;simp at ht
 | some x=>rw [e] at ht;exact (h.st x (mem_of_getElem? e)).2.2 t ht
theorem Wd.Ok.stp_ne {w:Wd} (h:w.Ok) {r:Nat} (hr:r<w.n):w.stp r≠[]:=by
 unfold Wd.stp;rw [getD_eq_getElem?_getD,getElem?_eq_getElem (by rw [h.ls];exact hr)]
 exact (h.st _ (getElem_mem _)).1
theorem hE {w:Wd} (h:w.Ok) {r:List Nat}:dA [w.enc,ay r]=.ok ⟨.lst .leaf,ay ((List.range w.n).filter fun t=>!r.contains t)⟩:=by
 have lo:=h.g.lo
 have h24:=h.h24
 refine aT ?_
 have e:av .leaf 2 (gk (ah (bM bL (ah (ak (ae 0) (eK (.int 0))) ai)) ai)) (aQ ax (aE (bG true) (ae 2) (ae 1))) (ae 2) (aN 3 [w.enc,ay r])=.ok ⟨.lst .leaf,.list (((List.range w.n).filter fun t=>!r.contains t).map fun t=>rm t)⟩ (aN 3 [w.enc,ay r]):=by
  refine nR rm (List.range w.n) (fun t=>!r.contains t) (fun t=>⟨.leaf,rm t⟩) (st:=true) ?_ (by simp [aN]) rfl (by simp;omega) ?_ ?_
  ·refine (sN (k:=(w.n:Int)) (ps:=[⟨.leaf,.int w.n⟩]) ?_ rfl (by omega) (by omega)).trans (by rw [<-Ez];rfl)
   simp [aN,Wd.enc,lo]
  ·intro t ht
   simp [aN,ER]
  ·intro t ht _
   simp [aN]
 unfold fz;rw [mi,e];rfl
inductive Wr where
 | yes | mark | not | sn | an | sa | aa | and | or | su | au
 deriving DecidableEq
noncomputable def Wr.t:Wr->Str
 | .yes => "yes" | .mark => "mark" | .not => "not" | .sn => "some next" | .an => "all next" | .sa => "some always" | .aa => "all always" | .and => "and" | .or => "or" | .su => "some until" | .au => "all until"
theorem mW (a b:Wr):cV (.str a.t) (.str b.t)=some (.bool (decide (a=b))):=by cases a<;>cases b<;>kernel_rfl
@[simp] theorem IS (a:Wr):cV (.str a.t) (.str "yes")=some (.bool (decide (a=.yes))):=mW a .yes
@[simp] theorem FR (a:Wr):cV (.str a.t) (.str "mark")=some (.bool (decide (a=.mark))):=mW a .mark
@[simp] theorem IT (a:Wr):cV (.str a.t) (.str "not")=some (.bool (decide (a=.not))):=mW a .not
@[simp] theorem IU (a:Wr):cV (.str a.t) (.str "and")=some (.bool (decide (a=.and))):=mW a .and
@[simp] theorem JX (a:Wr):cV (.str a.t) (.str "or")=some (.bool (decide (a=.or))):=mW a .or
@[simp] theorem IH (a:Wr):bG false (.str a.t) mM=some (.bool (decide (a=.su\/a=.au))):=by cases a<;>kernel_rfl
@[simp] theorem FG (a:Wr):bG true (.str a.t) mM=some (.bool (!decide (a=.su\/a=.au))):=by cases a<;>kernel_rfl
@[simp] theorem IL (a:Wr):bG false (.str a.t) mN=some (.bool (decide (a=.sa\/a=.aa))):=by cases a<;>kernel_rfl
@[simp] theorem FK (a:Wr):bG true (.str a.t) mN=some (.bool (!decide (a=.sa\/a=.aa))):=by cases a<;>kernel_rfl
noncomputable def Wr.some (a:Wr):Bool:=decide (a=.sn\/a=.su\/a=.aa)
@[simp] theorem IJ (a:Wr):bG false (.str a.t) iM=.some (.bool a.some):=by cases a<;>kernel_rfl
noncomputable def Wr.ar:Wr->Option Int
 | .yes=>Option.some 0 | .mark=>none | .and=>Option.some 2 | .or=>Option.some 2 | .su=>Option.some 2 | .au=>Option.some 2 | _=>Option.some 1
@[simp] theorem FO (a:Wr):gK a.t wA=a.ar:=by cases a<;>kernel_rfl
inductive U5 where
 | not | sn | an | sa | aa
 deriving DecidableEq
inductive B4 where
 | and | or | su | au
 deriving DecidableEq
noncomputable def U5.w:U5->Wr
 | .not=>.not | .sn=>.sn | .an=>.an | .sa=>.sa | .aa=>.aa
noncomputable def B4.w:B4->Wr
 | .and=>.and | .or=>.or | .su=>.su | .au=>.au
inductive Sn where
 | yes | mk (c:Str) | un (k:U5) (a:Sn) | bi (k:B4) (a b:Sn)
 deriving DecidableEq
noncomputable def Sn.w:Sn->Wr
 | .yes=>.yes | .mk _=>.mark | .un k _=>k.w | .bi k _ _=>k.w
noncomputable def Sn.args:Sn->List Sn
 | .yes=>[] | .mk _=>[] | .un _ a=>[a] | .bi _ a b=>[a,b]
noncomputable def Sn.enc:Sn->D
 | .yes=>.tuple [.str Wr.yes.t] | .mk c=>.tuple [.str Wr.mark.t,.str c] | .un k a=>.tuple [.str k.w.t,a.enc] | .bi k a b=>.tuple [.str k.w.t,a.enc,b.enc]
noncomputable def Sn.size:Sn->Nat
 | .yes=>1 | .mk _=>1 | .un _ a=>a.size+1 | .bi _ a b=>a.size+b.size+1
noncomputable def Sn.dep:Sn->Nat
 | .yes=>1 | .mk _=>1 | .un _ a=>a.dep+1 | .bi _ a b=>max a.dep b.dep+1
noncomputable def bz:List Str:=["a", "b", "c", "d", "e", "f"]
noncomputable def Sn.ok:Sn->Prop
 | .yes=>True | .mk c=>c∈bz | .un _ a=>a.ok | .bi _ a b=>a.ok/\b.ok
theorem CJ {c:Str} (h:c∈bz):PyData.strOk c=true/\so (.str c)=true:=by
 unfold bz at h;simp only [mem_cons,not_mem_nil,or_false] at h
 rcases h with rfl | rfl | rfl | rfl | rfl | rfl<;>decide +kernel
noncomputable def Sn.psh:Sn->Sh
 | .mk _=>.tup [] | _=>.leaf
@[simp] theorem JR (s:Sn):s.psh.isView=false:=by cases s<;>rfl
noncomputable def Ka (l:List Sn):Nat:=(l.map Sn.size).sum
noncomputable def Ja (l:List Sn):Nat:=l.foldr (fun s m=>max s.dep m) 0
structure LS where
 ls:List (List Sn)
 l:List Sn
 many:Nat
structure LI (s:Sn) (b:LS):Prop where
 tot:(b.ls.map List.length).sum+Ka b.l=s.size
 mny:b.many=(b.ls.map List.length).sum
 dep:b.ls.length+Ja b.l=s.dep
 ok:∀a∈b.l,a.ok
end KC
namespace KC
noncomputable def aI (rk:List (Option Nat)) (t:Nat):Option Nat:=rk.getD t none
noncomputable def led (any:Bool) (l:List Nat) (P:Nat->Prop):Prop:=if any then ∃t∈l,P t else ∀t∈l,P t
theorem led_t {l:List Nat} {P:Nat->Prop}:led true l P↔∃t∈l,P t:=by unfold led;simp
theorem led_f {l:List Nat} {P:Nat->Prop}:led false l P↔∀t∈l,P t:=by unfold led;simp
theorem vQ {any:Bool} {l:List Nat} {P Q:Nat->Prop} (h:led any l P) (i:∀t∈l,P t->Q t):led any l Q:=by
 cases any with
 | true=>obtain ⟨t,ht,hp⟩:=led_t.mp h;exact led_t.mpr ⟨t,ht,i t ht hp⟩
 | false=>exact led_f.mpr fun t ht=>i t ht (led_f.mp h t ht)
structure RightG (n:Nat) (st:Nat->List Nat) (ch:Nat->Bool) (thr goal:List Nat) (rk:List (Option Nat)):Prop where
 len:rk.length=n
 g:∀r,r<n->r∈goal->aI rk r=some 0
 p:∀r k,r<n->r∉goal->aI rk r=some k->0<k/\r∈thr/\led (ch r) (st r) fun t=>∃j,aI rk t=some j/\j<k
 z:∀r,r<n->aI rk r=none->r∉goal/\(r∉thr\/¬led (ch r) (st r) fun t=>aI rk t≠none)
section
variable {n:Nat} {st:Nat->List Nat} {ch own:Nat->Bool} {thr goal:List Nat} {rk:List (Option Nat)}
theorem RightG.min (h:RightG n st ch thr goal rk) {S:Nat->Prop} (cl:∀r t,t∈st r->t<n) (hg:∀r,r<n->r∈goal->S r) (hs:∀r,r<n->r∈thr->led (ch r) (st r) S->S r) {r:Nat} (hr:r<n) (hk:aI rk r≠none):S r:=by
 have key:∀k r,r<n->aI rk r=some k->S r:=by
  intro k;induction k using Nat.strongRecOn with
  | ind k ih=>
   intro r hr hk;by_cases hgo:r∈goal
   ·exact hg r hr hgo
   ·obtain ⟨_,h2,h3⟩:=h.p r k hr hgo hk
    exact hs r hr h2 (vQ h3 fun t ht ⟨j,hj,hlt⟩=>ih j hlt t (cl r t ht) hj)
 obtain ⟨k,hk⟩:=Option.ne_none_iff_exists'.mp hk
 exact key k r hr hk
theorem RightG.goal_ok (h:RightG n st ch thr goal rk) {r:Nat} (hr:r<n) (hg:r∈goal):aI rk r≠none:=by rw [h.g r hr hg];simp
theorem RightG.step_ok (h:RightG n st ch thr goal rk) {r:Nat} (hr:r<n) (ht:r∈thr) (hl:led (ch r) (st r) fun t=>aI rk t≠none):aI rk r≠none:=fun z=>by
 rcases (h.z r hr z).2 with q | q
 ·exact q ht
 ·exact q hl
theorem RightG.no (h:RightG n st ch thr goal rk) {r:Nat} (hr:r<n) (ht:r∈thr) (hz:aI rk r=none):led (!ch r) (st r) fun t=>aI rk t=none:=by
 rcases (h.z r hr hz).2 with q | q
 ·exact absurd ht q
 ·cases hc:ch r with
  | true=>
   rw [hc,led_t] at q;refine led_f.mpr fun t ht=>?_
   cases e:aI rk t with
   | none=>rfl
   | some k=>exact absurd ⟨t,ht,by rw [e];simp⟩ q
  | false=>
   rw [hc,led_f] at q;refine led_t.mpr ?_
   exact Classical.byContradiction fun c=>q fun t ht e=>c ⟨t,ht,e⟩
end
noncomputable def inn (st:Nat->List Nat) (L:List Nat) (r:Nat):List Nat:=(st r).filter fun t=>L.contains t
theorem mem_inn {st:Nat->List Nat} {L:List Nat} {r t:Nat}:t∈inn st L r↔t∈st r/\t∈L:=by unfold inn;simp
structure Suff (n:Nat) (st:Nat->List Nat) (own:Nat->Bool) (T X:Nat->Prop):Prop where
 lt:∀r,X r->r<n
 c:∀r,X r->led (own r) (st r) X
 a:∀S:Nat->Prop,(∀r,X r->T r->S r)->(∀r,X r->led (own r) (st r) (fun t=>X t/\S t)->S r)->∀r,X r->S r
section
variable {n:Nat} {st:Nat->List Nat} {own:Nat->Bool} {T T' X:Nat->Prop} {L G lost:List Nat} {rk rk2:List (Option Nat)}
theorem Suff.ranked (h:Suff n st own T X) (hX:∀r,X r->r∈L) (hG:∀r,r∈L->T r->r∈G) (R:RightG n (inn st L) own L G rk) {r:Nat} (hr:X r):aI rk r≠none:=by
 refine h.a (fun r=>aI rk r≠none) (fun r hx ht=>R.goal_ok (h.lt r hx) (hG r (hX r hx) ht)) (fun r hx hl=>?_) r hr
 refine R.step_ok (h.lt r hx) (hX r hx) ?_
 cases ho:own r with
 | true=>
  rw [ho] at hl;obtain ⟨t,ht,hxt,hk⟩:=led_t.mp hl;exact led_t.mpr ⟨t,mem_inn.mpr ⟨ht,hX t hxt⟩,hk⟩
 | false=>
  rw [ho] at hl;exact led_f.mpr fun t ht=>(led_f.mp hl t (mem_inn.mp ht).1).2
theorem Suff.stays (h:Suff n st own T X) (cl:∀r t,t∈st r->t<n) (hX:∀r,X r->r∈L) (hl:∀r,X r->r∉lost) (R:RightG n (inn st L) (fun r=>!own r) L lost rk2) {r:Nat} (hr:X r):aI rk2 r=none:=by
 cases e:aI rk2 r with
 | none=>rfl
 | some k=>
  exfalso
  refine R.min (S:=fun r=>¬X r) (fun r t ht=>cl r t (mem_inn.mp ht).1) (fun r _ hg hx=>hl r hx hg) (fun r hr' ht hl' hx=>?_) (h.lt r hr) (by rw [e];simp) hr
  have hc:=h.c r hx
  cases ho:own r with
  | true=>
   rw [ho] at hl' hc
   obtain ⟨t,ht,hxt⟩:=led_t.mp hc;exact led_f.mp hl' t (mem_inn.mpr ⟨ht,hX t hxt⟩) hxt
  | false=>
   rw [ho] at hl' hc
   obtain ⟨t,ht,hxt⟩:=led_t.mp hl'
   exact hxt (led_f.mp hc t (mem_inn.mp ht).1)
theorem wF (cl:∀r t,t∈st r->t<n) (hL:∀r∈L,r<n) (hc:∀r∈L,led (own r) (st r) (·∈L)) (hG:∀r,r∈G↔r∈L/\T r) (R:RightG n (inn st L) own L G rk) (hr:∀r∈L,aI rk r≠none):Suff n st own T (·∈L):=by
 refine ⟨hL,hc,fun S h1 h2 r hx=>?_⟩
 refine R.min (S:=S) (fun r t ht=>cl r t (mem_inn.mp ht).1) (fun r _ hg=>h1 r ((hG r).mp hg).1 ((hG r).mp hg).2) (fun r hr' ht hl=>h2 r ht ?_) (hL r hx) (hr r hx)
 have hc:=hc r ht
 cases ho:own r with
 | true=>
  rw [ho] at hl;obtain ⟨t,ht,hs⟩:=led_t.mp hl;exact led_t.mpr ⟨t,(mem_inn.mp ht).1,(mem_inn.mp ht).2,hs⟩
 | false=>
  rw [ho] at hl hc
  exact led_f.mpr fun t ht=>⟨led_f.mp hc t ht,led_f.mp hl t (mem_inn.mpr ⟨ht,led_f.mp hc t ht⟩)⟩
theorem uS (hL:∀r∈L,r<n) (hc:∀r∈L,led (own r) (st r) (·∈L)) (R:RightG n (inn st L) (fun r=>!own r) L lost rk2) {r:Nat} (hr:r∈L) (hz:aI rk2 r=none):led (own r) (st r) fun t=>t∈L/\aI rk2 t=none:=by
 have h:=R.no (hL r hr) hr hz
 have hc:=hc r hr
 cases ho:own r with
 | true=>
  simp only [ho,Bool.not_true,Bool.not_false] at h
  obtain ⟨t,ht,e⟩:=led_t.mp h;exact led_t.mpr ⟨t,(mem_inn.mp ht).1,(mem_inn.mp ht).2,e⟩
 | false=>
  simp only [ho,Bool.not_true,Bool.not_false] at h
  rw [ho] at hc;exact led_f.mpr fun t ht=>⟨led_f.mp hc t ht,led_f.mp h t (mem_inn.mpr ⟨ht,led_f.mp hc t ht⟩)⟩
end
structure Fr {α:Type} (n:Nat) (st:Nat->List Nat) (R:Nat->Prop) (M:List α) (mk:α->Nat->Prop) (X:Nat->Prop):Prop where
 lt:∀r,X r->r<n
 sub:∀r,X r->R r
 c:∀r,X r->∃t∈st r,X t
 a:∀m∈M,∀S:Nat->Prop,(∀r,X r->mk m r->S r)->(∀r,X r->(∃t∈st r,X t/\S t)->S r)->∀r,X r->S r
noncomputable def Std (n:Nat) (L:List Nat):Prop:=∃q:Nat->Bool,L=(List.range n).filter q
theorem Std.lt {n:Nat} {L:List Nat} (h:Std n L):∀r∈L,r<n:=by
 obtain ⟨q,rfl⟩:=h;intro r hr;exact List.mem_range.mp (List.mem_filter.mp hr).1
theorem Std.len {n:Nat} {L:List Nat} (h:Std n L):L.length<=n:=by
 obtain ⟨q,rfl⟩:=h;exact Nat.le_trans (length_filter_le _ _) (by simp)
theorem Std.filter {n:Nat} {L:List Nat} (h:Std n L) (p:Nat->Bool):Std n (L.filter p):=by
 obtain ⟨q,rfl⟩:=h;exact ⟨fun t=>p t&&q t,List.filter_filter ..⟩
theorem Std.range {n:Nat}:Std n (List.range n):=⟨fun _=>true,(List.filter_eq_self.mpr fun _ _=>rfl).symm⟩
theorem Std.of {n:Nat} (q:Nat->Bool):Std n ((List.range n).filter q):=⟨q,rfl⟩
theorem Std.ext {n:Nat} {L M:List Nat} (h:Std n L) (h':Std n M) (e:∀r,r<n->(r∈L↔r∈M)):L=M:=by
 obtain ⟨q,rfl⟩:=h;obtain ⟨p,rfl⟩:=h'
 refine List.filter_congr fun r hr=>?_
 have:=e r (List.mem_range.mp hr)
 simp only [mem_filter,hr,true_and] at this
 exact Bool.eq_iff_iff.mpr this
open PySem PySem.Spec L2 T PySem.SeqAt
open PyProof.Rows hiding St
noncomputable def oD:Option Nat->D
 | none=>.none
 | some k=>.int (k:Int)
@[simp] theorem xG (o:Option Nat):o7 (oD o)=o.isNone:=by cases o<;>rfl
@[simp] theorem FF (o:Option Nat):bJ (oD o)=true:=by cases o<;>rfl
noncomputable abbrev bj (rk:List (Option Nat)):D:=.list (rk.map oD)
theorem eO {rk:List (Option Nat)} {t:Nat} (h:t<rk.length):eh (rk.map oD) (t:Int)=some (oD (aI rk t)):=by
 refine yF ?_
 unfold aI;rw [getElem?_map,getD_eq_getElem?_getD,getElem?_eq_getElem h];rfl
noncomputable def kR (any:Bool) (bs:List Bool):Bool:=if any then bs.any id else bs.all id
theorem Gz {bs:List Bool}:b8 true [.list (bs.map .bool)]=some (.bool (bs.any id)):=by
 have h:=GY (any:=true) (xs:=bs) (f:=id)
 show Option.map _ (sx _)=_
 rw [show (bs.map PyData.bool)=bs.map fun x=>PyData.bool (id x) from rfl,h]
 simp
theorem mU {bs:List Bool}:b8 false [.list (bs.map .bool)]=some (.bool (bs.all id)):=by
 have h:=GY (any:=true) (xs:=bs) (f:=id)
 show Option.map _ (sx _)=_
 rw [show (bs.map PyData.bool)=bs.map fun x=>PyData.bool (id x) from rfl,h]
 simp
theorem yf {c:Bool} {bs:List Bool}:dF [.bool c,.list (bs.map .bool)]=.ok ⟨.leaf,.bool (kR c bs)⟩:=by
 unfold kR
 cases c<;>simp [dF,aL,ny,aN,Gz,mU]
structure Wd.Ok0 (w:Wd):Prop where
 lo:w.os.length=w.n
 h24:w.n<=24
 ls:w.s.length=w.n
 st:∀r∈w.s,r.length<=30/\∀t∈r,t<w.n
theorem Wd.Ok.z {w:Wd} (h:w.Ok):w.Ok0:=⟨h.g.lo,h.h24,h.ls,fun r hr=>(h.st r hr).2⟩
theorem Wd.Ok0.at2 {w:Wd} (h:w.Ok0) {r:Nat} (hr:r<w.n):eh (w.s.map ay) (r:Int)=some (ay (w.stp r)):=by
 refine yF ?_
 unfold Wd.stp;rw [getElem?_map,getD_eq_getElem?_getD,getElem?_eq_getElem (by rw [h.ls];exact hr)]
 rfl
theorem Wd.Ok0.stp_lt {w:Wd} (h:w.Ok0) {r t:Nat} (ht:t∈w.stp r):t<w.n:=by
 unfold Wd.stp at ht;rw [getD_eq_getElem?_getD] at ht
 cases e:w.s[r]? with
 | none=>rw [e] at ht;simp at ht
 | some x=>rw [e] at ht;exact (h.st x (mem_of_getElem? e)).2 t ht
theorem Wd.Ok0.len {w:Wd} (h:w.Ok0) {r:Nat}:(w.stp r).length<=10000:=by
 unfold Wd.stp;rw [getD_eq_getElem?_getD]
 cases e:w.s[r]? with
 | none=>simp
 | some x=>
  have:=(h.st x (mem_of_getElem? e)).1
  simp only [Option.getD_some]
  omega
noncomputable abbrev lq (cl:List Bool):D:=.list (cl.map .bool)
noncomputable def gO (cl:List Bool) (r:Nat):Bool:=cl.getD r false
theorem D6 {cl:List Bool} {t:Nat} (h:t<cl.length):eh (cl.map PyData.bool) (t:Int)=some (.bool (gO cl t)):=by
 refine yF ?_
 unfold gO;rw [getElem?_map,getD_eq_getElem?_getD,getElem?_eq_getElem h];rfl
noncomputable def uK (w:Wd) (ch:Nat->Bool) (thr:List Nat) (rk:List (Option Nat)):List Nat:=thr.filter fun r=>(aI rk r).isNone&&kR (ch r) ((w.stp r).map fun t=>(aI rk t).isSome)
theorem vm {w:Wd} (h:w.Ok0) {cl:List Bool} {thr:List Nat} {rk:List (Option Nat)} (hcl:cl.length=w.n) (ht:∀r∈thr,r<w.n) (hl:rk.length=w.n) (hn:thr.length<=1000):b6 [w.enc,lq cl,ay thr,bj rk]=.ok ⟨.lst .leaf,ay (uK w (gO cl) thr rk)⟩:=by
 obtain ⟨y,e,_⟩:=EG rm (fun (b:List Nat) r=>if (aI rk r).isNone&&kR (gO cl r) ((w.stp r).map fun t=>(aI rk t).isSome) then b++[r] else b) (Inv:=fun b r=>b.length+r.length<=1000/\∀t∈r,t<w.n) (i:=5)
  (body:=(cF (gz (aQ ax (aE (bx false) (ak (ae 3) (ae 5)) (eK .none))) (aQ bF (aj 2 dF (ah (ak (ae 1) (ae 5)) (ah (av .leaf 6 (aF (ak (ak (ae 0) (eK (.int 2))) (ae 5))) aG (aE (bx true) (ak (ae 3) (ae 6)) (eK .none))) ai))))) (eV 4 (ae 5)) aS))
  (G:=fun b x=>[some ⟨.leaf,w.enc⟩,some ⟨.leaf,lq cl⟩,some ⟨.leaf,ay thr⟩,some ⟨.leaf,bj rk⟩,some ⟨.lst .leaf,ay b⟩,x,none])
  (fun _ _=>by simp) (fun _ _ _=>by simp) (fun b r rest hI=>by
   obtain ⟨h1,h2⟩:=hI;have hr:r<w.n:=h2 r mem_cons_self
   have a1:=eO (rk:=rk) (t:=r) (by omega)
   have a2:=h.at2 hr
   have a4:=D6 (cl:=cl) (t:=r) (by omega)
   simp only [length_cons] at h1
   have c1:av .leaf 6 (aF (ak (ak (ae 0) (eK (.int 2))) (ae 5))) aG (aE (bx true) (ak (ae 3) (ae 6)) (eK .none)) [some ⟨.leaf,w.enc⟩,some ⟨.leaf,lq cl⟩,some ⟨.leaf,ay thr⟩,some ⟨.leaf,bj rk⟩,some ⟨.lst .leaf,ay b⟩,some ⟨.leaf,rm r⟩,none]
     = .ok ⟨.lst .leaf,.list ((w.stp r).map fun t=>.bool (aI rk t).isSome)⟩ [some ⟨.leaf,w.enc⟩,some ⟨.leaf,lq cl⟩,some ⟨.leaf,ay thr⟩,some ⟨.leaf,bj rk⟩,some ⟨.lst .leaf,ay b⟩,some ⟨.leaf,rm r⟩,none]:=by
    refine ie rm (w.stp r) (fun t=>⟨.leaf,.bool (aI rk t).isSome⟩) (st:=true) (by simp [Wd.enc,a2]) (by simp) rfl h.len fun t ht=>?_
    have a3:=eO (rk:=rk) (t:=t) (by rw [hl];exact h.stp_lt ht)
    simp [a3]
   have dl:=yf (c:=gO cl r) (bs:=(w.stp r).map fun t=>(aI rk t).isSome)
   rw [map_map] at dl;have dl:dF [.bool (gO cl r),.list ((w.stp r).map fun t=>.bool (aI rk t).isSome)]=.ok ⟨.leaf,.bool (kR (gO cl r) ((w.stp r).map fun t=>(aI rk t).isSome))⟩:=dl
   have ap:eV 4 (ae 5) [some ⟨.leaf,w.enc⟩,some ⟨.leaf,lq cl⟩,some ⟨.leaf,ay thr⟩,some ⟨.leaf,bj rk⟩,some ⟨.lst .leaf,ay b⟩,some ⟨.leaf,rm r⟩,none]=.nx [some ⟨.leaf,w.enc⟩,some ⟨.leaf,lq cl⟩,some ⟨.leaf,ay thr⟩,some ⟨.leaf,bj rk⟩,some ⟨.lst .leaf,.list (b.map rm++[rm r])⟩,some ⟨.leaf,rm r⟩,none]:=
    vz rfl (aA rfl) rfl (by simp;omega)
   refine ⟨?_,?_⟩
   ·cases q1:(aI rk r).isNone with
    | false=>simp [a1,q1]
    | true=>
     cases q2:kR (gO cl r) ((w.stp r).map fun t=>(aI rk t).isSome) with
     | false=>simp [a1,a4,q1,c1,dl,q2]
     | true=>simp [a1,a4,q1,c1,dl,q2,ap]
   ·refine ⟨?_,fun t ht=>h2 t (mem_cons_of_mem _ ht)⟩
    split
    ·rw [length_append,length_singleton];omega
    ·omega) thr [] none (by simp;exact ⟨hn,ht⟩)
 have ef:∀(l b:List Nat),l.foldl (fun (b:List Nat) r=>if (aI rk r).isNone&&kR (gO cl r) ((w.stp r).map fun t=>(aI rk t).isSome) then b++[r] else b) b=b++uK w (gO cl) l rk:=by
  intro l;induction l with
  | nil=>intro b;simp [uK]
  | cons r t ih=>
   intro b;rw [List.foldl_cons,ih];unfold uK;rw [filter_cons];split<;>simp
 rw [ef,nil_append] at e;refine aT ?_
 have e2:=eX (fi:=aF (ae 2)) (Γ:=[some ⟨.leaf,w.enc⟩,some ⟨.leaf,lq cl⟩,some ⟨.leaf,ay thr⟩,some ⟨.leaf,bj rk⟩,some ⟨.lst .leaf,ay []⟩,none,none]) (bZ (ds:=thr.map rm) (aA rfl) rfl) e
 have e1:aD true 4 (aU .leaf ai) (aN 7 [w.enc,lq cl,ay thr,bj rk])=.nx [some ⟨.leaf,w.enc⟩,some ⟨.leaf,lq cl⟩,some ⟨.leaf,ay thr⟩,some ⟨.leaf,bj rk⟩,some ⟨.lst .leaf,ay []⟩,none,none]:=by simp [aN]
 unfold fy;rw [pH,e1];simp only
 rw [pH,e2];simp
theorem led_iff {any:Bool} {l:List Nat} {b:Nat->Bool}:kR any (l.map b)=true↔led any l fun t=>b t=true:=by
 unfold kR led
 cases any<;>simp
structure J1 (w:Wd) (any:Bool) (thr goal:List Nat) (rk:List (Option Nat)):Prop where
 len:rk.length=w.n
 g:∀r,r<w.n->r∈goal->aI rk r=some 0
 p:∀r k,r<w.n->r∉goal->aI rk r=some k->0<k/\r∈thr/\led any (w.stp r) fun t=>∃j,aI rk t=some j/\j<k
 z:∀r,r<w.n->aI rk r=none->r∉goal/\(r∉thr\/¬led any (w.stp r) fun t=>aI rk t≠none)
inductive D7 (w:Wd) (any:Bool) (P Q:Nat->Prop):Nat->Prop where
 | now {r:Nat}:Q r->D7 w any P Q r
 | some {r t:Nat}:any=true->P r->t∈w.stp r->D7 w any P Q t->D7 w any P Q r
 | all {r:Nat}:any=false->P r->(∀t∈w.stp r,D7 w any P Q t)->D7 w any P Q r
noncomputable def cG (rk:List (Option Nat)) (k:Nat) (fr:List Nat):List (Option Nat):=fr.foldl (fun l r=>l.set r (some k)) rk
theorem G6 {k:Nat}:∀(fr:List Nat) (rk:List (Option Nat)),(cG rk k fr).length=rk.length
 | [],_=>rfl
 | a::r,rk=>by
  show (cG (rk.set a (some k)) k r).length=_
  rw [G6,length_set]
theorem wU {rk:List (Option Nat)} {a t:Nat} {o:Option Nat} (h:a<rk.length):aI (rk.set a o) t=if t=a then o else aI rk t:=by
 unfold aI;rw [getD_eq_getElem?_getD,getD_eq_getElem?_getD];split
 ·rename_i e;subst e;rw [getElem?_set_self h];rfl
 ·rename_i e;rw [getElem?_set_ne (fun z=>e z.symm)]
theorem pF {k t:Nat}:∀(fr:List Nat) (rk:List (Option Nat)),(∀a∈fr,a<rk.length)->aI (cG rk k fr) t=if t∈fr then some k else aI rk t
 | [],rk,_=>by simp [cG]
 | a::r,rk,h=>by
  show aI (cG (rk.set a (some k)) k r) t=_
  rw [pF r _ (fun b hb=>by rw [length_set];exact h b (mem_cons_of_mem _ hb)),wU (h a mem_cons_self)]
  by_cases e1:t∈r
  ·simp [e1]
  ·by_cases e2:t=a
   ·simp [e2]
   ·simp [e1,e2]
noncomputable def bW (rk:List (Option Nat)):Nat:=(rk.filter Option.isNone).length
theorem qZ {rk:List (Option Nat)} {a k:Nat} (h:rk[a]?=some none):bW (rk.set a (some k))+1=bW rk:=by
 induction rk generalizing a with
 | nil=>simp at h
 | cons x r ih=>
  cases a with
  | zero=>
   simp at h
   subst h;simp [bW]
  | succ a=>
   have:=ih (a:=a) (by simpa using h)
   simp only [bW,List.set_cons_succ,filter_cons] at this ⊢
   cases x with
   | none=>simp only [Option.isNone_none,if_true,length_cons];omega
   | some v=>simpa using this
theorem uM {rk:List (Option Nat)} {a k:Nat}:bW (rk.set a (some k))<=bW rk:=by
 induction rk generalizing a with
 | nil=>simp [bW]
 | cons x r ih=>
  cases a with
  | zero=>cases x<;>simp [bW]
  | succ a=>
   have:=ih (a:=a)
   simp only [bW,List.set_cons_succ,filter_cons] at this ⊢
   cases x with
   | none=>simp only [Option.isNone_none,if_true,length_cons];omega
   | some v=>simpa using this
theorem fX {k:Nat}:∀(fr:List Nat) (rk:List (Option Nat)),bW (cG rk k fr)<=bW rk
 | [],_=>Nat.le_refl _
 | a::r,rk=>Nat.le_trans (fX r (rk.set a (some k))) uM
theorem rd {k:Nat} {fr:List Nat} {rk:List (Option Nat)} (hne:fr≠[]) (h:∀a∈fr,rk[a]?=some none):bW (cG rk k fr)<bW rk:=by
 cases fr with
 | nil=>exact absurd rfl hne
 | cons a r=>
  have h1:=qZ (k:=k) (h a mem_cons_self)
  have h2:=fX (k:=k) r (rk.set a (some k))
  show bW (cG (rk.set a (some k)) k r)<_
  omega
structure RS where
 rk:List (Option Nat)
 k:Nat
 fr:List Nat
 x8:Option PV
structure RI (w:Wd) (ch:Nat->Bool) (thr goal:List Nat) (b:RS):Prop where
 len:b.rk.length=w.n
 frn:∀r∈b.fr,r<w.n/\aI b.rk r=none
 frl:b.fr.length<=1000
 lt:∀r j,aI b.rk r=some j->j<b.k
 zero:b.k=0->b.fr=goal
 g:0<b.k->∀r,r∈goal->aI b.rk r=some 0
 p:∀r j,r<w.n->r∉goal->aI b.rk r=some j->0<j/\r∈thr/\led (ch r) (w.stp r) fun t=>∃i,aI b.rk t=some i/\i<j
 nx:0<b.k->b.fr=uK w ch thr b.rk
 m1:∀r,r∈thr->aI b.rk r=none->¬led (ch r) (w.stp r) fun t=>∃i,aI b.rk t=some i/\i+1<b.k
 m2:∀r j,r∉goal->aI b.rk r=some j->¬led (ch r) (w.stp r) fun t=>∃i,aI b.rk t=some i/\i+1<j
noncomputable def J6 (st:Nat->List Nat) (ch:Nat->Bool) (goal:List Nat) (rk:List (Option Nat)):Prop:=∀r j,r∉goal->aI rk r=some j->¬led (ch r) (st r) fun t=>∃i,aI rk t=some i/\i+1<j
theorem RI.right {w:Wd} {ch:Nat->Bool} {thr goal:List Nat} {b:RS} (hne:∀r∈thr,w.stp r≠[]) (I:RI w ch thr goal b) (he:b.fr=[]):RightG w.n w.stp ch thr goal b.rk:=by
 refine ⟨I.len,fun r hr hg=>?_,I.p,fun r hr hz=>?_⟩
 ·rcases Nat.eq_zero_or_pos b.k with h | h
  ·rw [<-I.zero h,he] at hg;simp at hg
  ·exact I.g h r hg
 ·rcases Nat.eq_zero_or_pos b.k with h | h
  ·have hg:goal=[]:=by rw [<-I.zero h];exact he
   refine ⟨by rw [hg];simp,?_⟩
   by_cases ht:r∈thr
   case neg=>exact .inl ht
   refine .inr fun hl=>?_
   have no:∀t,aI b.rk t=none:=fun t=>by
    cases e:aI b.rk t with
    | none=>rfl
    | some j=>have:=I.lt t j e;omega
   cases hc:ch r with
   | true=>
    rw [hc] at hl;obtain ⟨t,_,z⟩:=led_t.mp hl;exact z (no t)
   | false=>
    rw [hc] at hl;obtain ⟨t,ht'⟩:=exists_mem_of_ne_nil _ (hne r ht);exact led_f.mp hl t ht' (no t)
  ·refine ⟨fun hg=>(by rw [I.g h r hg] at hz;cases hz),?_⟩
   by_cases ht:r∈thr
   ·refine .inr fun hl=>?_
    have hx:=I.nx h
    rw [he] at hx;have:r∈uK w ch thr b.rk:=by
     unfold uK;refine List.mem_filter.mpr ⟨ht,?_⟩
     rw [hz];simp only [Option.isNone_none,Bool.true_and]
     exact led_iff.mpr (vQ hl fun t _ z=>by cases e:aI b.rk t with | none=>exact absurd e z | some j=>rfl)
    rw [<-hx] at this;simp at this
   ·exact .inl ht
theorem RI.step {w:Wd} {ch:Nat->Bool} {thr goal:List Nat} (hne0:∀r∈thr,w.stp r≠[]) {b:RS} {y:Option PV} (hthr:∀r∈thr,r<w.n) (hl:thr.length<=1000) (I:RI w ch thr goal b) (hne:b.fr≠[]) :
  RI w ch thr goal ⟨cG b.rk b.k b.fr,b.k+1,uK w ch thr (cG b.rk b.k b.fr),y⟩/\bW (cG b.rk b.k b.fr)<bW b.rk:=by
 have hfl:∀a∈b.fr,a<b.rk.length:=fun a ha=>by rw [I.len];exact (I.frn a ha).1
 have pt:∀t,aI (cG b.rk b.k b.fr) t=if t∈b.fr then some b.k else aI b.rk t:=fun t=>pF _ _ hfl
 refine ⟨⟨by rw [G6];exact I.len,fun r hr=>?_,?_,fun r j e=>?_,fun z=>absurd z (Nat.succ_ne_zero _),fun _ r hg=>?_,fun r j hr hg e=>?_,fun _=>rfl,fun r ht hz hl=>?_,fun r j hg e hl=>?_⟩,rd hne fun a ha=>?_⟩
 ·obtain ⟨h1,h2⟩:=List.mem_filter.mp hr
  simp only [Bool.and_eq_true,Option.isNone_iff_eq_none] at h2
  exact ⟨hthr r h1,h2.1⟩
 ·exact Nat.le_trans (length_filter_le _ _) hl
 ·rw [pt] at e
  show j<b.k+1
  split at e
  ·cases e;omega
  ·have:=I.lt r j e;omega
 ·show aI (cG b.rk b.k b.fr) r=some 0
  rw [pt];rcases Nat.eq_zero_or_pos b.k with h | h
  ·rw [I.zero h,if_pos hg,h]
  ·have:=I.g h r hg
   split
   ·rename_i z;rw [(I.frn r z).2] at this;cases this
   ·exact this
 ·have e:aI (cG b.rk b.k b.fr) r=some j:=e
  rw [pt] at e;split at e
  ·rename_i hm
   cases e;have hk:0<b.k:=by
    rcases Nat.eq_zero_or_pos b.k with h | h
    ·rw [I.zero h] at hm;exact absurd hm hg
    ·exact h
   have hx:=I.nx hk
   rw [hx] at hm;obtain ⟨h1,h2⟩:=List.mem_filter.mp hm;simp only [Bool.and_eq_true] at h2
   refine ⟨hk,h1,vQ (led_iff.mp h2.2) fun t _ z=>?_⟩
   cases e:aI b.rk t with
   | none=>rw [e] at z;cases z
   | some i=>
    refine ⟨i,?_,I.lt t i e⟩
    show aI (cG b.rk b.k b.fr) t=_
    rw [pt,if_neg (fun q=>by rw [(I.frn t q).2] at e;cases e),e]
  ·obtain ⟨h1,h2,h3⟩:=I.p r j hr hg e
   refine ⟨h1,h2,vQ h3 fun t _ ⟨i,hi,hlt⟩=>⟨i,?_,hlt⟩⟩
   show aI (cG b.rk b.k b.fr) t=_
   rw [pt,if_neg (fun q=>by rw [(I.frn t q).2] at hi;cases hi),hi]
 ·have hz:aI (cG b.rk b.k b.fr) r=none:=hz
  rw [pt] at hz;split at hz
  ·cases hz
  rename_i hf;have hl:led (ch r) (w.stp r) fun t=>∃i,aI (cG b.rk b.k b.fr) t=some i/\i+1<b.k+1:=hl
  have hl:led (ch r) (w.stp r) fun t=>∃i,aI b.rk t=some i/\i<b.k:=vQ hl fun t _ ⟨i,hi,hlt⟩=>by
   rw [pt] at hi;split at hi
   ·cases hi;omega
   ·exact ⟨i,hi,by omega⟩
  rcases Nat.eq_zero_or_pos b.k with h | h
  ·cases hc:ch r with
   | true=>
    rw [hc] at hl;obtain ⟨t,_,i,_,z⟩:=led_t.mp hl;omega
   | false=>
    rw [hc] at hl;obtain ⟨t,ht'⟩:=exists_mem_of_ne_nil _ (hne0 r ht);obtain ⟨i,_,z⟩:=led_f.mp hl t ht'
    omega
  ·refine hf ?_
   rw [I.nx h];refine List.mem_filter.mpr ⟨ht,?_⟩
   rw [hz];simp only [Option.isNone_none,Bool.true_and]
   exact led_iff.mpr (vQ hl fun t _ ⟨i,hi,_⟩=>by rw [hi];rfl)
 ·have e:aI (cG b.rk b.k b.fr) r=some j:=e
  have hl:led (ch r) (w.stp r) fun t=>∃i,aI (cG b.rk b.k b.fr) t=some i/\i+1<j:=hl
  have hj:j<=b.k:=by
   rw [pt] at e;split at e
   ·cases e;omega
   ·have:=I.lt r j e;omega
  have hl:led (ch r) (w.stp r) fun t=>∃i,aI b.rk t=some i/\i+1<j:=vQ hl fun t _ ⟨i,hi,hlt⟩=>by
   rw [pt] at hi;split at hi
   ·cases hi;omega
   ·exact ⟨i,hi,hlt⟩
  rw [pt] at e;split at e
  ·rename_i hm
   cases e;have hk:0<b.k:=by
    rcases Nat.eq_zero_or_pos b.k with h | h
    ·rw [I.zero h] at hm;exact absurd hm hg
    ·exact h
   have hm':=hm
   rw [I.nx hk] at hm';exact I.m1 r (List.mem_filter.mp hm').1 (I.frn r hm).2 hl
  ·exact I.m2 r j hg e hl
 ·obtain ⟨h1,h2⟩:=I.frn a ha
  unfold aI at h2;rw [getD_eq_getElem?_getD,getElem?_eq_getElem (by rw [I.len];exact h1)] at h2
  rw [getElem?_eq_getElem (by rw [I.len];exact h1)]
  simpa using h2
noncomputable abbrev GR (w:Wd) (cl:List Bool) (thr goal:List Nat) (b:RS):Ev:=[some ⟨.leaf,w.enc⟩,some ⟨.leaf,lq cl⟩,some ⟨.leaf,ay thr⟩,some ⟨.leaf,ay goal⟩,some ⟨.lst .leaf,bj b.rk⟩,some ⟨.leaf,.int (b.k:Int)⟩,some ⟨.leaf,ay b.fr⟩,b.x8,none]
noncomputable abbrev kE:FS:=(aw (dz 7 (aF (ae 6))
  (ez 4 (ae 5) (ae 7)))
  (aw (fR 5 (eK (.int 1)))
  (aD false 6 (zC 4 b6 (ah (ae 0) (ah (ae 1) (ah (ae 2) (ah (ae 4) ai))))))))
theorem wR {w:Wd} (ok:w.Ok0) {cl:List Bool} {thr goal:List Nat} {b:RS} (hcl:cl.length=w.n) (hne0:∀r∈thr,w.stp r≠[]) (hthr:∀r∈thr,r<w.n) (hl:thr.length<=1000) (I:RI w (gO cl) thr goal b) (hne:b.fr≠[]) :
  ∃b',kE (GR w cl thr goal b)=.nx (GR w cl thr goal b')/\RI w (gO cl) thr goal b'/\bW b'.rk<bW b.rk:=by
 obtain ⟨y,e,_⟩:=EG rm (fun (l:List (Option Nat)) r=>l.set r (some b.k)) (Inv:=fun l r=>l.length=w.n/\∀t∈r,t<w.n) (i:=7) (body:=ez 4 (ae 5) (ae 7))
  (G:=fun l x=>[some ⟨.leaf,w.enc⟩,some ⟨.leaf,lq cl⟩,some ⟨.leaf,ay thr⟩,some ⟨.leaf,ay goal⟩,some ⟨.lst .leaf,bj l⟩,some ⟨.leaf,.int (b.k:Int)⟩,some ⟨.leaf,ay b.fr⟩,x,none])
  (fun _ _=>by simp) (fun _ _ _=>by simp) (fun l r rest ⟨h1,h2⟩=>by
   have hr:=h2 r mem_cons_self
   refine ⟨?_,by rw [length_set];exact h1,fun t ht=>h2 t (mem_cons_of_mem _ ht)⟩
   rw [sJ (ds:=l.map oD) (j:=r) (k:=(r:Int)) rfl (aA rfl) (aA rfl) (v7 (by rw [length_map,h1];exact hr)) rfl]
   simp [List.map_set,oD]) b.fr b.rk b.x8 ⟨I.len,fun t ht=>(I.frn t ht).1⟩
 obtain ⟨I',hm⟩:=RI.step (y:=y) hne0 hthr hl I hne
 refine ⟨⟨cG b.rk b.k b.fr,b.k+1,uK w (gO cl) thr (cG b.rk b.k b.fr),y⟩,?_,I',hm⟩
 have e2:=eX (fi:=aF (ae 6)) (Γ:=GR w cl thr goal b) (bZ (ds:=b.fr.map rm) (aA rfl) rfl) e
 have dn:=vm ok (cl:=cl) (thr:=thr) (rk:=cG b.rk b.k b.fr) hcl hthr (by rw [G6];exact I.len) hl
 unfold kE;rw [pH,e2];have fr:oI ⟨.lst .leaf,ay (uK w (gO cl) thr (cG b.rk b.k b.fr))⟩=true:=by
  unfold oI;simp [bJ]
 have ec:∀Γ:Ev,Γ=[some ⟨.leaf,w.enc⟩,some ⟨.leaf,lq cl⟩,some ⟨.leaf,ay thr⟩,some ⟨.leaf,ay goal⟩,some ⟨.lst .leaf,bj (cG b.rk b.k b.fr)⟩,some ⟨.leaf,.int ((b.k:Int)+1)⟩,some ⟨.leaf,ay b.fr⟩,y,none] ->
   zC 4 b6 (ah (ae 0) (ah (ae 1) (ah (ae 2) (ah (ae 4) ai)))) Γ=.ok ⟨.lst .leaf,ay (uK w (gO cl) thr (cG b.rk b.k b.fr))⟩ Γ:=fun Γ hΓ=>by
  subst hΓ;unfold zC;simp [dn,fr]
 have pu:b.fr.foldl (fun l r=>l.set r (some b.k)) b.rk=cG b.rk b.k b.fr:=rfl
 rw [pu];simp [ec _ rfl]
theorem CT {w:Wd} (ok:w.Ok0) {cl:List Bool} {thr goal:List Nat} (hcl:cl.length=w.n) (hne0:∀r∈thr,w.stp r≠[]) (hthr:∀r∈thr,r<w.n) (hl:thr.length<=1000) (hgoal:∀r∈goal,r<w.n) (hgl:goal.length<=1000) :
  ∃rk,bT [w.enc,lq cl,ay thr,ay goal]=.ok ⟨.lst .leaf,bj rk⟩/\RightG w.n w.stp (gO cl) thr goal rk/\J6 w.stp (gO cl) goal rk:=by
 have lo:=ok.lo
 have h24:=ok.h24
 have i0:RI w (gO cl) thr goal ⟨w.os.map fun _=>none,0,goal,none⟩:=by
  have z:∀r,aI (w.os.map fun _=>none) r=none:=fun r=>by
   unfold aI;rw [getD_eq_getElem?_getD,getElem?_map]
   cases w.os[r]?<;>rfl
  refine ⟨by simp [lo],fun r hr=>⟨hgoal r hr,z r⟩,hgl,fun r j e=>(by rw [z] at e;cases e),fun _=>rfl,fun h=>absurd h (by simp),fun r j _ _ e=>(by rw [z] at e;cases e),fun h=>absurd h (by simp),fun r ht _ hl=>?_,fun r j _ e=>(by rw [z] at e;cases e)⟩
  have hl:led (gO cl r) (w.stp r) fun t=>∃i,aI (w.os.map fun _=>none) t=some i/\i+1<0:=hl
  cases hc:gO cl r with
  | true=>
   rw [hc] at hl;obtain ⟨t,_,i,_,z⟩:=led_t.mp hl;omega
  | false=>
   rw [hc] at hl;obtain ⟨t,ht'⟩:=exists_mem_of_ne_nil _ (hne0 r ht);obtain ⟨i,_,z⟩:=led_f.mp hl t ht'
   omega
 obtain ⟨b',e,I,hf⟩:=Ct (c:=aQ bF (ae 6)) (g:=kE) (G:=GR w cl thr goal) (test:=fun b=>!b.fr.isEmpty) (Inv:=RI w (gO cl) thr goal) (meas:=fun b=>bW b.rk) (fun b I=>by simp) (fun b I hb=>wR ok hcl hne0 hthr hl I (by intro z;rw [z] at hb;simp at hb)) 1000 _ i0 (by
  have:bW (w.os.map fun _=>none)<=w.os.length:=by unfold bW;exact Nat.le_trans (length_filter_le _ _) (by simp)
  show bW (w.os.map fun _=>none)<1000
  omega)
 refine ⟨b'.rk,?_,I.right hne0 (by simpa using hf),I.m2⟩
 refine aT ?_
 have co:∀Γ:Ev,Γ.length=9->Γ[0]?=some (some ⟨.leaf,w.enc⟩)->av .leaf 8 (aF (ak (ae 0) (eK (.int 0)))) aG (eK .none) Γ=.ok ⟨.lst .leaf,.list (w.os.map fun _=>.none)⟩ Γ:=fun Γ h1 h2=>by
  have:=ie (fun d:D=>d) w.os (fun _=>⟨.leaf,.none⟩) (s:=.leaf) (i:=8) (fi:=aF (ak (ae 0) (eK (.int 0)))) (fe:=eK .none) (st:=true) (Γ:=Γ) (by simp [h2,Wd.enc]) (by omega) rfl (by omega) (fun x hx=>by simp)
  simpa using this
 have e:sF (aQ bF (ae 6)) kE 1000 [some ⟨.leaf,w.enc⟩,some ⟨.leaf,lq cl⟩,some ⟨.leaf,ay thr⟩,some ⟨.leaf,ay goal⟩,some ⟨.lst .leaf,.list (w.os.map fun _=>.none)⟩,some ⟨.leaf,.int 0⟩,some ⟨.leaf,ay goal⟩,none,none]=.nx (GR w cl thr goal b'):=by
  have q:bj (w.os.map fun _=>none)=.list (w.os.map fun _=>.none):=by
   unfold bj;rw [map_map];rfl
  rw [<-q];exact e
 unfold iZ;rw [pH,Dk,co _ rfl rfl];simp [aN]
 unfold nU;rw [e];simp
theorem Gf {c:Str} {r:List Str} (hc:PyData.strOk c=true) (h:∀x∈r,PyData.strOk x=true):bG false (.str c) (bX r)=some (.bool (r.contains c)):=by
 have hs:jB (r.map PyData.str):=fun a ha=>by
  obtain ⟨x,hx,rfl⟩:=List.mem_map.mp ha;exact ⟨x,rfl,h x hx⟩
 rw [bX,BI hc hs];congr 2
 unfold has;simp only [List.any_map]
 rw [Bool.eq_iff_iff,any_eq_true,contains_iff_mem];constructor
 ·rintro ⟨x,hx,e⟩
  have:PyData.eqv (.str x) (.str c)=true:=e
  have:x=c:=by simpa [PyData.eqv] using this
  rw [<-this];exact hx
 ·intro hx
  exact ⟨c,hx,by show PyData.eqv (.str c) (.str c)=true;simp [PyData.eqv]⟩
theorem C1 {Γ Γ1:Ev} {fl:FL} {ps:List PV} {k:Int} (hl:fl Γ=.ok ps Γ1) (hp:ps.map (·.d)=[.int k]) (h0:0<=k) (h1:k<=1000):sq fl Γ=.ok ⟨.lst .leaf,.list (cj 0 k.toNat)⟩ Γ1:=by
 have h3:dq k=true:=BG (by omega) (by omega)
 have hb:=CO
 have h4:k<=(sizeLine:Int):=by omega
 unfold sq;rw [hl];simp only [Out.bind,hp,jn,h3,if_true,h4]
theorem Ec {w:Wd} (ok:w.Ok) {Γ:Ev} (h0:Γ[0]?=some (some ⟨.leaf,w.enc⟩)):sq (ah (bM bL (ah (ak (ae 0) (eK (.int 0))) ai)) ai) Γ=.ok ⟨.lst .leaf,ay (List.range w.n)⟩ Γ:=by
 have lo:=ok.g.lo
 have h24:=ok.h24
 rw [C1 (Γ1:=Γ) (ps:=[⟨.leaf,.int w.n⟩]) (k:=(w.n:Int)) (by simp [h0,Wd.enc,lo]) rfl (by omega) (by omega),Int.toNat_natCast,Ez]
theorem Wd.Ok.check {w:Wd} (ok:w.Ok):aJ [w.enc]=.ok ⟨.leaf,.none⟩:=rN (ok.g.wk (b:=24) ok.h24) (by omega) (ok.g.isW ok.h1 ok.h24)
end KC
namespace T
open PySem PySem.Spec L2
open PyProof.Rows hiding St
theorem EO {α:Type} (en:α->D) {i:Nat} {body:FS} {Inv:List α->Ev->Prop} (hb:∀a r Γ,Inv (a::r) Γ->i<Γ.length/\∃Γ',body (Γ.set i (some ⟨.leaf,en a⟩))=.nx Γ'/\Inv r Γ'):∀(xs:List α) (Γ:Ev),Inv xs Γ->∃Γ',b9 i body (xs.map en) Γ=.nx Γ'/\Inv [] Γ'
 | [],Γ,h=>⟨Γ,rfl,h⟩
 | a::r,Γ,h=>by
  obtain ⟨hi,Γ1,h1,h2⟩:=hb a r Γ h;obtain ⟨Γ2,e,h3⟩:=EO en hb r Γ1 h2;refine ⟨Γ2,?_,h3⟩
  rw [map_cons,b9,if_pos hi,h1];exact e
theorem zT {Γ:Ev} {i j:Nat} {fb:F1} {s:Sh} {k:Int} {ds:List D} {d:D} (ho:Γ[i]?=some (some ⟨.lst .leaf,.list ds⟩)) (hb:fb Γ=.ok ⟨s,.int k⟩ Γ) (hi:d9 ds.length k=some j) (hd:ds[j]?=some d):cA i fb Γ=.ok ⟨.leaf,d⟩ Γ:=by
 unfold cA sA;rw [ho];simp only [if_true,hb,yJ]
 unfold xR;rw [ho];simp only [hi,hd]
theorem ph {Γ Γ1 Γ2:Ev} {fa fb:F1} {s s':Sh} {xs ys:List D} (ha:fa Γ=.ok ⟨s,.list xs⟩ Γ1) (hb:fb Γ1=.ok ⟨s',.list ys⟩ Γ2) (h1:dD ⟨s,.list xs⟩ xs=true) (h2:dD ⟨s',.list ys⟩ ys=true) (hn:xs.length+ys.length<=10000):gx fa fb Γ=.ok ⟨.lst .leaf,.list (xs++ys)⟩ Γ2:=by
 have hb':(10000:Nat)<=sizeLine:=by decide
 have:xs.length+ys.length<=sizeLine:=Nat.le_trans hn hb'
 unfold gx aW;rw [ha];simp only [yJ]
 rw [hb];simp only [yJ,h1,h2,decide_eq_true this,Bool.and_self,if_true]
end T
namespace KC
open PySem PySem.Spec L2 T PySem.SeqAt
open PyProof.Rows hiding St
theorem C2 {n:Nat} {os ms ss:List D} (g:Gw (n:Int) n os ms ss) (h1:1<=n) (h24:n<=24):∃w:Wd,w.Ok/\w.enc=bO os ms ss/\w.n=n:=by
 have hm:∀l:List D,(∀r∈l,∃xs,r=.list xs/\jB xs)->∃M:List (List Str),l=M.map bX/\∀r∈M,∀c∈r,PyData.strOk c=true:=by
  have one:∀xs:List D,jB xs->∃r:List Str,xs=r.map .str/\∀c∈r,PyData.strOk c=true:=by
   intro xs;induction xs with
   | nil=>intro _;exact ⟨[],rfl,by simp⟩
   | cons a r ih=>
    intro h;obtain ⟨x,rfl,hx⟩:=h a mem_cons_self;obtain ⟨t,rfl,ht⟩:=ih fun b hb=>h b (mem_cons_of_mem _ hb)
    exact ⟨x::t,rfl,fun c hc=>(List.mem_cons.mp hc).elim (fun e=>by rw [e];exact hx) (ht c)⟩
  intro l;induction l with
  | nil=>intro _;exact ⟨[],rfl,by simp⟩
  | cons a r ih=>
   intro h;obtain ⟨xs,rfl,hx⟩:=h a mem_cons_self;obtain ⟨x,rfl,hx2⟩:=one xs hx;obtain ⟨M,rfl,hM⟩:=ih fun b hb=>h b (mem_cons_of_mem _ hb)
   exact ⟨x::M,rfl,fun c hc=>(List.mem_cons.mp hc).elim (fun e=>by rw [e];exact hx2) (hM c)⟩
 have hs:∀l:List D,(∀r∈l,∃ts:List Int,r=.list (ts.map .int)/\ts.length<=30/\ts≠[]/\(∀t∈ts,0<=t/\t<(n:Int))/\ts.Pairwise (· < ·))->∃S:List (List Nat),l=S.map ay/\∀r∈S,r≠[]/\r.length<=30/\∀t∈r,t<n:=by
  have one:∀ts:List Int,(∀t∈ts,0<=t/\t<(n:Int))->∃r:List Nat,ts.map PyData.int=r.map rm/\r.length=ts.length/\∀t∈r,t<n:=by
   intro ts;induction ts with
   | nil=>intro _;exact ⟨[],rfl,rfl,by simp⟩
   | cons a r ih=>
    intro h;have ha:=h a mem_cons_self
    obtain ⟨t,e,el,ht⟩:=ih fun b hb=>h b (mem_cons_of_mem _ hb)
    refine ⟨a.toNat::t,?_,by simp [el],fun c hc=>(List.mem_cons.mp hc).elim (fun e=>by omega) (ht c)⟩
    rw [map_cons,map_cons,e];congr 2
    omega
  intro l;induction l with
  | nil=>intro _;exact ⟨[],rfl,by simp⟩
  | cons a r ih=>
   intro h;obtain ⟨ts,rfl,t1,t2,t3,_⟩:=h a mem_cons_self;obtain ⟨x,e,el,hx⟩:=one ts t3;obtain ⟨S,rfl,hS⟩:=ih fun b hb=>h b (mem_cons_of_mem _ hb)
   refine ⟨x::S,by rw [map_cons,e],fun c hc=>(List.mem_cons.mp hc).elim (fun e=>by
    subst e;exact ⟨fun z=>t2 (List.length_eq_zero_iff.mp (by rw [<-el,z];rfl)),by omega,hx⟩) (hS c)⟩
 obtain ⟨M,eM,hM⟩:=hm ms fun r hr=>let ⟨xs,a,b,_⟩:=g.m r hr;⟨xs,a,b⟩
 obtain ⟨S,eS,hS⟩:=hs ss g.s;subst eM eS;refine ⟨⟨n,os,M,S⟩,⟨g,h1,h24,?_,?_,hS,hM⟩,rfl,rfl⟩
 ·have:=g.lm;simpa using this
 ·have:=g.ls;simpa using this
noncomputable def knd:List Wr:=[.mark,.mark,.not,.and,.su,.au,.sn,.an,.sa,.aa,.or,.yes]
@[simp] theorem IK (a:Wr):bG false (.str a.t) (.tuple [.str "and",.str "or",.str "some until",.str "all until"])=some (.bool (decide (a=.and\/a=.or\/a=.su\/a=.au))):=by cases a<;>kernel_rfl
theorem vD {k:Int} (h0:0<=k) (h1:k<3):∃c:Nat,eh (Str.ofString "abc").cps.toList k=some c/\(⟨#[c]⟩:Str)∈bz:=by
 rw [yz];have:k=0\/k=1\/k=2:=by omega
 rcases this with rfl | rfl | rfl
 ·exact ⟨97,rfl,by decide +kernel⟩
 ·exact ⟨98,rfl,by decide +kernel⟩
 ·exact ⟨99,rfl,by decide +kernel⟩
structure Mad (made:List Sn):Prop where
 ne:0<made.length
 ok:∀s∈made,s.ok
 dp:∀s∈made,s.dep<=made.length
theorem tP {n:Nat}:cj 1 n=(List.range n).map fun k:Nat=>PyData.int (1+(k:Int)):=rfl
theorem iP (l:List Int):ql (l.map .int)=some l:=by
 induction l with
 | nil=>rfl
 | cons a r ih=>rw [map_cons,ql,ih];rfl
end KC
namespace KQ
open PySem PySem.Spec L2 T PySem.SeqAt KC
open PyProof.Rows hiding St
noncomputable def d__law_world:FS:=(aw (aD false 3 (aE bf (eK (.int 1)) (aE gc (aj 2 aH (ah (ae 0) (ah (ae 1) ai))) (ae 2))))
  (aw (aD true 4 (aU .leaf ai))
  (aw (aD true 5 (aU .leaf ai))
  (aw (aD true 6 (aU .leaf ai))
  (aw (dz 7 (gk (ah (ae 3) ai))
  (aw (aD false 8 (aj 2 aH (ah (ae 0) (ah (aE bf (aE bf (ae 1) (eK (.int 1))) (ae 7)) ai))))
  (aw (eV 4 (aj 3 aB (ah (ae 8) (ah (eK (.int 0)) (ah (eK (.int 2)) ai)))))
  (aw (eV 5 (av .leaf 11 (fj "abc") (aQ ax (aE cV (aj 3 aB (ah (ae 8) (ah (aE bf (eK (.int 1)) (bM (fm "abc") (ah (ae 11) ai))) (ah (eK (.int 2)) ai)))) (eK (.int 1)))) (ae 11)))
  (aw (aD false 9 (av .leaf 10 (gk (ah (ae 3) ai)) (aQ ax (aE cV (aj 3 aB (ah (ae 8) (ah (aE bf (eK (.int 4)) (ae 10)) (ah (aE bf (eK (.int 2)) (bM oG (ah (aE mT (ae 3) (eK (.int 3))) ai))) ai)))) (eK (.int 1)))) (ae 10)))
  (aw (cF (aQ ax (aE cV (ae 9) (aU .leaf ai))) (aD false 9 (aU .leaf (ah (aj 3 aB (ah (ae 8) (ah (aE bf (eK (.int 4)) (ae 3)) (ah (ae 3) ai)))) ai))) aS)
  (eV 6 (ae 9))))))))
  (aP (cQ (ah (cz 4) (ah (cz 5) (ah (cz 6) ai))))))))))
noncomputable def m__law_world:List PySem.PyData->bN:=aL 12 d__law_world
noncomputable abbrev eW:FS:=(aw (aD false 8 (aj 2 aH (ah (ae 0) (ah (aE bf (aE bf (ae 1) (eK (.int 1))) (ae 7)) ai))))
  (aw (eV 4 (aj 3 aB (ah (ae 8) (ah (eK (.int 0)) (ah (eK (.int 2)) ai)))))
  (aw (eV 5 (av .leaf 11 (fj "abc") (aQ ax (aE cV (aj 3 aB (ah (ae 8) (ah (aE bf (eK (.int 1)) (bM (fm "abc") (ah (ae 11) ai))) (ah (eK (.int 2)) ai)))) (eK (.int 1)))) (ae 11)))
  (aw (aD false 9 (av .leaf 10 (gk (ah (ae 3) ai)) (aQ ax (aE cV (aj 3 aB (ah (ae 8) (ah (aE bf (eK (.int 4)) (ae 10)) (ah (aE bf (eK (.int 2)) (bM oG (ah (aE mT (ae 3) (eK (.int 3))) ai))) ai)))) (eK (.int 1)))) (ae 10)))
  (aw (cF (aQ ax (aE cV (ae 9) (aU .leaf ai))) (aD false 9 (aU .leaf (ah (aj 3 aB (ah (ae 8) (ah (aE bf (eK (.int 4)) (ae 3)) (ah (ae 3) ai)))) ai))) aS)
  (eV 6 (ae 9)))))))
noncomputable def vV (k:Nat):D:=.str ⟨#[97+k]⟩
theorem vC {Γ:Ev}:fj "abc" Γ=.ok ⟨[0,1,2].map vV,true⟩ Γ:=by
 have:DZ "abc"=[0,1,2].map vV:=by kernel_rfl
 unfold fj;rw [this]
theorem uR {k:Nat} (h:k∈[0,1,2]):k<3:=by
 simp at h
 omega
theorem BC {k:Nat} (h:k∈[0,1,2]):fm "abc" [vV k]=some (.int (k:Int)):=by
 simp at h
 rcases h with rfl | rfl | rfl<;>kernel_rfl
theorem oX {xs os ms ss:List D} {at' lim many:Int} {n:Nat} {x8 x9:Option PV} (hx:hZ xs) (ha:0<=at') (hm:1<=many) (hm2:many<=24) (h:Gw many n os ms ss) (hn:n<=30) {r:Nat} :
  ∃os' ms' ss' x8' x9',eW [some ⟨.leaf,.list xs⟩,some ⟨.leaf,.int at'⟩,some ⟨.leaf,.int lim⟩,some ⟨.leaf,.int many⟩,some ⟨.lst .leaf,.list os⟩,some ⟨.lst .leaf,.list ms⟩,some ⟨.lst .leaf,.list ss⟩,some ⟨.leaf,.int (r:Nat)⟩,x8,x9,none,none]
   = .nx [some ⟨.leaf,.list xs⟩,some ⟨.leaf,.int at'⟩,some ⟨.leaf,.int lim⟩,some ⟨.leaf,.int many⟩,some ⟨.lst .leaf,.list os'⟩,some ⟨.lst .leaf,.list ms'⟩,some ⟨.lst .leaf,.list ss'⟩,some ⟨.leaf,.int (r:Nat)⟩,x8',x9',none,none]/\Gw many (n+1) os' ms' ss':=by
 obtain ⟨c,hc⟩:=EF hx (k:=at'+1+(r:Int)) (by omega)
 have lo:=h.lo
 have lm:=h.lm
 have ls:=h.ls
 have c5:∀(Γ:Ev),Γ.length=12->Γ[8]?=some (some ⟨.leaf,.int c⟩)->(av .leaf 11 (fj "abc") (aQ ax (aE cV (aj 3 aB (ah (ae 8) (ah (aE bf (eK (.int 1)) (bM (fm "abc") (ah (ae 11) ai))) (ah (eK (.int 2)) ai)))) (eK (.int 1)))) (ae 11)) Γ
   = .ok ⟨.lst .leaf,.list (([0,1,2].filter fun k:Nat=>fH c (1+(k:Int)) 2==1).map vV)⟩ Γ:=fun Γ hl h8=>by
  refine nR vV [0,1,2] (fun k:Nat=>fH c (1+(k:Int)) 2==1) (fun k=>⟨.leaf,vV k⟩) (st:=true) vC (by omega) rfl (by simp) (fun k hk=>?_) fun k hk _=>?_
  ·have g11:(Γ.set 11 (some ⟨.leaf,vV k⟩))[11]?=some (some ⟨.leaf,vV k⟩):=by rw [getElem?_set_self (by omega)]
   have g8:(Γ.set 11 (some ⟨.leaf,vV k⟩))[8]?=some (some ⟨.leaf,.int c⟩):=by rw [getElem?_set_ne (by omega)];exact h8
   exact gR (aY (bH (aC (aA g8) (aC (aY bt (dg (aC (aA g11) aq) (BC hk)) sD) (aC bt aq))) (zJ (by omega) (by have:=uR hk;omega) (by omega) (by omega)) rfl rfl) bt eq_int)
  ·exact ⟨aA (by rw [getElem?_set_self (by omega)]),rfl⟩
 generalize hM:(([0,1,2].filter fun k:Nat=>fH c (1+(k:Int)) 2==1).map vV)=M at c5
 have rM:jB M/\M.length<=30/\CC (.list M)=true:=by
  refine ⟨?_,?_,?_⟩
  ·rw [<-hM]
   intro a ha;obtain ⟨k,hk,rfl⟩:=List.mem_map.mp ha;have:=uR (List.mem_filter.mp hk).1
   exact ⟨_,rfl,uG (by omega)⟩
  ·rw [<-hM,length_map]
   exact Nat.le_trans (length_filter_le _ _) (by simp)
  ·rw [<-hM]
   simp only [filter_cons,List.filter_nil]
   have:=IG (fH c (1+((0:Nat):Int)) 2==1) (fH c (1+((1:Nat):Int)) 2==1) (fH c (1+((2:Nat):Int)) 2==1)
   revert this
   cases (fH c (1+((0:Nat):Int)) 2==1)<;>cases (fH c (1+((1:Nat):Int)) 2==1)<;>cases (fH c (1+((2:Nat):Int)) 2==1)<;>exact fun h=>h
 have c6:∀(Γ:Ev),Γ.length=12->Γ[8]?=some (some ⟨.leaf,.int c⟩)->Γ[3]?=some (some ⟨.leaf,.int many⟩)->av .leaf 10 (gk (ah (ae 3) ai)) (aQ ax (aE cV (aj 3 aB (ah (ae 8) (ah (aE bf (eK (.int 4)) (ae 10)) (ah (aE bf (eK (.int 2)) (bM oG (ah (aE mT (ae 3) (eK (.int 3))) ai))) ai)))) (eK (.int 1)))) (ae 10) Γ
   = .ok ⟨.lst .leaf,.list (((cj 0 many.toNat).filter fun d=>match d with | .int k=>fH c (4+k) (2+(if decide (3<many) then 1 else 0))==1 | _=>false).map fun d=>d)⟩ Γ:=fun Γ hl h8 h3=>by
  refine iT (c:=fun d=>match d with | .int k=>fH c (4+k) (2+(if decide (3<many) then 1 else 0))==1 | _=>false) (f:=fun d=>⟨.leaf,d⟩) (st:=true) (sN (k:=many) (aC (aA h3) aq) rfl (by omega) (by omega)) (by omega) rfl (by rw [Ey];omega) (fun d hd=>?_) fun d hd _=>?_
  ·obtain ⟨k,hk,rfl⟩:=CM hd
   have g10:(Γ.set 10 (some ⟨.leaf,.int (0+(k:Int))⟩))[10]?=some (some ⟨.leaf,.int (0+(k:Int))⟩):=by rw [getElem?_set_self (by omega)]
   have g8:(Γ.set 10 (some ⟨.leaf,.int (0+(k:Int))⟩))[8]?=some (some ⟨.leaf,.int c⟩):=by rw [getElem?_set_ne (by omega)];exact h8
   have g3:(Γ.set 10 (some ⟨.leaf,.int (0+(k:Int))⟩))[3]?=some (some ⟨.leaf,.int many⟩):=by rw [getElem?_set_ne (by omega)];exact h3
   have b1:(1:Int)<=2+(if decide (3<many) then 1 else 0)/\(2:Int)+(if decide (3<many) then 1 else 0)<=1000:=by split<;>omega
   exact gR (aY (bH (aC (aA g8) (aC (aY bt (aA g10) sD) (aC (aY bt (dg (aC (aY (aA g3) bt rfl) aq) rfl) sD) aq))) (zJ (by omega) (by omega) b1.1 b1.2) rfl rfl) bt eq_int)
  ·obtain ⟨k,hk,rfl⟩:=CM hd
   exact ⟨aA (by rw [getElem?_set_self (by omega)]),rfl⟩
 obtain ⟨ts,hT,hts1,hts2,hts3⟩:=An many.toNat (fun d=>match d with | .int k=>fH c (4+k) (2+(if decide (3<many) then 1 else 0))==1 | _=>false)
 rw [hT] at c6;have fin:∀(Γ:Ev) (T:List Int),(T.length<=30/\T≠[]/\(∀t∈T,0<=t/\t<many)/\T.Pairwise (· < ·))->Γ=[some ⟨.leaf,.list xs⟩,some ⟨.leaf,.int at'⟩,some ⟨.leaf,.int lim⟩,some ⟨.leaf,.int many⟩,some ⟨.lst .leaf,.list (os++[.int (fH c 0 2)])⟩,some ⟨.lst .leaf,.list (ms++[.list M])⟩,some ⟨.lst .leaf,.list ss⟩,some ⟨.leaf,.int (r:Nat)⟩,some ⟨.leaf,.int c⟩,some ⟨.leaf,.list (T.map .int)⟩,none,none] ->
   ∃os' ms' ss' x8' x9',eV 6 (ae 9) Γ=.nx [some ⟨.leaf,.list xs⟩,some ⟨.leaf,.int at'⟩,some ⟨.leaf,.int lim⟩,some ⟨.leaf,.int many⟩,some ⟨.lst .leaf,.list os'⟩,some ⟨.lst .leaf,.list ms'⟩,some ⟨.lst .leaf,.list ss'⟩,some ⟨.leaf,.int (r:Nat)⟩,x8',x9',none,none]/\Gw many (n+1) os' ms' ss':=fun Γ T hT2 hΓ=>by
  subst hΓ;refine ⟨os++[.int (fH c 0 2)],ms++[.list M],ss++[.list (T.map .int)],_,_,EM rfl (aA rfl) rfl (by omega),by simp;omega,by simp;omega,by simp;omega,fun a ha=>?_,fun a ha=>?_,fun a ha=>?_⟩
  ·rcases List.mem_append.mp ha with z | z
   ·exact h.o a z
   ·have:=Ei (c:=c) (k:=0) (b:=2) (by omega) (by omega) (by omega) (by omega)
    rw [List.mem_singleton.mp z];rcases (by omega:fH c 0 2=0\/fH c 0 2=1) with e | e
    ·exact .inl (by rw [e])
    ·exact .inr (by rw [e])
  ·rcases List.mem_append.mp ha with z | z
   ·exact h.m a z
   ·exact ⟨M,List.mem_singleton.mp z,rM.1,rM.2.1,by rw [List.mem_singleton.mp z];exact rM.2.2⟩
  ·rcases List.mem_append.mp ha with z | z
   ·exact h.s a z
   ·exact ⟨T,List.mem_singleton.mp z,hT2⟩
 have e1:=cD (i:=8) (bH (fl:=ah (ae 0) (ah (aE bf (aE bf (ae 1) (eK (.int 1))) (ae 7)) ai)) (Γ:=[some ⟨.leaf,.list xs⟩,some ⟨.leaf,.int at'⟩,some ⟨.leaf,.int lim⟩,some ⟨.leaf,.int many⟩,some ⟨.lst .leaf,.list os⟩,some ⟨.lst .leaf,.list ms⟩,some ⟨.lst .leaf,.list ss⟩,some ⟨.leaf,.int (r:Nat)⟩,x8,x9,none,none]) (aC (aA rfl) (aC (aY (aY (aA rfl) bt sD) (aA rfl) sD) aq)) hc rfl rfl) rfl (by simp)
 have e2:eV 4 (aj 3 aB (ah (ae 8) (ah (eK (.int 0)) (ah (eK (.int 2)) ai)))) [some ⟨.leaf,.list xs⟩,some ⟨.leaf,.int at'⟩,some ⟨.leaf,.int lim⟩,some ⟨.leaf,.int many⟩,some ⟨.lst .leaf,.list os⟩,some ⟨.lst .leaf,.list ms⟩,some ⟨.lst .leaf,.list ss⟩,some ⟨.leaf,.int (r:Nat)⟩,some ⟨.leaf,.int c⟩,x9,none,none]=_:=
  EM rfl (bH (aC (aA rfl) (aC bt (aC bt aq))) (zJ (by omega) (by omega) (by omega) (by omega)) rfl rfl) rfl (by omega)
 have e3:=EM (i:=5) (Γ:=[some ⟨.leaf,.list xs⟩,some ⟨.leaf,.int at'⟩,some ⟨.leaf,.int lim⟩,some ⟨.leaf,.int many⟩,some ⟨.lst .leaf,.list (os++[.int (fH c 0 2)])⟩,some ⟨.lst .leaf,.list ms⟩,some ⟨.lst .leaf,.list ss⟩,some ⟨.leaf,.int (r:Nat)⟩,some ⟨.leaf,.int c⟩,x9,none,none]) rfl (c5 _ rfl rfl) rfl (by omega)
 have e4:=cD (i:=9) (Γ:=[some ⟨.leaf,.list xs⟩,some ⟨.leaf,.int at'⟩,some ⟨.leaf,.int lim⟩,some ⟨.leaf,.int many⟩,some ⟨.lst .leaf,.list (os++[.int (fH c 0 2)])⟩,some ⟨.lst .leaf,.list (ms++[.list M])⟩,some ⟨.lst .leaf,.list ss⟩,some ⟨.leaf,.int (r:Nat)⟩,some ⟨.leaf,.int c⟩,x9,none,none]) (c6 _ rfl rfl rfl) rfl (by simp)
 have t:aQ ax (aE cV (ae 9) (aU .leaf ai)) [some ⟨.leaf,.list xs⟩,some ⟨.leaf,.int at'⟩,some ⟨.leaf,.int lim⟩,some ⟨.leaf,.int many⟩,some ⟨.lst .leaf,.list (os++[.int (fH c 0 2)])⟩,some ⟨.lst .leaf,.list (ms++[.list M])⟩,some ⟨.lst .leaf,.list ss⟩,some ⟨.leaf,.int (r:Nat)⟩,some ⟨.leaf,.int c⟩,some ⟨.leaf,.list (ts.map .int)⟩,none,none]
   = .ok (decide ((ts.map PyData.int).length=0)) _:=gR (aY (aA rfl) (lE (s:=.leaf) aq rfl rfl rfl) (BY (EA Cu)))
 cases hz:decide ((ts.map PyData.int).length=0) with
 | true=>
  rw [hz] at t;obtain ⟨o',m',s',y8,y9,f1,f2⟩:=fin _ [fH c (4+many) many] ⟨by simp,by simp,fun t ht=>by rw [List.mem_singleton.mp ht];exact Ei (by omega) (by omega) (by omega) (by omega),List.pairwise_singleton _ _⟩ rfl
  exact ⟨o',m',s',y8,y9,az e1 (az e2 (az e3 (az e4 (az (cb t (fun _=>cD (lE (s:=.leaf) (aC (bH (aC (aA rfl) (aC (aY bt (aA rfl) sD) (aC (aA rfl) aq))) (zJ (by omega) (by omega) (by omega) (by omega)) rfl rfl) aq) rfl rfl rfl) rfl (by simp)) nofun) f1)))),f2⟩
 | false=>
  rw [hz] at t;obtain ⟨o',m',s',y8,y9,f1,f2⟩:=fin _ ts ⟨by omega,(fun z=>by rw [z] at hz;cases hz),(fun t ht=>by have:=hts1 t ht;omega),hts2⟩ rfl
  exact ⟨o',m',s',y8,y9,az e1 (az e2 (az e3 (az e4 (az (cb t nofun (fun _=>rfl)) f1)))),f2⟩
theorem rH {xs:List D} {at' lim:Int} (hx:hZ xs) (ha:0<=at') (hl:1<=lim) (hl2:lim<=24):∃(n:Nat) (os ms ss:List D),m__law_world [.list xs,.int at',.int lim]=.ok ⟨W3,bO os ms ss⟩/\Gw (n:Int) n os ms ss/\1<=n/\(n:Int)<=lim:=by
 obtain ⟨c,hc⟩:=EF hx (k:=at') ha
 have b0:0<=c % lim:=Int.emod_nonneg _ (by omega)
 have b1:c % lim<lim:=Int.emod_lt_of_pos _ (by omega)
 generalize hmm:1+c % lim=many at *
 have e0:aD false 3 (aE bf (eK (.int 1)) (aE gc (aj 2 aH (ah (ae 0) (ah (ae 1) ai))) (ae 2))) [some ⟨.leaf,.list xs⟩,some ⟨.leaf,.int at'⟩,some ⟨.leaf,.int lim⟩,none,none,none,none,none,none,none,none,none]
   = .nx [some ⟨.leaf,.list xs⟩,some ⟨.leaf,.int at'⟩,some ⟨.leaf,.int lim⟩,some ⟨.leaf,.int many⟩,none,none,none,none,none,none,none,none]:=by
  rw [<-hmm];exact cD (aY bt (aY (bH (aC (aA rfl) (aC (aA rfl) aq)) hc rfl rfl) (aA rfl) (iI (by omega))) sD) rfl (by simp)
 obtain ⟨Γ',e,os,ms,ss,x7,x8,x9,hΓ,hw⟩:=GW (P:=fun n Γ=>∃os ms ss x7 x8 x9,Γ=[some ⟨.leaf,.list xs⟩,some ⟨.leaf,.int at'⟩,some ⟨.leaf,.int lim⟩,some ⟨.leaf,.int many⟩,some ⟨.lst .leaf,.list os⟩,some ⟨.lst .leaf,.list ms⟩,some ⟨.lst .leaf,.list ss⟩,x7,x8,x9,none,none]/\Gw many n os ms ss) (i:=7) (body:=eW) (cj 0 many.toNat) 0
  [some ⟨.leaf,.list xs⟩,some ⟨.leaf,.int at'⟩,some ⟨.leaf,.int lim⟩,some ⟨.leaf,.int many⟩,some ⟨.lst .leaf,.list []⟩,some ⟨.lst .leaf,.list []⟩,some ⟨.lst .leaf,.list []⟩,none,none,none,none,none] ⟨[],[],[],none,none,none,rfl,rfl,rfl,rfl,fun a ha=>(nomatch ha),fun a ha=>(nomatch ha),fun a ha=>(nomatch ha)⟩ (fun m d Γ hd h1 h2 ⟨os,ms,ss,x7,x8,x9,hΓ,hw⟩=>by
   subst hΓ;obtain ⟨k,hk,rfl⟩:=CM hd;rw [Ey] at h2;rw [Int.zero_add];obtain ⟨os',ms',ss',y8,y9,f1,f2⟩:=oX (at':=at') (lim:=lim) (many:=many) (x8:=x8) (x9:=x9) hx ha (by omega) (by omega) hw (by omega) (r:=k)
   exact ⟨by simp,_,f1,os',ms',ss',_,y8,y9,rfl,f2⟩)
 subst hΓ;rw [Ey,Nat.zero_add] at hw;have en:((many.toNat:Nat):Int)=many:=by omega
 refine ⟨many.toNat,os,ms,ss,aT (az e0 (az (yL (lE (s:=.leaf) aq rfl rfl rfl) rfl (by simp)) (az (yL (lE (s:=.leaf) aq rfl rfl rfl) rfl (by simp)) (az (yL (lE (s:=.leaf) aq rfl rfl rfl) rfl (by simp)) (az (eX (sN (k:=many) (aC (aA rfl) aq) rfl (by omega) (by omega)) e) (ba (et (aC (zG (p:=⟨.lst .leaf,.list os⟩) rfl) (aC (zG (p:=⟨.lst .leaf,.list ms⟩) rfl) (aC (zG (p:=⟨.lst .leaf,.list ss⟩) rfl) aq))) rfl rfl) rfl)))))),by rw [en];exact hw,by omega,by omega⟩
end KQ
namespace KC
open PySem PySem.Spec L2 T
open PyProof.Rows hiding St
noncomputable def dW:FS:=(aP (eF (aE (bx true) (ae 0) (eK .none)) (eF (aE (bx true) (ae 1) (eK .none)) (aE ia (ae 0) (ae 1)))))
noncomputable def dk:List PySem.PyData->bN:=aL 2 dW
noncomputable def fA:FS:=(aP (av .leaf 3 (aF (ak (ak (ae 0) (eK (.int 2))) (ae 2))) (aQ bF (aj 2 dk (ah (ak (ae 1) (ae 3)) (ah (ak (ae 1) (ae 2)) ai)))) (ae 3)))
noncomputable def bI:List PySem.PyData->bN:=aL 4 fA
noncomputable def oQ:FS:=(aP (aj 4 bT (ah (ae 0) (ah (av .leaf 3 (aF (ak (ae 0) (eK (.int 0)))) aG (eK (.bool true))) (ah (ae 1) (ah (ae 2) ai))))))
noncomputable def di:List PySem.PyData->bN:=aL 4 oQ
noncomputable def eN:FS:=(cF (aQ ax (aE (bG true) (ae 0) (eK bU))) tM aS)
noncomputable def cy:List PySem.PyData->bN:=aL 1 eN
noncomputable def gh:FS:=(cF (aQ ax (aE (bG true) (ae 0) (eK bV))) tM aS)
noncomputable def dQ:List PySem.PyData->bN:=aL 1 gh
noncomputable def fC:FS:=(cF (dr (aQ bF (aj 2 cO (ah (ae 1) (ah (bM bL (ah (ak (ae 0) (eK (.int 0))) ai)) ai))))) tM aS)
noncomputable def b7:List PySem.PyData->bN:=aL 2 fC
noncomputable def vq:FS:=(aw (bw (aj 1 aJ (ah (ae 0) ai)))
  (aw (bw (aj 1 dQ (ah (ae 1) ai)))
  (aP (ic .leaf 2 3 (ak (ae 0) (eK (.int 1))) (aQ ax (aE (bG false) (ae 1) (ae 3))) (ae 2)))))
noncomputable def dj:List PySem.PyData->bN:=aL 4 vq
noncomputable def eL:FS:=(aP (aE gSub (eK (.int 1)) (ae 0)))
noncomputable def cu:List PySem.PyData->bN:=aL 1 eL
noncomputable def kY:FS:=(aw (cF (aQ ax (aE iR (bM bL (ah (ae 2) ai)) (bM bL (ah (ak (ae 0) (eK (.int 0))) ai)))) (aP (eK (.bool false))) aS)
  (aw (aD false 3 (ic .leaf 4 5 (ae 2) (aQ ax (aE (bx true) (ae 5) (eK .none))) (ae 4)))
  (aP (bM (b8 false) (ah (av .leaf 4 (aF (ae 3)) aG (eF (aE cV (ak (ak (ae 0) (eK (.int 0))) (ae 4)) (ae 1)) (aE (bG false) (ak (ae 2) (ae 4)) (ak (ak (ae 0) (eK (.int 2))) (ae 4))))) ai)))))
noncomputable def dO:List PySem.PyData->bN:=aL 6 kY
noncomputable def gg:FS:=(cF (dr (aQ bF (aj 3 dO (ah (ae 0) (ah (ae 1) (ah (ae 2) ai)))))) tM aS)
noncomputable def dP:List PySem.PyData->bN:=aL 3 gg
noncomputable def vt:FS:=(aw (bw (aj 1 aJ (ah (ae 0) ai)))
  (aw (bw (aj 1 cy (ah (ae 1) ai)))
  (aw (bw (aj 3 dP (ah (ae 0) (ah (ae 1) (ah (ae 2) ai)))))
  (aw (aD false 3 (ic .leaf 4 5 (ak (ae 0) (eK (.int 2))) aG (vW (aQ ax (aE (bx false) (ak (ae 2) (ae 4)) (eK .none))) (km (ae 5)) (aU .leaf (ah (ak (ae 2) (ae 4)) ai)))))
  (aP (cQ (ah (km (ak (ae 0) (eK (.int 0)))) (ah (av .leaf 5 (aF (ak (ae 0) (eK (.int 1)))) aG (km (ae 5))) (ah (ae 3) ai)))))))))
noncomputable def fY:List PySem.PyData->bN:=aL 6 vt
noncomputable def j5:FS:=(aP (ic .leaf 3 4 (ae 2) aG (vW (gz (aQ bF (ae 4)) (aQ ax (aE cV (ak (ak (ae 0) (eK (.int 0))) (ae 3)) (ae 1)))) (ak (ae 4) (eK (.int 0))) (eK .none))))
noncomputable def da:List PySem.PyData->bN:=aL 5 j5
noncomputable def gf:FS:=(aw (bw (aj 1 aJ (ah (ae 0) ai)))
  (aw (bw (aj 1 cy (ah (ae 1) ai)))
  (bw (aj 2 b7 (ah (ae 0) (ah (ae 2) ai))))))
noncomputable def cX:List PySem.PyData->bN:=aL 3 gf
noncomputable def rV:FS:=(aw (aD false 3 (bM bL (ah (ak (ae 0) (eK (.int 0))) ai)))
  (aw (aD false 4 (aj 4 bT (ah (ae 0) (ah (av .leaf 5 (aF (ak (ae 0) (eK (.int 0)))) aG (aE cV (ae 5) (ae 1))) (ah (sq (ah (ae 3) ai)) (ah (ae 2) ai))))))
  (aP (cQ (ah (ae 4) (ah (aj 3 da (ah (ae 0) (ah (ae 1) (ah (av .leaf 6 (gk (ah (ae 3) ai)) aG (aj 3 bI (ah (ae 0) (ah (ae 4) (ah (ae 6) ai))))) ai)))) ai))))))
noncomputable def gw:List PySem.PyData->bN:=aL 7 rV
noncomputable def jy:FS:=(aP (cQ (ah (ak (ae 0) (eK (.int 0))) (ah (ak (ae 0) (eK (.int 1))) (ah (av .leaf 2 (aF (ak (ae 0) (eK (.int 2)))) aG (av .leaf 3 (aF (ae 2)) (aQ ax (aE (bG false) (ae 3) (ae 1))) (ae 3))) ai)))))
noncomputable def bS:List PySem.PyData->bN:=aL 4 jy
noncomputable def jx:FS:=(aw (aD false 4 (av .leaf 5 (aF (ae 3)) (aQ ax (aE (bG false) (ae 5) (ae 2))) (ae 5)))
  (aP (aj 4 bT (ah (aj 2 bS (ah (ae 0) (ah (ae 3) ai))) (ah (av .leaf 6 (aF (ak (ae 0) (eK (.int 0)))) aG (aE cV (ae 6) (ae 1))) (ah (ae 3) (ah (ae 4) ai)))))))
noncomputable def cL:List PySem.PyData->bN:=aL 7 jx
noncomputable def kX:FS:=(aw (aD false 4 (aj 4 cL (ah (ae 0) (ah (ae 1) (ah (ae 2) (ah (ae 3) ai))))))
  (aP (av .leaf 5 (aF (ae 3)) (aQ ax (aE (bx false) (ak (ae 4) (ae 5)) (eK .none))) (ae 5))))
noncomputable def cx:List PySem.PyData->bN:=aL 6 kX
noncomputable def gy:FS:=(aw (aD true 3 (av .leaf 9 (aF (ak (ae 0) (eK (.int 0)))) aG (eK .none)))
  (aw (aD false 4 (sq (ah (bM bL (ah (ak (ae 0) (eK (.int 0))) ai)) ai)))
  (aw (aD false 5 (eK (.int 0)))
  (aw (aD false 6 (aj 4 cx (ah (ae 0) (ah (ae 1) (ah (ae 2) (ah (ae 4) ai))))))
  (aw (nU 1000 (aQ bF (ae 6))
  (aw (aD false 7 (aj 4 bT (ah (aj 2 bS (ah (ae 0) (ah (ae 4) ai))) (ah (av .leaf 9 (aF (ak (ae 0) (eK (.int 0)))) aG (aE iR (ae 9) (ae 1))) (ah (ae 4) (ah (ae 6) ai))))))
  (aw (dz 8 (aF (ae 4))
  (cF (aQ ax (aE (bx true) (ak (ae 7) (ae 8)) (eK .none))) (ez 3 (cQ (ah (ae 5) (ah (ak (ae 7) (ae 8)) ai))) (ae 8)) aS))
  (aw (fR 5 (eK (.int 1)))
  (aw (aD false 4 (av .leaf 8 (aF (ae 4)) (aQ ax (aE (bx false) (ak (ae 3) (ae 8)) (eK .none))) (ae 8)))
  (aD false 6 (aj 4 cx (ah (ae 0) (ah (ae 1) (ah (ae 2) (ah (ae 4) ai)))))))))))
  (aP (cQ (ah (cz 3) (ah (ae 4) ai)))))))))
noncomputable def cI:List PySem.PyData->bN:=aL 10 gy
noncomputable def fI:FS:=(aP (vW (aQ ax (aE cV (ak (ae 0) (ae 1)) (eK (.int 0)))) (aE (bx true) (ak (ae 0) (ae 2)) (eK .none)) (aj 2 dk (ah (ak (ae 0) (ae 2)) (ah (ak (ae 0) (ae 1)) ai)))))
noncomputable def dM:List PySem.PyData->bN:=aL 3 fI
noncomputable def dU:FS:=(aw (aD false 3 (ak (ae 0) (ae 1)))
  (aw (aD false 4 (ak (ae 0) (ae 2)))
  (aw (cF (nK (aQ ax (aE (bx false) (ae 3) (eK .none))) (aQ ax (aE (bx false) (ae 4) (eK .none)))) (aP (eK (.bool false))) aS)
  (aw (cF (aQ ax (aE iR (ak (ae 3) (eK (.int 0))) (ak (ae 4) (eK (.int 0))))) (aP (aE ia (ak (ae 4) (eK (.int 0))) (ak (ae 3) (eK (.int 0))))) aS)
  (aP (DP (aE ia (ak (ae 4) (eK (.int 1))) (ak (ae 3) (eK (.int 1)))) (eF (aE cV (ak (ae 3) (eK (.int 1))) (eK (.int 0))) (aE cV (ak (ae 4) (eK (.int 1))) (eK (.int 0))))))))))
noncomputable def cW:List PySem.PyData->bN:=aL 5 dU
noncomputable def ym:FS:=(aw (bw (aj 3 cX (ah (ae 0) (ah (ae 1) (ah (ae 2) ai)))))
  (aw (aD false 3 (aj 3 cI (ah (ae 0) (ah (ae 1) (ah (ae 2) ai)))))
  (aw (aD false 4 (ak (ae 3) (eK (.int 0))))
  (aw (aD false 5 (aj 4 cL (ah (ae 0) (ah (ae 1) (ah (ae 2) (ah (ak (ae 3) (eK (.int 1))) ai))))))
  (aw (aD false 6 (ic .leaf 9 10 (ak (ae 0) (eK (.int 2))) aG (av .leaf 8 (aF (ae 10)) (aQ bF (aj 3 dM (ah (ae 5) (ah (ae 9) (ah (ae 8) ai))))) (ae 8))))
  (aw (aD false 7 (ic .leaf 9 10 (ak (ae 0) (eK (.int 2))) aG (av .leaf 8 (aF (ae 10)) (aQ bF (aj 3 cW (ah (ae 4) (ah (ae 9) (ah (ae 8) ai))))) (ae 8))))
  (aP (cQ (ah (ae 5) (ah (aj 3 da (ah (ae 0) (ah (ae 1) (ah (ae 6) ai)))) (ah (ae 4) (ah (aj 3 da (ah (ae 0) (ah (aj 1 cu (ah (ae 1) ai)) (ah (ae 7) ai)))) ai))))))))))))
noncomputable def kP:List PySem.PyData->bN:=aL 11 ym
noncomputable def cZ:FS:=(aw (bw (aj 1 aJ (ah (ae 0) ai)))
  (aw (cF (dr (aQ bF (aj 1 bE (ah (ae 2) ai)))) tM aS)
  (bw (aj 2 b7 (ah (ae 0) (ah (ae 1) ai))))))
noncomputable def bD:List PySem.PyData->bN:=aL 3 cZ
noncomputable def hJ:FS:=(aP (aj 3 di (ah (ae 0) (ah (ae 1) (ah (av .leaf 3 (aF (ae 1)) (aQ ax (aE (bG false) (ae 2) (ak (ak (ae 0) (eK (.int 1))) (ae 3)))) (ae 3)) ai)))))
noncomputable def bP:List PySem.PyData->bN:=aL 4 hJ
noncomputable def rR:FS:=(aw (aD false 3 (av .leaf 7 (aF (ae 1)) (dr (aQ bF (bM (b8 true) (ah (av .leaf 8 (aF (ak (ak (ae 0) (eK (.int 2))) (ae 7))) aG (aE (bG false) (ae 8) (ae 1))) ai)))) (ae 7)))
  (aw (cF (aQ bF (ae 3)) (aP (cQ (ah (ae 3) (ah (eK .none) ai)))) aS)
  (aw (dz 4 (aF (ae 2))
  (aw (aD false 5 (aj 3 bP (ah (ae 0) (ah (ae 1) (ah (ae 4) ai)))))
  (aw (aD false 6 (av .leaf 7 (aF (ae 1)) (aQ ax (aE (bx false) (ak (ae 5) (ae 7)) (eK .none))) (ae 7)))
  (cF (aQ bF (ae 6)) (aP (cQ (ah (ae 6) (ah (ae 4) ai)))) aS))))
  (aP (eK .none)))))
noncomputable def cJ:List PySem.PyData->bN:=aL 9 rR
noncomputable def hU:FS:=(aw (aD true 3 (aU .leaf ai))
  (aw (aD false 4 (km (ae 1)))
  (aw (aD false 5 (aj 3 cJ (ah (ae 0) (ah (ae 4) (ah (ae 2) ai)))))
  (aw (nU 1000 (aQ ax (aE (bx true) (ae 5) (eK .none)))
  (aw (eV 3 (ae 5))
  (aw (aD false 4 (av .leaf 6 (aF (ae 4)) (aQ ax (aE (bG true) (ae 6) (ak (ae 5) (eK (.int 0))))) (ae 6)))
  (aD false 5 (aj 3 cJ (ah (ae 0) (ah (ae 4) (ah (ae 2) ai))))))))
  (aP (cQ (ah (cz 3) (ah (ae 4) ai))))))))
noncomputable def bC:List PySem.PyData->bN:=aL 7 hU
noncomputable def kZ:FS:=(aw (bw (aj 3 bD (ah (ae 0) (ah (ae 1) (ah (ae 2) ai)))))
  (aP (ak (aj 3 bC (ah (ae 0) (ah (ae 1) (ah (ae 2) ai)))) (eK (.int 1)))))
noncomputable def bp:List PySem.PyData->bN:=aL 3 kZ
noncomputable def d0:FS:=(aP (ic .leaf 1 2 (ae 0) (aQ ax (aE (bx false) (ae 2) (eK .none))) (ae 1)))
noncomputable def cT:List PySem.PyData->bN:=aL 3 d0
noncomputable def eJ:FS:=(aP (av .leaf 3 (aF (ak (ak (ae 0) (eK (.int 2))) (ae 2))) (gz (aQ ax (aE (bG false) (ae 2) (ae 1))) (aQ ax (aE (bG false) (ae 3) (ae 1)))) (ae 3)))
noncomputable def ck:List PySem.PyData->bN:=aL 4 eJ
noncomputable def B8:FS:=(aw (bw (aj 3 cX (ah (ae 0) (ah (ae 1) (ah (ae 2) ai)))))
  (aw (aD false 3 (aj 3 gw (ah (ae 0) (ah (aj 1 cu (ah (ae 1) ai)) (ah (aj 2 dA (ah (ae 0) (ah (ae 2) ai))) ai)))))
  (aw (aD false 4 (aj 1 cT (ah (ak (ae 3) (eK (.int 0))) ai)))
  (aw (aD false 5 (aj 3 da (ah (ae 0) (ah (ae 1) (ah (av .leaf 6 (gk (ah (bM bL (ah (ak (ae 0) (eK (.int 0))) ai)) ai)) aG (aj 3 ck (ah (ae 0) (ah (ae 4) (ah (ae 6) ai))))) ai)))))
  (aP (cQ (ah (ae 4) (ah (ae 5) (ah (ak (ae 3) (eK (.int 0))) (ah (ak (ae 3) (eK (.int 1))) ai))))))))))
noncomputable def oB:List PySem.PyData->bN:=aL 7 B8
open PySem.SeqAt
theorem Ao {α:Type} {l:List α} {n:Nat} (d:α) (h:l.length=n):l=(List.range n).map fun r=>l.getD r d:=by
 apply ext_getElem?
 intro k;rw [getElem?_map];by_cases hk:k<n
 ·rw [getElem?_range hk]
  show l[k]?=some (l.getD k d)
  rw [getD_eq_getElem?_getD,getElem?_eq_getElem (by omega)]
  rfl
 ·rw [getElem?_eq_none (by omega),getElem?_eq_none (by simp;omega)]
  rfl
theorem vG {n:Nat} {fl:FL} {Γ:Ev} {s:Sh} (hn:n<=1000) (h:fl Γ=.ok [⟨s,.int (n:Int)⟩] Γ):gk fl Γ=.ok ⟨(List.range n).map rm,true⟩ Γ:=by
 rw [sN (k:=(n:Int)) h rfl (by omega) (by omega),Int.toNat_natCast,Ez]
theorem vK {n:Nat} {fl:FL} {Γ:Ev} {s:Sh} (hn:n<=1000) (h:fl Γ=.ok [⟨s,.int (n:Int)⟩] Γ):sq fl Γ=.ok ⟨.lst .leaf,ay (List.range n)⟩ Γ:=by
 rw [C1 (k:=(n:Int)) h rfl (by omega) (by omega),Int.toNat_natCast,Ez]
section
variable {i j:Nat} {fc:FB} {fe:F1} {s:Sh} {Γ:Ev} {e:Nat->D} {c:Nat->Bool} {f:Nat->PV}
noncomputable abbrev Γ2 (Γ:Ev) (i j:Nat) (e:Nat->D) (r:Nat):Ev:=(Γ.set i (some ⟨.leaf,.int (r:Nat)⟩)).set j (some ⟨.leaf,e r⟩)
theorem HE (hij:i≠j) (hΓ:(Γ.set i none).set j none=Γ):∀(m k:Nat) (acc:List D),(∀r,k<=r->r<k+m->fc (Γ2 Γ i j e r)=.ok (c r) (Γ2 Γ i j e r)) ->
  (∀r,k<=r->r<k+m->c r=true->fe (Γ2 Γ i j e r)=.ok (f r) (Γ2 Γ i j e r)/\coer s (f r)=true)->acc.length+m<=sizeLine->sy i j fc fe s k ((List.range' k m).map e) Γ acc=.ok (acc++(((List.range' k m).filter c).map fun r=>(f r).d)) Γ
 | 0,k,acc,_,_,_=>by simp [sy]
 | m+1,k,acc,hc,he,hl=>by
  have h1:=hc k (Nat.le_refl _) (by omega)
  have hl1:acc.length<sizeLine:=by omega
  have back:((Γ2 Γ i j e k).set i none).set j none=Γ:=by
   unfold Γ2;rw [List.set_comm _ _ (Ne.symm hij),set_set,set_set];exact hΓ
  rw [List.range'_succ,map_cons,sy];have h1:fc ((Γ.set i (some ⟨.leaf,.int (k:Nat)⟩)).set j (some ⟨.leaf,e k⟩))=_:=h1
  rw [h1]
  cases hcd:c k with
  | false=>
   dsimp only;rw [if_pos hl1,back,HE hij hΓ m (k+1) acc (fun r h1 h2=>hc r (by omega) (by omega)) (fun r h1 h2=>he r (by omega) (by omega)) (by omega)]
   rw [List.filter_cons_of_neg (by rw [hcd];exact Bool.false_ne_true)]
  | true=>
   obtain ⟨h2,h3⟩:=he k (Nat.le_refl _) (by omega) hcd
   dsimp only;rw [h2];dsimp only;rw [h3,decide_eq_true hl1,Bool.and_self,if_pos rfl,back,HE hij hΓ m (k+1) (acc++[(f k).d]) (fun r h1 h2=>hc r (by omega) (by omega)) (fun r h1 h2=>he r (by omega) (by omega)) (by simp only [length_append,length_cons,length_nil];omega)]
   rw [List.filter_cons_of_pos hcd,map_cons,append_assoc];rfl
theorem EN (e:Nat->D) (n:Nat) (c:Nat->Bool) (f:Nat->PV) {fa:F1} {st:Bool} (hi:aF fa Γ=.ok ⟨(List.range n).map e,st⟩ Γ) (h1:Γ[i]?=some none) (h2:Γ[j]?=some none) (hij:i≠j) (hs:s.isView=false) (hn:n<=10000)
  (hc:∀r,r<n->fc (Γ2 Γ i j e r)=.ok (c r) (Γ2 Γ i j e r)) (he:∀r,r<n->c r=true->fe (Γ2 Γ i j e r)=.ok (f r) (Γ2 Γ i j e r)/\coer s (f r)=true) :
  ic s i j fa fc fe Γ=.ok ⟨.lst s,.list (((List.range n).filter c).map fun r=>(f r).d)⟩ Γ:=by
 have hb:(10000:Nat)<=sizeLine:=by decide
 unfold ic;rw [hi];unfold Out.bind;dsimp only;rw [h1,h2,hs];have hΓ:(Γ.set i none).set j none=Γ:=by rw [yN h1,yN h2]
 rw [List.range_eq_range',HE (c:=c) (f:=f) hij hΓ n 0 [] (fun r _ h=>hc r (by omega)) (fun r _ h=>he r (by omega)) (by simp;omega)]
 rfl
theorem EW (e:Nat->D) (n:Nat) (f:Nat->PV) {fa:F1} {st:Bool} (hi:aF fa Γ=.ok ⟨(List.range n).map e,st⟩ Γ) (h1:Γ[i]?=some none) (h2:Γ[j]?=some none) (hij:i≠j) (hs:s.isView=false) (hn:n<=10000)
  (he:∀r,r<n->fe (Γ2 Γ i j e r)=.ok (f r) (Γ2 Γ i j e r)/\coer s (f r)=true) :
  ic s i j fa aG fe Γ=.ok ⟨.lst s,.list ((List.range n).map fun r=>(f r).d)⟩ Γ:=by
 have:=EN (fc:=aG) e n (fun _=>true) f hi h1 h2 hij hs hn (fun _ _=>rfl) fun r hr _=>he r hr
 rw [this,List.filter_eq_self.mpr fun _ _=>rfl]
end
theorem dH {p:Int} (h:p=0\/p=1):cy [.int p]=.ok ⟨.leaf,.none⟩:=by
 have:bG true (.int p) bU=some (.bool false):=by rcases h with rfl | rfl<;>kernel_rfl
 refine eD (Γ:=aN 1 [.int p]) ?_
 simp [eN,aN,this]
theorem iY {c:Str} (h:c∈bz):dQ [.str c]=.ok ⟨.leaf,.none⟩:=by
 have:bG true (.str c) bV=some (.bool false):=by
  unfold bz at h;simp only [mem_cons,not_mem_nil,or_false] at h
  rcases h with rfl | rfl | rfl | rfl | rfl | rfl<;>kernel_rfl
 refine eD (Γ:=aN 1 [.str c]) ?_
 simp [gh,aN,this]
theorem Ex {r:List Nat}:r.map rm=(r.map fun t:Nat=>(t:Int)).map PyData.int:=by rw [map_map];rfl
theorem Std.sorted {n:Nat} {L:List Nat} (h:Std n L):L.Pairwise (· < ·):=by
 obtain ⟨q,rfl⟩:=h;exact List.Pairwise.filter _ List.pairwise_lt_range
theorem kT {n:Nat} (h24:n<=24) {R:List Nat} (h:Std n R):cO [ay R,.int (n:Int)]=.ok ⟨.leaf,.bool true⟩:=by
 have hl:=h.len
 rw [ay,Ex,fu Cu (by simp;omega)]
 have h1:((R.map fun t:Nat=>(t:Int)).map PyData.int).all (inR (n:Int))=true:=by
  rw [all_eq_true];intro d hd;obtain ⟨i,hi,rfl⟩:=List.mem_map.mp hd;obtain ⟨t,ht,rfl⟩:=List.mem_map.mp hi;have:=h.lt t ht
  simp [inR]
  omega
 have h2:eZ ((R.map fun t:Nat=>(t:Int)).map PyData.int)=true:=md (by
  rw [pairwise_map];exact h.sorted.imp fun h=>by omega)
 rw [h1,h2];rfl
theorem CW {w:Wd} (ok:w.Ok) {R:List Nat} (h:Std w.n R):b7 [w.enc,ay R]=.ok ⟨.leaf,.none⟩:=by
 have lo:=ok.g.lo
 have:=kT ok.h24 h
 refine eD (Γ:=aN 2 [w.enc,ay R]) ?_
 simp [fC,aN,Wd.enc,bO,lo,this]
theorem eG {w:Wd} (ok:w.Ok) {p:Int} (hp:p=0\/p=1) {R:List Nat} (h:Std w.n R):cX [w.enc,.int p,ay R]=.ok ⟨.leaf,.none⟩:=by
 have c1:=ok.check
 have c2:=dH hp
 have c3:=CW ok h
 refine eD (Γ:=aN 3 [w.enc,.int p,ay R]) ?_
 simp [gf,aN,c1,c2,c3]
noncomputable def oy (w:Wd) (c:Str):List Nat:=(List.range w.n).filter fun r=>(w.mks r).contains c
theorem mem_mkd {w:Wd} {c:Str} {r:Nat}:r∈oy w c↔r<w.n/\c∈w.mks r:=by unfold oy;simp
theorem Gh {w:Wd} (ok:w.Ok) (r:Nat):∀x∈w.mks r,PyData.strOk x=true:=fun x hx=>by
 unfold Wd.mks at hx;rw [getD_eq_getElem?_getD] at hx
 cases e:w.m[r]? with
 | none=>rw [e] at hx;simp at hx
 | some l=>rw [e] at hx;exact ok.mc _ (mem_of_getElem? e) x hx
theorem Wd.Ok.m_range {w:Wd} (ok:w.Ok):w.m.map bX=(List.range w.n).map fun r=>bX (w.mks r):=by
 conv=>lhs;rw [Ao (l:=w.m) [] ok.lm]
 rw [map_map];rfl
theorem Wd.Ok0.s_range {w:Wd} (ok:w.Ok0):w.s.map ay=(List.range w.n).map fun r=>ay (w.stp r):=by
 conv=>lhs;rw [Ao (l:=w.s) [] ok.ls]
 rw [map_map];rfl
theorem iU {w:Wd} (ok:w.Ok) {c:Str} (h:c∈bz):dj [w.enc,.str c]=.ok ⟨.lst .leaf,ay (oy w c)⟩:=by
 have c1:=ok.check
 have c2:=iY h
 have h24:=ok.h24
 have e:ic .leaf 2 3 (ak (ae 0) (eK (.int 1))) (aQ ax (aE (bG false) (ae 1) (ae 3))) (ae 2) (aN 4 [w.enc,.str c])=.ok ⟨.lst .leaf,.list ((oy w c).map fun r=>rm r)⟩ (aN 4 [w.enc,.str c]):=by
  refine EN (fun r=>bX (w.mks r)) w.n (fun r=>(w.mks r).contains c) (fun r=>⟨.leaf,rm r⟩) (st:=true) ?_ rfl rfl (by omega) rfl (by omega) (fun r hr=>?_) (fun r hr _=>?_)
  ·simp [aN,Wd.enc,bO,ok.m_range]
  ·simp [Γ2,aN,Gf (CJ h).1 (Gh ok r)]
  ·simp [Γ2,aN]
 exact aT (az (o8 (bH (aC (aA rfl) aq) c1 rfl rfl)) (az (o8 (bH (aC (aA rfl) aq) c2 rfl rfl)) (ba e rfl)))
noncomputable def rA (p:Int):D->Bool
 | .int o=>o==p
 | _=>false
noncomputable def own (w:Wd) (p:Int):Nat->Bool:=gO (w.os.map (rA p))
theorem Wd.Ok.o_at {w:Wd} (ok:w.Ok) {r:Nat} (hr:r<w.n):∃o:Int,(o=0\/o=1)/\eh w.os (r:Int)=some (.int o)/\∀p,own w p r=(o==p):=by
 have hl:r<w.os.length:=by rw [ok.g.lo];exact hr
 have hm:=ok.g.o _ (getElem_mem hl)
 have key:∀o:Int,w.os[r]=.int o->eh w.os (r:Int)=some (.int o)/\∀p,own w p r=(o==p):=fun o e=>by
  refine ⟨yF (by rw [getElem?_eq_getElem hl,e]),fun p=>?_⟩
  unfold own gO;rw [getD_eq_getElem?_getD,getElem?_map,getElem?_eq_getElem hl,e];rfl
 rcases hm with e | e
 ·exact ⟨0,.inl rfl,key 0 e⟩
 ·exact ⟨1,.inr rfl,key 1 e⟩
theorem RightG.congr {n:Nat} {st:Nat->List Nat} {ch ch':Nat->Bool} {thr goal:List Nat} {rk:List (Option Nat)} (h:RightG n st ch thr goal rk) (e:∀r,r<n->ch r=ch' r):RightG n st ch' thr goal rk:=
 ⟨h.len,h.g,fun r k hr hg hk=>by rw [<-e r hr];exact h.p r k hr hg hk,fun r hr hz=>by rw [<-e r hr];exact h.z r hr hz⟩
noncomputable def iJ:Option Nat->Option Nat->Bool
 | some a,some b=>decide (a<b)
 | _,_=>false
theorem j0 {a b:Option Nat}:dk [oD a,oD b]=.ok ⟨.leaf,.bool (iJ a b)⟩:=by
 refine aT ?_
 cases a with
 | none=>simp [dW,aN,oD,iJ,o7]
 | some a=>
  cases b with
  | none=>simp [dW,aN,oD,iJ,o7]
  | some b=>simp [dW,aN,oD,iJ,o7]
noncomputable def fZ (w:Wd) (rk:List (Option Nat)) (r:Nat):List Nat:=(w.stp r).filter fun t=>iJ (aI rk t) (aI rk r)
theorem dZ {w:Wd} (ok:w.Ok) {rk:List (Option Nat)} (hl:rk.length=w.n) {r:Nat} (hr:r<w.n):bI [w.enc,bj rk,rm r]=.ok ⟨.lst .leaf,ay (fZ w rk r)⟩:=by
 have a2:=ok.at2 hr
 have a1:=eO (rk:=rk) (t:=r) (by omega)
 have e:av .leaf 3 (aF (ak (ak (ae 0) (eK (.int 2))) (ae 2))) (aQ bF (aj 2 dk (ah (ak (ae 1) (ae 3)) (ah (ak (ae 1) (ae 2)) ai)))) (ae 3) (aN 4 [w.enc,bj rk,rm r])=.ok ⟨.lst .leaf,.list ((fZ w rk r).map fun t=>rm t)⟩ (aN 4 [w.enc,bj rk,rm r]):=by
  refine nR rm (w.stp r) (fun t=>iJ (aI rk t) (aI rk r)) (fun t=>⟨.leaf,rm t⟩) (st:=true) (by simp [aN,Wd.enc,bO,a2]) (by simp [aN]) rfl ok.z.len (fun t ht=>?_) (fun t ht _=>?_)
  ·have a3:=eO (rk:=rk) (t:=t) (by rw [hl];exact ok.stp_lt ht)
   have dl:=j0 (a:=aI rk t) (b:=aI rk r)
   simp [aN,a1,a3,dl]
  ·simp [aN]
 refine aT ?_
 unfold fA;rw [mi,e];rfl
noncomputable def aM (w:Wd) (p:Int) (sd:Nat->List Nat):List (Option Nat):=(List.range w.n).map fun r=>if own w p r then (sd r).head? else none
theorem ET {w:Wd} {p:Int} {sd:Nat->List Nat} {r:Nat} (hr:r<w.n):aI (aM w p sd) r=if own w p r then (sd r).head? else none:=by
 unfold aI aM;rw [getD_eq_getElem?_getD,getElem?_map,getElem?_range hr];rfl
theorem E9 {w:Wd} (ok:w.Ok) {p:Int} {sd:Nat->List Nat}:da [w.enc,.int p,.list ((List.range w.n).map fun r=>ay (sd r))]=.ok ⟨.lst .leaf,bj (aM w p sd)⟩:=by
 have h24:=ok.h24
 have e:ic .leaf 3 4 (ae 2) aG (vW (gz (aQ bF (ae 4)) (aQ ax (aE cV (ak (ak (ae 0) (eK (.int 0))) (ae 3)) (ae 1)))) (ak (ae 4) (eK (.int 0))) (eK .none)) (aN 5 [w.enc,.int p,.list ((List.range w.n).map fun r=>ay (sd r))])=.ok ⟨.lst .leaf,.list ((List.range w.n).map fun r=>(⟨.leaf,oD (if own w p r then (sd r).head? else none)⟩:PV).d)⟩ (aN 5 [w.enc,.int p,.list ((List.range w.n).map fun r=>ay (sd r))]):=by
  refine EW (fun r=>ay (sd r)) w.n (fun r=>⟨.leaf,oD (if own w p r then (sd r).head? else none)⟩) (st:=true) (by simp [aN]) rfl rfl (by omega) rfl (by omega) (fun r hr=>⟨?_,rfl⟩)
  obtain ⟨o,_,a0,ho⟩:=ok.o_at hr;rw [ho p]
  cases hs:sd r with
  | nil=>simp [Γ2,aN,hs,oD]
  | cons t l=>
   by_cases eo:o=p
   ·simp [Γ2,aN,hs,Wd.enc,bO,a0,eq_int,eo,oD]
   ·simp [Γ2,aN,hs,Wd.enc,bO,a0,eq_int,eo,oD]
 refine aT ?_
 unfold j5;rw [mi,e];simp [aM]
theorem nt {w:Wd} (ok:w.Ok) {p:Int} {R:List Nat} (hR:Std w.n R) :
  ∃rk,gw [w.enc,.int p,ay R]=.ok ⟨.tup [.leaf,.lst .leaf],.tuple [bj rk,bj (aM w p (fZ w rk))]⟩/\RightG w.n w.stp (own w p) (List.range w.n) R rk/\J6 w.stp (own w p) R rk:=by
 have lo:=ok.g.lo
 have h24:=ok.h24
 obtain ⟨rk,e,Rt,fw⟩:=CT ok.z (cl:=w.os.map (rA p)) (thr:=List.range w.n) (goal:=R) (by rw [length_map];exact lo) (fun r hr=>ok.stp_ne (List.mem_range.mp hr)) (fun r hr=>List.mem_range.mp hr) (by simp;omega) hR.lt (by have:=hR.len;omega)
 refine ⟨rk,?_,Rt,fw⟩
 have c1:av .leaf 5 (aF (ak (ae 0) (eK (.int 0)))) aG (aE cV (ae 5) (ae 1)) [some ⟨.leaf,w.enc⟩,some ⟨.leaf,.int p⟩,some ⟨.leaf,ay R⟩,some ⟨.leaf,.int (w.n:Int)⟩,none,none,none]=.ok ⟨.lst .leaf,lq (w.os.map (rA p))⟩ [some ⟨.leaf,w.enc⟩,some ⟨.leaf,.int p⟩,some ⟨.leaf,ay R⟩,some ⟨.leaf,.int (w.n:Int)⟩,none,none,none]:=by
  have:=ie (fun d:D=>d) w.os (fun d=>⟨.leaf,.bool (rA p d)⟩) (s:=.leaf) (i:=5) (fi:=aF (ak (ae 0) (eK (.int 0)))) (fe:=aE cV (ae 5) (ae 1)) (st:=true) (Γ:=[some ⟨.leaf,w.enc⟩,some ⟨.leaf,.int p⟩,some ⟨.leaf,ay R⟩,some ⟨.leaf,.int (w.n:Int)⟩,none,none,none]) (by simp [Wd.enc,bO]) (by simp) rfl (by omega) (fun d hd=>by
   rcases ok.g.o d hd with rfl | rfl<;>simp [eq_int,rA])
  rw [this];simp
 have c2:sq (ah (ae 3) ai) [some ⟨.leaf,w.enc⟩,some ⟨.leaf,.int p⟩,some ⟨.leaf,ay R⟩,some ⟨.leaf,.int (w.n:Int)⟩,none,none,none]=.ok ⟨.lst .leaf,ay (List.range w.n)⟩ [some ⟨.leaf,w.enc⟩,some ⟨.leaf,.int p⟩,some ⟨.leaf,ay R⟩,some ⟨.leaf,.int (w.n:Int)⟩,none,none,none]:=by
  exact vK (s:=.leaf) (n:=w.n) (by omega) (by simp)
 have c3:av .leaf 6 (gk (ah (ae 3) ai)) aG (aj 3 bI (ah (ae 0) (ah (ae 4) (ah (ae 6) ai)))) [some ⟨.leaf,w.enc⟩,some ⟨.leaf,.int p⟩,some ⟨.leaf,ay R⟩,some ⟨.leaf,.int (w.n:Int)⟩,some ⟨.leaf,bj rk⟩,none,none]=.ok ⟨.lst .leaf,.list ((List.range w.n).map fun r=>ay (fZ w rk r))⟩ [some ⟨.leaf,w.enc⟩,some ⟨.leaf,.int p⟩,some ⟨.leaf,ay R⟩,some ⟨.leaf,.int (w.n:Int)⟩,some ⟨.leaf,bj rk⟩,none,none]:=by
  refine ie rm (List.range w.n) (fun r=>⟨.lst .leaf,ay (fZ w rk r)⟩) (st:=true) ?_ (by simp) rfl (by simp;omega) (fun r hr=>⟨?_,rfl⟩)
  ·exact vG (s:=.leaf) (n:=w.n) (by omega) (by simp)
  ·have:=dZ ok Rt.len (List.mem_range.mp hr)
   simp [this]
 have pl:=E9 ok (p:=p) (sd:=fZ w rk)
 refine aT (az (Γ1:=[some ⟨.leaf,w.enc⟩,some ⟨.leaf,.int p⟩,some ⟨.leaf,ay R⟩,some ⟨.leaf,.int (w.n:Int)⟩,none,none,none]) (by simp [aN,Wd.enc,bO,lo]) (az (cD (bH (aC (aA rfl) (aC c1 (aC c2 (aC (aA rfl) aq)))) e rfl rfl) rfl (by simp)) (ba (et (aC (aA rfl) (aC (bH (aC (aA rfl) (aC (aA rfl) (aC c3 aq))) pl rfl rfl) aq)) rfl rfl) rfl)))
noncomputable def cU (n:Nat) (rk:List (Option Nat)):List Nat:=(List.range n).filter fun r=>(aI rk r).isNone
theorem mem_noR {n:Nat} {rk:List (Option Nat)} {r:Nat}:r∈cU n rk↔r<n/\aI rk r=none:=by unfold cU;simp
theorem jL {rk:List (Option Nat)} {n:Nat} (h:rk.length=n):rk.map oD=(List.range n).map fun r=>oD (aI rk r):=by
 conv=>lhs;rw [Ao (l:=rk) none h]
 rw [map_map];rfl
theorem m7 {n:Nat} {rk:List (Option Nat)} (h:rk.length=n) (hn:n<=1000):cT [bj rk]=.ok ⟨.lst .leaf,ay (cU n rk)⟩:=by
 have e:ic .leaf 1 2 (ae 0) (aQ ax (aE (bx false) (ae 2) (eK .none))) (ae 1) (aN 3 [bj rk])=.ok ⟨.lst .leaf,.list ((cU n rk).map fun r=>rm r)⟩ (aN 3 [bj rk]):=by
  refine EN (fun r=>oD (aI rk r)) n (fun r=>(aI rk r).isNone) (fun r=>⟨.leaf,rm r⟩) (st:=true) ?_ rfl rfl (by omega) rfl (by omega) (fun r hr=>?_) (fun r hr _=>?_)
  ·simp only [aN,bj,jL h]
   simp
  ·simp [Γ2,aN]
  ·simp [Γ2,aN]
 refine aT ?_
 unfold d0;rw [mi,e];rfl
noncomputable def df (w:Wd) (K:List Nat) (r:Nat):List Nat:=(w.stp r).filter fun t=>K.contains r&&K.contains t
theorem m8 {w:Wd} (ok:w.Ok) {K:List Nat} {r:Nat} (hr:r<w.n):ck [w.enc,ay K,rm r]=.ok ⟨.lst .leaf,ay (df w K r)⟩:=by
 have a2:=ok.at2 hr
 have e:av .leaf 3 (aF (ak (ak (ae 0) (eK (.int 2))) (ae 2))) (gz (aQ ax (aE (bG false) (ae 2) (ae 1))) (aQ ax (aE (bG false) (ae 3) (ae 1)))) (ae 3) (aN 4 [w.enc,ay K,rm r])=.ok ⟨.lst .leaf,.list ((df w K r).map fun t=>rm t)⟩ (aN 4 [w.enc,ay K,rm r]):=by
  refine nR rm (w.stp r) (fun t=>K.contains r&&K.contains t) (fun t=>⟨.leaf,rm t⟩) (st:=true) (by simp [aN,Wd.enc,bO,a2]) (by simp [aN]) rfl ok.z.len (fun t ht=>?_) (fun t ht _=>?_)
  ·exact zy (gR (s:=.leaf) (aY (aA rfl) (aA rfl) vZ)) (gR (s:=.leaf) (aY (aA rfl) (aA rfl) vZ))
  ·simp [aN]
 refine aT ?_
 unfold eJ;rw [mi,e];rfl
theorem dG {p:Int}:cu [.int p]=.ok ⟨.leaf,.int (1-p)⟩:=by
 refine aT ?_
 simp [eL,aN]
theorem vn {w:Wd} (ok:w.Ok) {p:Int} (hp:p=0\/p=1) {R:List Nat} (hR:Std w.n R) :
  ∃rk,oB [w.enc,.int p,ay R]=.ok ⟨.tup [.leaf,.leaf,.leaf,.leaf],.tuple [ay (cU w.n rk),bj (aM w p (df w (cU w.n rk))),bj rk,bj (aM w (1-p) (fZ w rk))]⟩/\RightG w.n w.stp (own w (1-p)) (List.range w.n) ((List.range w.n).filter fun t=>!R.contains t) rk:=by
 have lo:=ok.g.lo
 have h24:=ok.h24
 obtain ⟨rk,e,Rt,_⟩:=nt ok (p:=1-p) (R:=(List.range w.n).filter fun t=>!R.contains t) (Std.of _)
 refine ⟨rk,?_,Rt⟩
 have c:=eG ok hp hR
 have co:=hE ok (r:=R)
 have cp:=dG (p:=p)
 have cw:=m7 Rt.len (by omega)
 have pl:=E9 ok (p:=p) (sd:=df w (cU w.n rk))
 have c3:av .leaf 6 (gk (ah (bM bL (ah (ak (ae 0) (eK (.int 0))) ai)) ai)) aG (aj 3 ck (ah (ae 0) (ah (ae 4) (ah (ae 6) ai)))) [some ⟨.leaf,w.enc⟩,some ⟨.leaf,.int p⟩,some ⟨.leaf,ay R⟩,some ⟨.leaf,.tuple [bj rk,bj (aM w (1-p) (fZ w rk))]⟩,some ⟨.leaf,ay (cU w.n rk)⟩,none,none]=.ok ⟨.lst .leaf,.list ((List.range w.n).map fun r=>ay (df w (cU w.n rk) r))⟩ [some ⟨.leaf,w.enc⟩,some ⟨.leaf,.int p⟩,some ⟨.leaf,ay R⟩,some ⟨.leaf,.tuple [bj rk,bj (aM w (1-p) (fZ w rk))]⟩,some ⟨.leaf,ay (cU w.n rk)⟩,none,none]:=by
  refine ie rm (List.range w.n) (fun r=>⟨.lst .leaf,ay (df w (cU w.n rk) r)⟩) (st:=true) ?_ (by simp) rfl (by simp;omega) (fun r hr=>⟨?_,rfl⟩)
  ·exact vG (s:=.leaf) (n:=w.n) (by omega) (by simp [Wd.enc,bO,lo])
  ·have:=m8 ok (K:=cU w.n rk) (List.mem_range.mp hr)
   simp [this]
 refine aT (az (o8 (bH (aC (aA rfl) (aC (aA rfl) (aC (aA rfl) aq))) c rfl rfl)) (az (cD (bH (aC (aA rfl) (aC (bH (aC (aA rfl) aq) cp rfl rfl) (aC (bH (aC (aA rfl) (aC (aA rfl) aq)) co rfl rfl) aq))) e rfl rfl) rfl (by simp [aN])) (az (cD (bH (aC (h9 (j:=0) (aA rfl) bt rfl rfl rfl) aq) cw rfl rfl) rfl (by simp [aN])) (az (cD (bH (aC (aA rfl) (aC (aA rfl) (aC c3 aq))) pl rfl rfl) rfl (by simp [aN])) (ba (et (aC (aA rfl) (aC (aA rfl) (aC (h9 (j:=0) (aA rfl) bt rfl rfl rfl) (aC (h9 (j:=1) (aA rfl) bt rfl rfl rfl) aq)))) rfl rfl) rfl)))))
structure i9 (w:Wd) (p:Int) (pl:List (Option Nat)):Prop where
 len:pl.length=w.n
 st:∀r t,r<w.n->aI pl r=some t->own w p r=true/\t∈w.stp r
theorem jO {w:Wd} {p:Int} {sd:Nat->List Nat} (h:∀r t,r<w.n->t∈sd r->t∈w.stp r):i9 w p (aM w p sd):=by
 refine ⟨by simp [aM],fun r t hr e=>?_⟩
 rw [ET hr] at e;split at e
 ·rename_i ho
  exact ⟨ho,h r t hr (List.mem_of_mem_head? e)⟩
 ·cases e
noncomputable def gd (w:Wd) (pl:List (Option Nat)):Wd:=⟨w.n,w.os,w.m,(List.range w.n).map fun r=>match aI pl r with | some t=>[t] | none=>w.stp r⟩
theorem Gy {w:Wd} {pl:List (Option Nat)} {r:Nat} (hr:r<w.n):(gd w pl).stp r=match aI pl r with | some t=>[t] | none=>w.stp r:=by
 unfold Wd.stp gd;simp only
 rw [getD_eq_getElem?_getD,getElem?_map,getElem?_range hr];rfl
theorem vf {w:Wd} (ok:w.Ok) {p:Int} {pl:List (Option Nat)} (h:i9 w p pl):(gd w pl).Ok:=by
 have row:∀r,r<w.n->w.stp r∈w.s:=fun r hr=>by
  unfold Wd.stp;rw [getD_eq_getElem?_getD,getElem?_eq_getElem (by rw [ok.ls];exact hr)]
  exact getElem_mem _
 refine ⟨⟨ok.g.lo,ok.g.lm,by simp [gd],ok.g.o,ok.g.m,fun x hx=>?_⟩,ok.h1,ok.h24,ok.lm,by simp [gd],fun x hx=>?_,ok.mc⟩
 ·obtain ⟨l,hl,rfl⟩:=List.mem_map.mp hx
  obtain ⟨r,hr,rfl⟩:=List.mem_map.mp hl;have hr:=List.mem_range.mp hr
  cases e:aI pl r with
  | none=>
   simp only [e]
   exact ok.g.s _ (List.mem_map.mpr ⟨_,row r hr,rfl⟩)
  | some t=>
   simp only [e]
   have:=ok.stp_lt (h.st r t hr e).2
   refine ⟨[(t:Int)],rfl,by simp,by simp,fun i hi=>?_,List.pairwise_singleton _ _⟩
   rw [List.mem_singleton.mp hi];show (0:Int)<=t/\(t:Int)<(w.n:Int)
   omega
 ·obtain ⟨r,hr,rfl⟩:=List.mem_map.mp hx
  have hr:=List.mem_range.mp hr
  cases e:aI pl r with
  | none=>simp only [e];exact ok.st _ (row r hr)
  | some t=>
   simp only [e]
   refine ⟨by simp,by simp,fun i hi=>?_⟩
   rw [List.mem_singleton.mp hi];exact ok.stp_lt (h.st r t hr e).2
theorem ni {w:Wd} (ok:w.Ok) {p:Int} {pl:List (Option Nat)} (h:i9 w p pl):dO [w.enc,.int p,bj pl]=.ok ⟨.leaf,.bool true⟩:=by
 have lo:=ok.g.lo
 have h24:=ok.h24
 have hl:=h.len
 have e1:ic .leaf 4 5 (ae 2) (aQ ax (aE (bx true) (ae 5) (eK .none))) (ae 4) [some ⟨.leaf,w.enc⟩,some ⟨.leaf,.int p⟩,some ⟨.leaf,bj pl⟩,none,none,none]=.ok ⟨.lst .leaf,.list (((List.range w.n).filter fun r=>!(aI pl r).isNone).map fun r=>rm r)⟩ [some ⟨.leaf,w.enc⟩,some ⟨.leaf,.int p⟩,some ⟨.leaf,bj pl⟩,none,none,none]:=by
  refine EN (fun r=>oD (aI pl r)) w.n (fun r=>!(aI pl r).isNone) (fun r=>⟨.leaf,rm r⟩) (st:=true) ?_ rfl rfl (by omega) rfl (by omega) (fun r hr=>?_) (fun r hr _=>?_)
  ·simp only [bj,jL h.len]
   simp
  ·simp [Γ2]
  ·simp [Γ2]
 have e2:av .leaf 4 (aF (ae 3)) aG (eF (aE cV (ak (ak (ae 0) (eK (.int 0))) (ae 4)) (ae 1)) (aE (bG false) (ak (ae 2) (ae 4)) (ak (ak (ae 0) (eK (.int 2))) (ae 4)))) [some ⟨.leaf,w.enc⟩,some ⟨.leaf,.int p⟩,some ⟨.leaf,bj pl⟩,some ⟨.leaf,ay ((List.range w.n).filter fun r=>!(aI pl r).isNone)⟩,none,none]=.ok ⟨.lst .leaf,.list (((List.range w.n).filter fun r=>!(aI pl r).isNone).map fun r=>.bool true)⟩ [some ⟨.leaf,w.enc⟩,some ⟨.leaf,.int p⟩,some ⟨.leaf,bj pl⟩,some ⟨.leaf,ay ((List.range w.n).filter fun r=>!(aI pl r).isNone)⟩,none,none]:=by
  refine ie rm _ (fun r=>⟨.leaf,.bool true⟩) (st:=true) (by simp) (by simp) rfl (Nat.le_trans (length_filter_le _ _) (by simp;omega)) (fun r hr=>⟨?_,rfl⟩)
  obtain ⟨h1,h2⟩:=List.mem_filter.mp hr;have h1:=List.mem_range.mp h1
  obtain ⟨o,_,a0,ho⟩:=ok.o_at h1;have a1:=eO (rk:=pl) (t:=r) (by omega)
  have a2:=ok.at2 h1
  cases e:aI pl r with
  | none=>rw [e] at h2;simp at h2
  | some t=>
   obtain ⟨q1,q2⟩:=h.st r t h1 e;rw [ho p] at q1;have q1:o=p:=by simpa using q1
   subst q1;rw [e] at a1;have i1:bG false (rm t) (ay (w.stp r))=some (.bool true):=by rw [vZ];simp [q2]
   refine v_and (s:=.leaf) (b:=true) (a:=true) ?_ ?_
   ·simp [Wd.enc,bO,a0,eq_int]
   ·simp [Wd.enc,bO,a1,a2,oD,i1]
 have g1:b8 false [.list (((List.range w.n).filter fun r=>!(aI pl r).isNone).map fun r=>PyData.bool true)]=some (.bool true):=by
  have:=mU (bs:=((List.range w.n).filter fun r=>!(aI pl r).isNone).map fun _=>true)
  rw [map_map] at this;refine this.trans ?_
  simp
 refine aT (az (Γ1:=aN 6 [w.enc,.int p,bj pl]) ?_ (az (cD e1 rfl (by simp)) (ba (dg (aC e2 aq) g1) rfl)))
 simp [aN,Wd.enc,bO,lo,hl,ne_int]
theorem iX {w:Wd} (ok:w.Ok) {p:Int} {pl:List (Option Nat)} (h:i9 w p pl):dP [w.enc,.int p,bj pl]=.ok ⟨.leaf,.none⟩:=by
 have:=ni ok h
 refine eD (Γ:=aN 3 [w.enc,.int p,bj pl]) ?_
 simp [gg,aN,this]
theorem iW {w:Wd} (ok:w.Ok) {p:Int} (hp:p=0\/p=1) {pl:List (Option Nat)} (h:i9 w p pl):fY [w.enc,.int p,bj pl]=.ok ⟨.tup [.lst .leaf,.lst .leaf,.leaf],(gd w pl).enc⟩:=by
 have lo:=ok.g.lo
 have lm:=ok.lm
 have h24:=ok.h24
 have c1:=ok.check
 have c2:=dH hp
 have c3:=iX ok h
 have e1:ic .leaf 4 5 (ak (ae 0) (eK (.int 2))) aG (vW (aQ ax (aE (bx false) (ak (ae 2) (ae 4)) (eK .none))) (km (ae 5)) (aU .leaf (ah (ak (ae 2) (ae 4)) ai))) [some ⟨.leaf,w.enc⟩,some ⟨.leaf,.int p⟩,some ⟨.leaf,bj pl⟩,none,none,none]=.ok ⟨.lst .leaf,.list ((List.range w.n).map fun r=>ay (match aI pl r with | some t=>[t] | none=>w.stp r))⟩ [some ⟨.leaf,w.enc⟩,some ⟨.leaf,.int p⟩,some ⟨.leaf,bj pl⟩,none,none,none]:=by
  refine EW (fun r=>ay (w.stp r)) w.n (fun r=>⟨.lst .leaf,ay (match aI pl r with | some t=>[t] | none=>w.stp r)⟩) (st:=true) ?_ rfl rfl (by omega) rfl (by omega) (fun r hr=>⟨?_,rfl⟩)
  ·simp [Wd.enc,bO,ok.z.s_range]
  ·have a1:=eO (rk:=pl) (t:=r) (by rw [h.len];exact hr)
   have b1:aQ ax (aE (bx false) (ak (ae 2) (ae 4)) (eK .none)) (Γ2 [some ⟨.leaf,w.enc⟩,some ⟨.leaf,.int p⟩,some ⟨.leaf,bj pl⟩,none,none,none] 4 5 (fun r=>ay (w.stp r)) r)=.ok (aI pl r).isNone (Γ2 [some ⟨.leaf,w.enc⟩,some ⟨.leaf,.int p⟩,some ⟨.leaf,bj pl⟩,none,none,none] 4 5 (fun r=>ay (w.stp r)) r):=by simp [Γ2,a1]
   rw [Dl,b1]
   cases e:aI pl r with
   | none=>
    have l1:km (ae 5) (Γ2 [some ⟨.leaf,w.enc⟩,some ⟨.leaf,.int p⟩,some ⟨.leaf,bj pl⟩,none,none,none] 4 5 (fun r=>ay (w.stp r)) r)=.ok ⟨.lst .leaf,ay (w.stp r)⟩ (Γ2 [some ⟨.leaf,w.enc⟩,some ⟨.leaf,.int p⟩,some ⟨.leaf,bj pl⟩,none,none,none] 4 5 (fun r=>ay (w.stp r)) r):=Cv (ds:=(w.stp r).map rm) (aA (i:=5) rfl) rfl
    exact l1
   | some t=>
    rw [e] at a1;simp [Γ2,a1,oD]
 have e2:av .leaf 5 (aF (ak (ae 0) (eK (.int 1)))) aG (km (ae 5)) [some ⟨.leaf,w.enc⟩,some ⟨.leaf,.int p⟩,some ⟨.leaf,bj pl⟩,some ⟨.leaf,.list ((List.range w.n).map fun r=>ay (match aI pl r with | some t=>[t] | none=>w.stp r))⟩,none,none]=.ok ⟨.lst .leaf,.list (w.m.map bX)⟩ [some ⟨.leaf,w.enc⟩,some ⟨.leaf,.int p⟩,some ⟨.leaf,bj pl⟩,some ⟨.leaf,.list ((List.range w.n).map fun r=>ay (match aI pl r with | some t=>[t] | none=>w.stp r))⟩,none,none]:=by
  refine ie bX w.m (fun r=>⟨.lst .leaf,bX r⟩) (st:=true) (by simp [Wd.enc,bO]) (by simp) rfl (by omega) (fun r hr=>⟨?_,rfl⟩)
  exact Cv (ds:=r.map .str) (aA rfl) rfl
 have e3:(gd w pl).enc=.tuple [.list w.os,.list (w.m.map bX),.list ((List.range w.n).map fun r=>ay (match aI pl r with | some t=>[t] | none=>w.stp r))]:=by
  unfold gd Wd.enc bO;simp
 rw [e3];refine aT (az (o8 (bH (aC (aA rfl) aq) c1 rfl rfl)) (az (o8 (bH (aC (aA rfl) aq) c2 rfl rfl)) (az (o8 (bH (aC (aA rfl) (aC (aA rfl) (aC (aA rfl) aq))) c3 rfl rfl)) (az (cD e1 rfl (by simp)) (ba (et (aC (Cv (h9 (j:=0) (aA rfl) bt rfl rfl rfl) rfl) (aC e2 (aC (aA rfl) aq))) rfl rfl) rfl)))))
theorem pY {l:List Nat} (h:l≠[]):∃t,l.head?=some t/\t∈l:=by
 cases l with
 | nil=>exact absurd rfl h
 | cons a r=>exact ⟨a,rfl,mem_cons_self⟩
noncomputable def BJ (n:Nat) (rk:List (Option Nat)):List Nat:=(List.range n).filter fun r=>!(aI rk r).isNone
theorem mem_hasR {n:Nat} {rk:List (Option Nat)} {r:Nat}:r∈BJ n rk↔r<n/\aI rk r≠none:=by
 unfold BJ;rw [mem_filter,mem_range]
 cases aI rk r<;>simp
end KC
namespace TQ
open PySem PySem.Spec L2 T
open PyProof.Rows hiding St
variable {X:Cx} {N gl:List Str} {vs cs ls lo gs:List Nat} {W:XW} {a b:Expr} {pos p:Pos} {fl:FL}
end TQ
namespace T
open PySem PySem.Spec L2
open PyProof.Rows hiding St
section
variable {K:Fg} {W:XW} {σ:St} {H:Hp} {Q:VK} {D:fL} {fa fb:F1} {fl:FL}
open Classical in
end
end T
namespace KC
open PySem PySem.Spec L2 T PySem.SeqAt
open PyProof.Rows hiding St
noncomputable def Wd.inn (w:Wd) (L:List Nat):Wd:=⟨w.n,w.os,w.m,w.s.map fun row=>row.filter fun t=>L.contains t⟩
theorem GC {w:Wd} {L:List Nat}:(w.inn L).stp=inn w.stp L:=by
 funext r
 unfold Wd.stp Wd.inn inn;simp only
 rw [getD_eq_getElem?_getD,getElem?_map,getD_eq_getElem?_getD]
 cases w.s[r]?<;>rfl
theorem uY {w:Wd} (ok:w.Ok) {L:List Nat}:(w.inn L).Ok0:=by
 refine ⟨ok.g.lo,ok.h24,by simp [Wd.inn,ok.ls],fun x hx=>?_⟩
 obtain ⟨l,hl,rfl⟩:=List.mem_map.mp hx;obtain ⟨_,h2,h3⟩:=ok.st l hl;exact ⟨Nat.le_trans (length_filter_le _ _) h2,fun t ht=>h3 t (List.mem_filter.mp ht).1⟩
theorem j3 {w:Wd} (ok:w.Ok) {L:List Nat}:bS [w.enc,ay L]=.ok ⟨.tup [.leaf,.leaf,.lst .leaf],(w.inn L).enc⟩:=by
 have h24:=ok.h24
 have ls:=ok.ls
 have e:av .leaf 2 (aF (ak (ae 0) (eK (.int 2)))) aG (av .leaf 3 (aF (ae 2)) (aQ ax (aE (bG false) (ae 3) (ae 1))) (ae 3)) (aN 4 [w.enc,ay L])=.ok ⟨.lst .leaf,.list (w.s.map fun row=>ay (row.filter fun t=>L.contains t))⟩ (aN 4 [w.enc,ay L]):=by
  refine ie ay w.s (fun row=>⟨.lst .leaf,ay (row.filter fun t=>L.contains t)⟩) (st:=true) (by simp [aN,Wd.enc,bO]) (by simp [aN]) rfl (by omega) (fun row hrow=>⟨?_,rfl⟩)
  refine nR rm row (fun t=>L.contains t) (fun t=>⟨.leaf,rm t⟩) (st:=true) (by simp [aN]) (by simp [aN]) rfl (by have:=(ok.st row hrow).2.1;omega) (fun t ht=>?_) (fun t ht _=>?_)
  ·exact gR (s:=.leaf) (aY (aA rfl) (aA rfl) vZ)
  ·simp [aN]
 have e3:(w.inn L).enc=.tuple [.list w.os,.list (w.m.map bX),.list (w.s.map fun row=>ay (row.filter fun t=>L.contains t))]:=by
  unfold Wd.inn Wd.enc bO;simp
 rw [e3];refine aT (ba (et (aC (h9 (j:=0) (aA rfl) bt rfl rfl rfl) (aC (h9 (j:=1) (aA rfl) bt rfl rfl rfl) (aC e aq))) rfl rfl) rfl)
theorem uZ {w:Wd} (ok:w.Ok) {p:Int} {L:List Nat} (hL:∀r∈L,r<w.n) (hc:∀r∈L,led (own w p r) (w.stp r) (·∈L)):∀r∈L,(w.inn L).stp r≠[]:=fun r hr=>by
 rw [GC];have h:=hc r hr
 cases ho:own w p r with
 | true=>
  rw [ho] at h;obtain ⟨t,ht,hl⟩:=led_t.mp h;exact ne_nil_of_mem (mem_inn.mpr ⟨ht,hl⟩)
 | false=>
  rw [ho] at h;obtain ⟨t,ht⟩:=exists_mem_of_ne_nil _ (ok.stp_ne (hL r hr));exact ne_nil_of_mem (mem_inn.mpr ⟨ht,led_f.mp h t ht⟩)
noncomputable abbrev gl (T L:List Nat):List Nat:=L.filter fun r=>T.contains r
theorem j4 {w:Wd} (ok:w.Ok) {p:Int} {T L:List Nat} (hs:Std w.n L) (hc:∀r∈L,led (own w p r) (w.stp r) (·∈L)) :
  ∃rk,cL [w.enc,.int p,ay T,ay L]=.ok ⟨.lst .leaf,bj rk⟩/\RightG w.n (inn w.stp L) (own w p) L (gl T L) rk:=by
 have lo:=ok.g.lo
 have h24:=ok.h24
 have hl:=hs.len
 obtain ⟨rk,e,Rt,_⟩:=CT (uY ok (L:=L)) (cl:=w.os.map (rA p)) (thr:=L) (goal:=gl T L) (by rw [length_map];exact lo) (uZ ok hs.lt hc) hs.lt (by omega) (fun r hr=>hs.lt r (List.mem_filter.mp hr).1) (Nat.le_trans (length_filter_le _ _) (by omega))
 rw [GC] at Rt;refine ⟨rk,?_,Rt⟩
 have c0:av .leaf 5 (aF (ae 3)) (aQ ax (aE (bG false) (ae 5) (ae 2))) (ae 5) (aN 7 [w.enc,.int p,ay T,ay L])=.ok ⟨.lst .leaf,.list ((gl T L).map fun t=>rm t)⟩ (aN 7 [w.enc,.int p,ay T,ay L]):=by
  refine nR rm L (fun r=>T.contains r) (fun t=>⟨.leaf,rm t⟩) (st:=true) (by simp [aN]) (by simp [aN]) rfl (by omega) (fun t ht=>?_) (fun t ht _=>?_)
  ·exact gR (s:=.leaf) (aY (aA rfl) (aA rfl) vZ)
  ·simp [aN]
 have c1:av .leaf 6 (aF (ak (ae 0) (eK (.int 0)))) aG (aE cV (ae 6) (ae 1)) [some ⟨.leaf,w.enc⟩,some ⟨.leaf,.int p⟩,some ⟨.leaf,ay T⟩,some ⟨.leaf,ay L⟩,some ⟨.leaf,ay (gl T L)⟩,none,none]=.ok ⟨.lst .leaf,lq (w.os.map (rA p))⟩ [some ⟨.leaf,w.enc⟩,some ⟨.leaf,.int p⟩,some ⟨.leaf,ay T⟩,some ⟨.leaf,ay L⟩,some ⟨.leaf,ay (gl T L)⟩,none,none]:=by
  have:=ie (fun d:D=>d) w.os (fun d=>⟨.leaf,.bool (rA p d)⟩) (s:=.leaf) (i:=6) (fi:=aF (ak (ae 0) (eK (.int 0)))) (fe:=aE cV (ae 6) (ae 1)) (st:=true) (Γ:=[some ⟨.leaf,w.enc⟩,some ⟨.leaf,.int p⟩,some ⟨.leaf,ay T⟩,some ⟨.leaf,ay L⟩,some ⟨.leaf,ay (gl T L)⟩,none,none]) (by simp [Wd.enc,bO]) (by simp) rfl (by omega) (fun d hd=>by
   rcases ok.g.o d hd with rfl | rfl<;>simp [eq_int,rA])
  rw [this];simp
 refine aT (az (cD c0 rfl (by simp [aN])) (ba (bH (aC (bH (aC (aA rfl) (aC (aA rfl) aq)) (j3 ok) rfl rfl) (aC c1 (aC (aA rfl) (aC (aA rfl) aq)))) e rfl rfl) rfl))
noncomputable abbrev lst (rk:List (Option Nat)) (L:List Nat):List Nat:=L.filter fun r=>(aI rk r).isNone
theorem nh {w:Wd} (ok:w.Ok) {p:Int} {T L:List Nat} (hs:Std w.n L) (hc:∀r∈L,led (own w p r) (w.stp r) (·∈L)) :
  ∃rk,cx [w.enc,.int p,ay T,ay L]=.ok ⟨.lst .leaf,ay (lst rk L)⟩/\RightG w.n (inn w.stp L) (own w p) L (gl T L) rk:=by
 have h24:=ok.h24
 have hl:=hs.len
 obtain ⟨rk,e,Rt⟩:=j4 ok (T:=T) hs hc
 refine ⟨rk,?_,Rt⟩
 have c0:av .leaf 5 (aF (ae 3)) (aQ ax (aE (bx false) (ak (ae 4) (ae 5)) (eK .none))) (ae 5) [some ⟨.leaf,w.enc⟩,some ⟨.leaf,.int p⟩,some ⟨.leaf,ay T⟩,some ⟨.leaf,ay L⟩,some ⟨.leaf,bj rk⟩,none]=.ok ⟨.lst .leaf,.list ((lst rk L).map fun t=>rm t)⟩ [some ⟨.leaf,w.enc⟩,some ⟨.leaf,.int p⟩,some ⟨.leaf,ay T⟩,some ⟨.leaf,ay L⟩,some ⟨.leaf,bj rk⟩,none]:=by
  refine nR rm L (fun r=>(aI rk r).isNone) (fun t=>⟨.leaf,rm t⟩) (st:=true) (by simp) (by simp) rfl (by omega) (fun t ht=>?_) (fun t ht _=>?_)
  ·have a1:=eO (rk:=rk) (t:=t) (by rw [Rt.len];exact hs.lt t ht)
   simp [a1]
  ·simp
 refine aT (az (cD (bH (aC (aA rfl) (aC (aA rfl) (aC (aA rfl) (aC (aA rfl) aq)))) e rfl rfl) rfl (by simp [aN])) (ba c0 rfl))
noncomputable def tD:Option (Nat×Nat)->D
 | none=>.none
 | some (a,b)=>.tuple [.int (a:Int),.int (b:Int)]
@[simp] theorem Fp (o:Option (Nat×Nat)):o7 (tD o)=o.isNone:=by cases o<;>rfl
noncomputable abbrev fE (tn:List (Option (Nat×Nat))):D:=.list (tn.map tD)
noncomputable def d8 (tn:List (Option (Nat×Nat))) (t:Nat):Option (Nat×Nat):=tn.getD t none
theorem vy {tn:List (Option (Nat×Nat))} {t:Nat} (h:t<tn.length):eh (tn.map tD) (t:Int)=some (tD (d8 tn t)):=by
 refine yF ?_
 unfold d8;rw [getElem?_map,getD_eq_getElem?_getD,getElem?_eq_getElem h];rfl
noncomputable def cH (rk:List (Option Nat)) (k:Nat) (tn:List (Option (Nat×Nat))) (r:Nat):List (Option (Nat×Nat)):=match aI rk r with
 | some j=>tn.set r (some (k,j))
 | none=>tn
theorem G4 {rk:List (Option Nat)} {k:Nat} {tn:List (Option (Nat×Nat))} {r:Nat}:(cH rk k tn r).length=tn.length:=by
 unfold cH;split
 ·exact length_set
 ·rfl
theorem xl {rk:List (Option Nat)} {k:Nat} {tn:List (Option (Nat×Nat))} {r t:Nat} (hr:r<tn.length):d8 (cH rk k tn r) t=if t=r then (match aI rk t with | some j=>some (k,j) | none=>d8 tn t) else d8 tn t:=by
 unfold cH;split
 ·rename_i j e
  unfold d8;rw [getD_eq_getElem?_getD,getD_eq_getElem?_getD];split
  ·rename_i z
   subst z;rw [getElem?_set_self hr,e];rfl
  ·rename_i z
   rw [getElem?_set_ne (fun y=>z y.symm)]
 ·rename_i e
  split
  ·rename_i z
   subst z;rw [e]
  ·rfl
theorem GK {rk:List (Option Nat)} {k t:Nat}:∀(L:List Nat) (tn:List (Option (Nat×Nat))),(∀r∈L,r<tn.length)->L.Nodup->d8 (L.foldl (cH rk k) tn) t=if t∈L then (match aI rk t with | some j=>some (k,j) | none=>d8 tn t) else d8 tn t
 | [],tn,_,_=>by simp
 | a::r,tn,h,nd=>by
  rw [List.foldl_cons,GK r _ (fun b hb=>by rw [G4];exact h b (mem_cons_of_mem _ hb)) (List.nodup_cons.mp nd).2,xl (h a mem_cons_self)]
  by_cases e1:t=a
  ·subst e1
   have:t∉r:=(List.nodup_cons.mp nd).1
   simp [this]
  ·simp [e1]
theorem G7 {rk:List (Option Nat)} {k:Nat}:∀(L:List Nat) (tn:List (Option (Nat×Nat))),(L.foldl (cH rk k) tn).length=tn.length
 | [],_=>rfl
 | a::r,tn=>by rw [List.foldl_cons,G7,G4]
noncomputable def se (tn:List (Option (Nat×Nat))) (a b t:Nat):Prop:=∃a' b',d8 tn t=some (a',b')/\(a'<a\/(a'=a/\(b'<b\/(b=0/\b'=0))))
structure TS where
 tn:List (Option (Nat×Nat))
 L:List Nat
 k:Nat
 lost:List Nat
 x7:Option PV
 x8:Option PV
structure TI (w:Wd) (p:Int) (T:List Nat) (b:TS):Prop where
 len:b.tn.length=w.n
 std:Std w.n b.L
 mem:∀r,r<w.n->(r∈b.L↔d8 b.tn r=none)
 c:∀r∈b.L,led (own w p r) (w.stp r) (·∈b.L)
 big:∀X,Suff w.n w.stp (own w p) (·∈T) X->∀r,X r->r∈b.L
 los:∃rk,RightG w.n (inn w.stp b.L) (own w p) b.L (gl T b.L) rk/\b.lost=lst rk b.L
 tk:∀r a j,d8 b.tn r=some (a,j)->a<b.k
 td:∀r a j,r<w.n->d8 b.tn r=some (a,j)->(j=0->r∉T)/\led (!own w p r) (w.stp r) (se b.tn a j)
theorem TI.step {w:Wd} (ok:w.Ok) {p:Int} {T:List Nat} {b:TS} (I:TI w p T b) {rk2:List (Option Nat)} (R2:RightG w.n (inn w.stp b.L) (fun r=>!own w p r) b.L b.lost rk2) (hne:b.lost≠[]) {rk:List (Option Nat)} {y7 y8:Option PV}
  (hR:(∀r∈b.L.filter (fun r=>(aI rk2 r).isNone),led (own w p r) (w.stp r) (·∈b.L.filter (fun r=>(aI rk2 r).isNone)))->RightG w.n (inn w.stp (b.L.filter fun r=>(aI rk2 r).isNone)) (own w p) (b.L.filter fun r=>(aI rk2 r).isNone) (gl T (b.L.filter fun r=>(aI rk2 r).isNone)) rk) :
  TI w p T ⟨b.L.foldl (cH rk2 b.k) b.tn,b.L.filter fun r=>(aI rk2 r).isNone,b.k+1,lst rk (b.L.filter fun r=>(aI rk2 r).isNone),y7,y8⟩/\(b.L.filter fun r=>(aI rk2 r).isNone).length<b.L.length:=by
 have hL:=I.std.lt
 have nd:b.L.Nodup:=I.std.sorted.imp fun h=>by omega
 have pt:∀t,d8 (b.L.foldl (cH rk2 b.k) b.tn) t=if t∈b.L then (match aI rk2 t with | some j=>some (b.k,j) | none=>d8 b.tn t) else d8 b.tn t:=fun t=>GK _ _ (fun r hr=>by rw [I.len];exact hL r hr) nd
 have hm:∀r,r∈b.L.filter (fun r=>(aI rk2 r).isNone)↔r∈b.L/\aI rk2 r=none:=fun r=>by simp
 obtain ⟨rk1,R1,el⟩:=I.los;have hlost:∀r,r∈b.lost↔r∈b.L/\aI rk1 r=none:=fun r=>by rw [el];simp
 have hc':∀r∈b.L.filter (fun r=>(aI rk2 r).isNone),led (own w p r) (w.stp r) (·∈b.L.filter (fun r=>(aI rk2 r).isNone)):=fun r hr=>by
  obtain ⟨h1,h2⟩:=(hm r).mp hr;exact vQ (uS hL I.c R2 h1 h2) fun t _ h=>(hm t).mpr h
 have keep:∀r v,d8 b.tn r=some v->d8 (b.L.foldl (cH rk2 b.k) b.tn) r=some v:=fun r v e=>by
  rw [pt];split
  ·rename_i hr
   have:=(I.mem r (hL r hr)).mp hr
   rw [this] at e
   cases e
  ·exact e
 refine ⟨⟨by rw [G7];exact I.len,I.std.filter _,fun r hr=>?_,hc',fun X hX r hx=>?_,⟨rk,hR hc',rfl⟩,fun r a j e=>?_,fun r a j hr e=>?_⟩,?_⟩
 ·show r∈b.L.filter (fun r=>(aI rk2 r).isNone)↔d8 (b.L.foldl (cH rk2 b.k) b.tn) r=none
  rw [hm,pt];constructor
  ·rintro ⟨h1,h2⟩
   rw [if_pos h1,h2];exact (I.mem r hr).mp h1
  ·intro h
   split at h
   ·rename_i h1
    cases e:aI rk2 r with
    | none=>exact ⟨h1,rfl⟩
    | some j=>rw [e] at h;cases h
   ·rename_i h1
    exact absurd ((I.mem r hr).mpr h) h1
 ·show r∈b.L.filter (fun r=>(aI rk2 r).isNone)
  refine (hm r).mpr ⟨I.big X hX r hx,?_⟩
  refine hX.stays (fun r t ht=>ok.stp_lt ht) (I.big X hX) (fun r hx hl=>?_) R2 hx
  exact hX.ranked (I.big X hX) (fun r h1 h2=>List.mem_filter.mpr ⟨h1,by simpa using h2⟩) R1 hx ((hlost r).mp hl).2
 ·have e:d8 (b.L.foldl (cH rk2 b.k) b.tn) r=some (a,j):=e
  show a<b.k+1
  rw [pt] at e;split at e
  ·cases e2:aI rk2 r with
   | none=>rw [e2] at e;have:=I.tk r a j e;omega
   | some i=>rw [e2] at e;cases e;omega
  ·have:=I.tk r a j e;omega
 ·have e:d8 (b.L.foldl (cH rk2 b.k) b.tn) r=some (a,j):=e
  have old:d8 b.tn r=some (a,j)->(j=0->r∉T)/\led (!own w p r) (w.stp r) (se (b.L.foldl (cH rk2 b.k) b.tn) a j):=fun e=>by
   obtain ⟨h1,h2⟩:=I.td r a j hr e;exact ⟨h1,vQ h2 fun t _ ⟨a',b',e',h⟩=>⟨a',b',keep t _ e',h⟩⟩
  rw [pt] at e;split at e
  case isFalse=>exact old e
  rename_i hrL
  cases e2:aI rk2 r with
  | none=>rw [e2] at e;exact old e
  | some i=>
   rw [e2] at e;have e:=Option.some.inj e
   have ea:=(Prod.mk.inj e).1
   have ej:=(Prod.mk.inj e).2
   subst ea;subst ej;have out:∀t∈w.stp r,t∉b.L->se (b.L.foldl (cH rk2 b.k) b.tn) b.k i t:=fun t ht hn=>by
    have htn:=ok.stp_lt ht
    cases e3:d8 b.tn t with
    | none=>exact absurd ((I.mem t htn).mpr e3) hn
    | some v=>
     obtain ⟨a',b'⟩:=v;exact ⟨a',b',keep t _ e3,.inl (I.tk t a' b' e3)⟩
   have so:∀t,t∈b.L->∀i',aI rk2 t=some i'->d8 (b.L.foldl (cH rk2 b.k) b.tn) t=some (b.k,i'):=fun t ht i' e3=>by rw [pt,if_pos ht,e3]
   by_cases hl:r∈b.lost
   ·have h0:i=0:=by have:=R2.g r hr hl;rw [e2] at this;cases this;rfl
    subst h0;obtain ⟨_,hz⟩:=(hlost r).mp hl;refine ⟨fun _ hT=>(R1.z r hr hz).1 (List.mem_filter.mpr ⟨hrL,by simpa using hT⟩),?_⟩
    have hno:=R1.no hr hrL hz
    have good:∀t∈inn w.stp b.L r,aI rk1 t=none->se (b.L.foldl (cH rk2 b.k) b.tn) b.k 0 t:=fun t ht z=>by
     obtain ⟨h1,h2⟩:=mem_inn.mp ht;exact ⟨b.k,0,so t h2 0 (R2.g t (hL t h2) ((hlost t).mpr ⟨h2,z⟩)),.inr ⟨rfl,.inr ⟨rfl,rfl⟩⟩⟩
    cases ho:own w p r with
    | true=>
     rw [ho] at hno;refine led_f.mpr fun t ht=>?_
     by_cases h:t∈b.L
     ·have:=mem_inn.mpr ⟨ht,h⟩
      exact good t this (led_f.mp hno t this)
     ·exact out t ht h
    | false=>
     rw [ho] at hno;obtain ⟨t,ht,z⟩:=led_t.mp hno;exact led_t.mpr ⟨t,(mem_inn.mp ht).1,good t ht z⟩
   ·obtain ⟨h1,_,h3⟩:=R2.p r i hr hl e2
    refine ⟨fun z=>by omega,?_⟩
    have good:∀t∈inn w.stp b.L r,(∃i',aI rk2 t=some i'/\i'<i)->se (b.L.foldl (cH rk2 b.k) b.tn) b.k i t:=fun t ht ⟨i',z1,z2⟩=>⟨b.k,i',so t (mem_inn.mp ht).2 i' z1,.inr ⟨rfl,.inl z2⟩⟩
    cases ho:own w p r with
    | true=>
     simp only [ho,Bool.not_true] at h3
     refine led_f.mpr fun t ht=>?_
     by_cases h:t∈b.L
     ·have:=mem_inn.mpr ⟨ht,h⟩
      exact good t this (led_f.mp h3 t this)
     ·exact out t ht h
    | false=>
     simp only [ho,Bool.not_false] at h3
     obtain ⟨t,ht,z⟩:=led_t.mp h3;exact led_t.mpr ⟨t,(mem_inn.mp ht).1,good t ht z⟩
 ·obtain ⟨x,hx⟩:=exists_mem_of_ne_nil _ hne
  have hxL:=((hlost x).mp hx).1
  have h0:=R2.g x (hL x hxL) hx
  have:(b.L.filter fun r=>(aI rk2 r).isNone).length≠b.L.length:=fun e=>by
   have:=List.length_filter_eq_length_iff.mp e x hxL
   rw [h0] at this
   cases this
  have:=length_filter_le (fun r=>(aI rk2 r).isNone) b.L
  omega
noncomputable abbrev yD (w:Wd) (p:Int) (T:List Nat) (b:TS):Ev:=[some ⟨.leaf,w.enc⟩,some ⟨.leaf,.int p⟩,some ⟨.leaf,ay T⟩,some ⟨.lst .leaf,fE b.tn⟩,some ⟨.leaf,ay b.L⟩,some ⟨.leaf,.int (b.k:Int)⟩,some ⟨.leaf,ay b.lost⟩,b.x7,b.x8,none]
noncomputable abbrev yX:FS:=(cF (aQ ax (aE (bx true) (ak (ae 7) (ae 8)) (eK .none))) (ez 3 (cQ (ah (ae 5) (ah (ak (ae 7) (ae 8)) ai))) (ae 8)) aS)
noncomputable abbrev nZ:FS:=(aw (aD false 7 (aj 4 bT (ah (aj 2 bS (ah (ae 0) (ah (ae 4) ai))) (ah (av .leaf 9 (aF (ak (ae 0) (eK (.int 0)))) aG (aE iR (ae 9) (ae 1))) (ah (ae 4) (ah (ae 6) ai))))))
  (aw (dz 8 (aF (ae 4)) yX)
  (aw (fR 5 (eK (.int 1)))
  (aw (aD false 4 (av .leaf 8 (aF (ae 4)) (aQ ax (aE (bx false) (ak (ae 3) (ae 8)) (eK .none))) (ae 8)))
  (aD false 6 (aj 4 cx (ah (ae 0) (ah (ae 1) (ah (ae 2) (ah (ae 4) ai))))))))))
theorem wz {w:Wd} (ok:w.Ok) {p:Int} {T:List Nat} {b:TS} (I:TI w p T b) (hne:b.lost≠[]):∃b',nZ (yD w p T b)=.nx (yD w p T b')/\TI w p T b'/\b'.L.length<b.L.length:=by
 have lo:=ok.g.lo
 have h24:=ok.h24
 have hl:=I.std.len
 have hL:=I.std.lt
 obtain ⟨rk1,R1,el⟩:=I.los;have hlo:∀r∈b.lost,r<w.n:=fun r hr=>by rw [el] at hr;exact hL r (List.mem_filter.mp hr).1
 have hll:b.lost.length<=1000:=by rw [el];exact Nat.le_trans (length_filter_le _ _) (by omega)
 obtain ⟨rk2,e2,R2,_⟩:=CT (uY ok (L:=b.L)) (cl:=w.os.map fun d=>!rA p d) (thr:=b.L) (goal:=b.lost) (by rw [length_map];exact lo) (uZ ok hL I.c) hL (by omega) hlo hll
 rw [GC] at R2;have R2:RightG w.n (inn w.stp b.L) (fun r=>!own w p r) b.L b.lost rk2:=R2.congr fun r hr=>by
  have hr:r<w.n:=hr
  unfold own gO;rw [getD_eq_getElem?_getD,getD_eq_getElem?_getD,getElem?_map,getElem?_map,getElem?_eq_getElem (by omega)]
  rfl
 have hc':∀r∈b.L.filter (fun r=>(aI rk2 r).isNone),led (own w p r) (w.stp r) (·∈b.L.filter (fun r=>(aI rk2 r).isNone)):=fun r hr=>by
  obtain ⟨h1,h2⟩:=List.mem_filter.mp hr;exact vQ (uS hL I.c R2 h1 (by simpa using h2)) fun t _ h=>List.mem_filter.mpr ⟨h.1,by simpa using h.2⟩
 obtain ⟨rk,e3,R3⟩:=nh ok (T:=T) (I.std.filter fun r=>(aI rk2 r).isNone) hc'
 have c1:av .leaf 9 (aF (ak (ae 0) (eK (.int 0)))) aG (aE iR (ae 9) (ae 1)) (yD w p T b)=.ok ⟨.lst .leaf,lq (w.os.map fun d=>!rA p d)⟩ (yD w p T b):=by
  have:=ie (fun d:D=>d) w.os (fun d=>⟨.leaf,.bool (!rA p d)⟩) (s:=.leaf) (i:=9) (fi:=aF (ak (ae 0) (eK (.int 0)))) (fe:=aE iR (ae 9) (ae 1)) (st:=true) (Γ:=yD w p T b) (by simp [Wd.enc,bO]) (by simp) rfl (by omega) (fun d hd=>by
   rcases ok.g.o d hd with rfl | rfl<;>simp [ne_int,rA])
  rw [this];simp
 have s1:aD false 7 (aj 4 bT (ah (aj 2 bS (ah (ae 0) (ah (ae 4) ai))) (ah (av .leaf 9 (aF (ak (ae 0) (eK (.int 0)))) aG (aE iR (ae 9) (ae 1))) (ah (ae 4) (ah (ae 6) ai))))) (yD w p T b)=.nx [some ⟨.leaf,w.enc⟩,some ⟨.leaf,.int p⟩,some ⟨.leaf,ay T⟩,some ⟨.lst .leaf,fE b.tn⟩,some ⟨.leaf,ay b.L⟩,some ⟨.leaf,.int (b.k:Int)⟩,some ⟨.leaf,ay b.lost⟩,some ⟨.leaf,bj rk2⟩,b.x8,none]:=cD (bH (aC (bH (aC (aA rfl) (aC (aA rfl) aq)) (j3 ok) rfl rfl) (aC c1 (aC (aA rfl) (aC (aA rfl) aq)))) e2 rfl rfl) rfl (by simp)
 obtain ⟨y,f1,_⟩:=EG rm (cH rk2 b.k) (Inv:=fun l r=>l.length=w.n/\∀t∈r,t<w.n) (i:=8) (body:=yX)
  (G:=fun l x=>[some ⟨.leaf,w.enc⟩,some ⟨.leaf,.int p⟩,some ⟨.leaf,ay T⟩,some ⟨.lst .leaf,fE l⟩,some ⟨.leaf,ay b.L⟩,some ⟨.leaf,.int (b.k:Int)⟩,some ⟨.leaf,ay b.lost⟩,some ⟨.leaf,bj rk2⟩,x,none])
  (fun _ _=>by simp) (fun _ _ _=>by simp) (fun l r rest ⟨h1,h2⟩=>by
   have hr:=h2 r mem_cons_self
   refine ⟨?_,by rw [G4];exact h1,fun t ht=>h2 t (mem_cons_of_mem _ ht)⟩
   have a1:=eO (rk:=rk2) (t:=r) (by rw [R2.len];exact hr)
   have b1:aQ ax (aE (bx true) (ak (ae 7) (ae 8)) (eK .none)) [some ⟨.leaf,w.enc⟩,some ⟨.leaf,.int p⟩,some ⟨.leaf,ay T⟩,some ⟨.lst .leaf,fE l⟩,some ⟨.leaf,ay b.L⟩,some ⟨.leaf,.int (b.k:Int)⟩,some ⟨.leaf,ay b.lost⟩,some ⟨.leaf,bj rk2⟩,some ⟨.leaf,rm r⟩,none]=.ok (!(aI rk2 r).isNone) [some ⟨.leaf,w.enc⟩,some ⟨.leaf,.int p⟩,some ⟨.leaf,ay T⟩,some ⟨.lst .leaf,fE l⟩,some ⟨.leaf,ay b.L⟩,some ⟨.leaf,.int (b.k:Int)⟩,some ⟨.leaf,ay b.lost⟩,some ⟨.leaf,bj rk2⟩,some ⟨.leaf,rm r⟩,none]:=by simp [a1]
   refine cb b1 (fun z=>?_) (fun z=>?_)
   ·cases e:aI rk2 r with
    | none=>rw [e] at z;cases z
    | some j=>
     rw [e] at a1;rw [sJ (ds:=l.map tD) (j:=r) (k:=(r:Int)) (p:=⟨.tup [.leaf,.leaf],.tuple [.int (b.k:Int),.int (j:Int)]⟩) (s:=.leaf) rfl ?_ (aA rfl) (v7 (by rw [length_map,h1];exact hr)) rfl]
     ·simp [cH,e,List.map_set,tD]
     ·refine et (ps:=[⟨.leaf,.int (b.k:Int)⟩,⟨.leaf,.int (j:Int)⟩]) (aC (aA rfl) (aC ?_ aq)) rfl rfl
      simp [a1,oD]
   ·cases e:aI rk2 r with
    | none=>simp [cH,e]
    | some j=>rw [e] at z;cases z) b.L b.tn b.x8 ⟨I.len,hL⟩
 have f2:=eX (fi:=aF (ae 4)) (Γ:=[some ⟨.leaf,w.enc⟩,some ⟨.leaf,.int p⟩,some ⟨.leaf,ay T⟩,some ⟨.lst .leaf,fE b.tn⟩,some ⟨.leaf,ay b.L⟩,some ⟨.leaf,.int (b.k:Int)⟩,some ⟨.leaf,ay b.lost⟩,some ⟨.leaf,bj rk2⟩,b.x8,none]) (bZ (ds:=b.L.map rm) (aA rfl) rfl) f1
 obtain ⟨I',hm⟩:=I.step ok R2 hne (rk:=rk) (y7:=some ⟨.leaf,bj rk2⟩) (y8:=y) (fun _=>R3)
 refine ⟨_,?_,I',hm⟩
 have hmem:∀r∈b.L,d8 (b.L.foldl (cH rk2 b.k) b.tn) r=(match aI rk2 r with | some j=>some (b.k,j) | none=>none):=fun r hr=>by
  rw [GK _ _ (fun r hr=>by rw [I.len];exact hL r hr) (I.std.sorted.imp fun h=>by omega),if_pos hr]
  cases aI rk2 r with
  | none=>exact (I.mem r (hL r hr)).mp hr
  | some j=>rfl
 have ag:fR 5 (eK (.int 1)) [some ⟨.leaf,w.enc⟩,some ⟨.leaf,.int p⟩,some ⟨.leaf,ay T⟩,some ⟨.lst .leaf,fE (b.L.foldl (cH rk2 b.k) b.tn)⟩,some ⟨.leaf,ay b.L⟩,some ⟨.leaf,.int (b.k:Int)⟩,some ⟨.leaf,ay b.lost⟩,some ⟨.leaf,bj rk2⟩,y,none]=.nx [some ⟨.leaf,w.enc⟩,some ⟨.leaf,.int p⟩,some ⟨.leaf,ay T⟩,some ⟨.lst .leaf,fE (b.L.foldl (cH rk2 b.k) b.tn)⟩,some ⟨.leaf,ay b.L⟩,some ⟨.leaf,.int ((b.k+1:Nat):Int)⟩,some ⟨.leaf,ay b.lost⟩,some ⟨.leaf,bj rk2⟩,y,none]:=by simp
 have c4:av .leaf 8 (aF (ae 4)) (aQ ax (aE (bx false) (ak (ae 3) (ae 8)) (eK .none))) (ae 8) [some ⟨.leaf,w.enc⟩,some ⟨.leaf,.int p⟩,some ⟨.leaf,ay T⟩,some ⟨.lst .leaf,fE (b.L.foldl (cH rk2 b.k) b.tn)⟩,some ⟨.leaf,ay b.L⟩,some ⟨.leaf,.int ((b.k+1:Nat):Int)⟩,some ⟨.leaf,ay b.lost⟩,some ⟨.leaf,bj rk2⟩,y,none]=.ok ⟨.lst .leaf,.list ((b.L.filter fun r=>(aI rk2 r).isNone).map fun t=>rm t)⟩ [some ⟨.leaf,w.enc⟩,some ⟨.leaf,.int p⟩,some ⟨.leaf,ay T⟩,some ⟨.lst .leaf,fE (b.L.foldl (cH rk2 b.k) b.tn)⟩,some ⟨.leaf,ay b.L⟩,some ⟨.leaf,.int ((b.k+1:Nat):Int)⟩,some ⟨.leaf,ay b.lost⟩,some ⟨.leaf,bj rk2⟩,y,none]:=by
  refine nR rm b.L (fun r=>(aI rk2 r).isNone) (fun t=>⟨.leaf,rm t⟩) (st:=true) (by simp) (by simp) rfl (by omega) (fun t ht=>?_) (fun t ht _=>?_)
  ·have a1:=vy (tn:=b.L.foldl (cH rk2 b.k) b.tn) (t:=t) (by rw [G7,I.len];exact hL t ht)
   have:(d8 (b.L.foldl (cH rk2 b.k) b.tn) t).isNone=(aI rk2 t).isNone:=by
    rw [hmem t ht]
    cases aI rk2 t<;>rfl
   simp [a1,this]
  ·simp
 exact az s1 (az f2 (az ag (az (cD c4 rfl (by simp)) (cD (bH (aC (aA rfl) (aC (aA rfl) (aC (aA rfl) (aC (aA rfl) aq)))) e3 rfl rfl) rfl (by simp)))))
structure sf (w:Wd) (p:Int) (T:List Nat) (tn:List (Option (Nat×Nat))) (L:List Nat):Prop where
 len:tn.length=w.n
 std:Std w.n L
 mem:∀r,r<w.n->(r∈L↔d8 tn r=none)
 c:∀r∈L,led (own w p r) (w.stp r) (·∈L)
 suff:Suff w.n w.stp (own w p) (·∈T) (·∈L)
 big:∀X,Suff w.n w.stp (own w p) (·∈T) X->∀r,X r->r∈L
 td:∀r a j,r<w.n->d8 tn r=some (a,j)->(j=0->r∉T)/\led (!own w p r) (w.stp r) (se tn a j)
theorem rJ {w:Wd} (ok:w.Ok) {p:Int} {T:List Nat} (hT:Std w.n T):∃tn L,cI [w.enc,.int p,ay T]=.ok ⟨.tup [.lst .leaf,.leaf],.tuple [fE tn,ay L]⟩/\sf w p T tn L:=by
 have lo:=ok.g.lo
 have h24:=ok.h24
 have z:∀r,d8 (w.os.map fun _=>none) r=none:=fun r=>by
  unfold d8;rw [getD_eq_getElem?_getD,getElem?_map]
  cases w.os[r]?<;>rfl
 have hc:∀r∈List.range w.n,led (own w p r) (w.stp r) (·∈List.range w.n):=fun r hr=>by
  have hr:=List.mem_range.mp hr
  cases own w p r with
  | true=>
   obtain ⟨t,ht⟩:=exists_mem_of_ne_nil _ (ok.stp_ne hr);exact led_t.mpr ⟨t,ht,List.mem_range.mpr (ok.stp_lt ht)⟩
  | false=>exact led_f.mpr fun t ht=>List.mem_range.mpr (ok.stp_lt ht)
 obtain ⟨rk,e0,R0⟩:=nh ok (T:=T) (L:=List.range w.n) Std.range hc
 have i0:TI w p T ⟨w.os.map fun _=>none,List.range w.n,0,lst rk (List.range w.n),none,none⟩:=by
  refine ⟨by simp [lo],Std.range,fun r hr=>⟨fun _=>z r,fun _=>List.mem_range.mpr hr⟩,hc,fun X hX r hx=>List.mem_range.mpr (hX.lt r hx),⟨rk,R0,rfl⟩,fun r a j e=>?_,fun r a j _ e=>?_⟩
  ·have e:d8 (w.os.map fun _=>none) r=some (a,j):=e
   rw [z] at e;cases e
  ·have e:d8 (w.os.map fun _=>none) r=some (a,j):=e
   rw [z] at e;cases e
 obtain ⟨b,e,I,hf⟩:=Ct (c:=aQ bF (ae 6)) (g:=nZ) (G:=yD w p T) (test:=fun b=>!b.lost.isEmpty) (Inv:=TI w p T) (meas:=fun b=>b.L.length) (fun b I=>by simp) (fun b I hb=>wz ok I (by intro z;rw [z] at hb;simp at hb)) 1000 _ i0 (by
  show (List.range w.n).length<1000
  simp
  omega)
 have hf:b.lost=[]:=by simpa using hf
 obtain ⟨rk1,R1,el⟩:=I.los;have hall:∀r∈b.L,aI rk1 r≠none:=fun r hr hz=>by
  have:r∈b.lost:=by rw [el];exact List.mem_filter.mpr ⟨hr,by simp [hz]⟩
  rw [hf] at this;simp at this
 refine ⟨b.tn,b.L,?_,I.len,I.std,I.mem,I.c,wF (fun r t ht=>ok.stp_lt ht) I.std.lt I.c (fun r=>by simp [gl]) R1 hall,I.big,I.td⟩
 have co:av .leaf 9 (aF (ak (ae 0) (eK (.int 0)))) aG (eK .none) (aN 10 [w.enc,.int p,ay T])=.ok ⟨.lst .leaf,fE (w.os.map fun _=>none)⟩ (aN 10 [w.enc,.int p,ay T]):=by
  have:=ie (fun d:D=>d) w.os (fun _=>⟨.leaf,.none⟩) (s:=.leaf) (i:=9) (fi:=aF (ak (ae 0) (eK (.int 0)))) (fe:=eK .none) (st:=true) (Γ:=aN 10 [w.enc,.int p,ay T]) (by simp [aN,Wd.enc,bO]) (by simp [aN]) rfl (by omega) (fun x hx=>by simp)
  rw [this];unfold fE;rw [map_map];rfl
 have lr:=Ec ok (Γ:=[some ⟨.leaf,w.enc⟩,some ⟨.leaf,.int p⟩,some ⟨.leaf,ay T⟩,some ⟨.lst .leaf,fE (w.os.map fun _=>none)⟩,none,none,none,none,none,none]) rfl
 have wh:nU 1000 (aQ bF (ae 6)) nZ (yD w p T ⟨w.os.map fun _=>none,List.range w.n,0,lst rk (List.range w.n),none,none⟩)=.nx (yD w p T b):=by
  unfold nU;rw [e]
 refine aT (az (yL co rfl (by simp [aN])) (az (cD lr rfl (by simp [aN])) (az (cD bt rfl (by simp [aN])) (az (cD (bH (aC (aA rfl) (aC (aA rfl) (aC (aA rfl) (aC (aA rfl) aq)))) e0 rfl rfl) rfl (by simp [aN])) (az wh (ba (et (aC (zG (p:=⟨.lst .leaf,fE b.tn⟩) rfl) (aC (aA rfl) aq)) rfl rfl) rfl))))))
noncomputable def zh (rk:List (Option Nat)) (h t:Nat):Bool:=if aI rk h=some 0 then !(aI rk t).isNone else iJ (aI rk t) (aI rk h)
theorem kU {rk:List (Option Nat)} {h t:Nat} (hh:h<rk.length) (ht:t<rk.length):dM [bj rk,rm h,rm t]=.ok ⟨.leaf,.bool (zh rk h t)⟩:=by
 have a1:=eO (rk:=rk) hh
 have a2:=eO (rk:=rk) ht
 have dl:=j0 (a:=aI rk t) (b:=aI rk h)
 have e:∀o:Option Nat,cV (oD o) (.int 0)=some (.bool (decide (o=some 0))):=fun o=>by
  cases o with
  | none=>kernel_rfl
  | some k=>
   show cV (.int (k:Int)) (.int 0)=_
   rw [eq_int];congr 2
   rw [Bool.eq_iff_iff];simp
 refine aT ?_
 unfold zh;by_cases q:aI rk h=some 0
 ·simp [fI,aN,a1,a2,e,q]
 ·simp [fI,aN,a1,a2,e,q,dl]
theorem v_or {Γ:Ev} {fa fb:F1} {s:Sh} {a b:Bool} (ha:fa Γ=.ok ⟨s,.bool a⟩ Γ) (hb:fb Γ=.ok ⟨.leaf,.bool b⟩ Γ):DP fa fb Γ=.ok ⟨.leaf,.bool (a||b)⟩ Γ:=by
 unfold DP aW;rw [ha]
 cases a with
 | true=>cases s<;>rfl
 | false=>exact hb
noncomputable def FU (tn:List (Option (Nat×Nat))) (h t:Nat):Bool:=match d8 tn h,d8 tn t with
 | some (a,b),some (a',b')=>if a=a' then decide (b'<b)||(decide (b=0)&&decide (b'=0)) else decide (a'<a)
 | _,_=>false
theorem iV {tn:List (Option (Nat×Nat))} {h t:Nat} (hh:h<tn.length) (ht:t<tn.length):cW [fE tn,rm h,rm t]=.ok ⟨.leaf,.bool (FU tn h t)⟩:=by
 have a1:=vy (tn:=tn) hh
 have a2:=vy (tn:=tn) ht
 refine aT ?_
 unfold FU
 cases e1:d8 tn h with
 | none=>rw [e1] at a1;simp [dU,aN,a1,a2]
 | some v=>
  obtain ⟨a,b⟩:=v
  cases e2:d8 tn t with
  | none=>rw [e1] at a1;rw [e2] at a2;simp [dU,aN,a1,a2]
  | some u=>
   obtain ⟨a',b'⟩:=u;rw [e1] at a1;rw [e2] at a2;simp only [tD] at a1 a2
   have g1:∀x y:Nat,iR (.int (x:Int)) (.int (y:Int))=some (.bool (!decide (x=y))):=fun x y=>by
    rw [ne_int];congr 3
    rw [Bool.eq_iff_iff];simp
    omega
   have g2:∀x:Nat,cV (.int (x:Int)) (.int 0)=some (.bool (decide (x=0))):=fun x=>by
    rw [eq_int];congr 2
    rw [Bool.eq_iff_iff];simp
   have g3:∀x y:Nat,ia (.int (x:Int)) (.int (y:Int))=some (.bool (decide (x<y))):=fun x y=>by
    rw [lt_int];congr 2
    rw [Bool.eq_iff_iff];simp
   have s1:aD false 3 (ak (ae 0) (ae 1)) (aN 5 [fE tn,rm h,rm t])=.nx [some ⟨.leaf,fE tn⟩,some ⟨.leaf,rm h⟩,some ⟨.leaf,rm t⟩,some ⟨.leaf,.tuple [.int (a:Int),.int (b:Int)]⟩,none]:=by simp [aN,a1]
   have s2:aD false 4 (ak (ae 0) (ae 2)) [some ⟨.leaf,fE tn⟩,some ⟨.leaf,rm h⟩,some ⟨.leaf,rm t⟩,some ⟨.leaf,.tuple [.int (a:Int),.int (b:Int)]⟩,none]=.nx [some ⟨.leaf,fE tn⟩,some ⟨.leaf,rm h⟩,some ⟨.leaf,rm t⟩,some ⟨.leaf,.tuple [.int (a:Int),.int (b:Int)]⟩,some ⟨.leaf,.tuple [.int (a':Int),.int (b':Int)]⟩]:=by simp [a2]
   refine az s1 (az s2 (az (cb (t:=false) (r9 (a:=false) (b:=false) (gR (s:=.leaf) (aY (aA rfl) bt rfl)) (gR (s:=.leaf) (aY (aA rfl) bt rfl))) nofun (fun _=>rfl)) ?_))
   have t1:aQ ax (aE iR (ak (ae 3) (eK (.int 0))) (ak (ae 4) (eK (.int 0)))) [some ⟨.leaf,fE tn⟩,some ⟨.leaf,rm h⟩,some ⟨.leaf,rm t⟩,some ⟨.leaf,.tuple [.int (a:Int),.int (b:Int)]⟩,some ⟨.leaf,.tuple [.int (a':Int),.int (b':Int)]⟩]=.ok (!decide (a=a')) [some ⟨.leaf,fE tn⟩,some ⟨.leaf,rm h⟩,some ⟨.leaf,rm t⟩,some ⟨.leaf,.tuple [.int (a:Int),.int (b:Int)]⟩,some ⟨.leaf,.tuple [.int (a':Int),.int (b':Int)]⟩]:=by simp [g1]
   by_cases q:a=a'
   ·dsimp only
    rw [if_pos q];rw [decide_eq_true q] at t1;refine az (cb t1 nofun (fun _=>rfl)) (ba (v_or (s:=.leaf) (aY (h9 (j:=1) (aA rfl) bt rfl rfl rfl) (h9 (j:=1) (aA rfl) bt rfl rfl rfl) (g3 _ _)) (v_and (s:=.leaf) (aY (h9 (j:=1) (aA rfl) bt rfl rfl rfl) bt (g2 _)) (aY (h9 (j:=1) (aA rfl) bt rfl rfl rfl) bt (g2 _)))) rfl)
   ·dsimp only
    rw [if_neg q];rw [decide_eq_false q] at t1;refine yK (cb t1 (fun _=>ba (aY (h9 (j:=0) (aA rfl) bt rfl rfl rfl) (h9 (j:=0) (aA rfl) bt rfl rfl rfl) (g3 _ _)) rfl) nofun)
noncomputable def fG (w:Wd) (rk:List (Option Nat)) (r:Nat):List Nat:=(w.stp r).filter fun t=>zh rk r t
noncomputable def FT (w:Wd) (tn:List (Option (Nat×Nat))) (r:Nat):List Nat:=(w.stp r).filter fun t=>FU tn r t
theorem rO {w:Wd} (ok:w.Ok) {p:Int} (hp:p=0\/p=1) {T:List Nat} (hT:Std w.n T):∃rk tn L,kP [w.enc,.int p,ay T]=.ok ⟨.tup [.leaf,.lst .leaf,.leaf,.lst .leaf],.tuple [bj rk,bj (aM w p (fG w rk)),fE tn,bj (aM w (1-p) (FT w tn))]⟩/\sf w p T tn L/\RightG w.n (inn w.stp L) (own w p) L (gl T L) rk:=by
 have h24:=ok.h24
 have c1:=eG ok hp hT
 obtain ⟨tn,L,e1,A⟩:=rJ ok (p:=p) hT
 obtain ⟨rk,e2,R⟩:=j4 ok (T:=T) A.std A.c
 refine ⟨rk,tn,L,?_,A,R⟩
 have p1:=E9 ok (p:=p) (sd:=fG w rk)
 have p2:=E9 ok (p:=1-p) (sd:=FT w tn)
 have o1:=dG (p:=p)
 have k1:ic .leaf 9 10 (ak (ae 0) (eK (.int 2))) aG (av .leaf 8 (aF (ae 10)) (aQ bF (aj 3 dM (ah (ae 5) (ah (ae 9) (ah (ae 8) ai))))) (ae 8)) [some ⟨.leaf,w.enc⟩,some ⟨.leaf,.int p⟩,some ⟨.leaf,ay T⟩,some ⟨.leaf,.tuple [fE tn,ay L]⟩,some ⟨.leaf,fE tn⟩,some ⟨.leaf,bj rk⟩,none,none,none,none,none]=.ok ⟨.lst .leaf,.list ((List.range w.n).map fun r=>ay (fG w rk r))⟩ [some ⟨.leaf,w.enc⟩,some ⟨.leaf,.int p⟩,some ⟨.leaf,ay T⟩,some ⟨.leaf,.tuple [fE tn,ay L]⟩,some ⟨.leaf,fE tn⟩,some ⟨.leaf,bj rk⟩,none,none,none,none,none]:=by
  refine EW (fun r=>ay (w.stp r)) w.n (fun r=>⟨.lst .leaf,ay (fG w rk r)⟩) (st:=true) ?_ rfl rfl (by omega) rfl (by omega) (fun r hr=>⟨?_,rfl⟩)
  ·simp [Wd.enc,bO,ok.z.s_range]
  ·refine nR rm (w.stp r) (fun t=>zh rk r t) (fun t=>⟨.leaf,rm t⟩) (st:=true) (by simp [Γ2]) (by simp [Γ2]) rfl ok.z.len (fun t ht=>?_) (fun t ht _=>?_)
   ·have:=kU (rk:=rk) (h:=r) (t:=t) (by rw [R.len];exact hr) (by rw [R.len];exact ok.stp_lt ht)
    simp [Γ2,this]
   ·simp [Γ2]
 have k2:ic .leaf 9 10 (ak (ae 0) (eK (.int 2))) aG (av .leaf 8 (aF (ae 10)) (aQ bF (aj 3 cW (ah (ae 4) (ah (ae 9) (ah (ae 8) ai))))) (ae 8)) [some ⟨.leaf,w.enc⟩,some ⟨.leaf,.int p⟩,some ⟨.leaf,ay T⟩,some ⟨.leaf,.tuple [fE tn,ay L]⟩,some ⟨.leaf,fE tn⟩,some ⟨.leaf,bj rk⟩,some ⟨.leaf,.list ((List.range w.n).map fun r=>ay (fG w rk r))⟩,none,none,none,none]=.ok ⟨.lst .leaf,.list ((List.range w.n).map fun r=>ay (FT w tn r))⟩ [some ⟨.leaf,w.enc⟩,some ⟨.leaf,.int p⟩,some ⟨.leaf,ay T⟩,some ⟨.leaf,.tuple [fE tn,ay L]⟩,some ⟨.leaf,fE tn⟩,some ⟨.leaf,bj rk⟩,some ⟨.leaf,.list ((List.range w.n).map fun r=>ay (fG w rk r))⟩,none,none,none,none]:=by
  refine EW (fun r=>ay (w.stp r)) w.n (fun r=>⟨.lst .leaf,ay (FT w tn r)⟩) (st:=true) ?_ rfl rfl (by omega) rfl (by omega) (fun r hr=>⟨?_,rfl⟩)
  ·simp [Wd.enc,bO,ok.z.s_range]
  ·refine nR rm (w.stp r) (fun t=>FU tn r t) (fun t=>⟨.leaf,rm t⟩) (st:=true) (by simp [Γ2]) (by simp [Γ2]) rfl ok.z.len (fun t ht=>?_) (fun t ht _=>?_)
   ·have:=iV (tn:=tn) (h:=r) (t:=t) (by rw [A.len];exact hr) (by rw [A.len];exact ok.stp_lt ht)
    simp [Γ2,this]
   ·simp [Γ2]
 refine aT (az (o8 (bH (aC (aA rfl) (aC (aA rfl) (aC (aA rfl) aq))) c1 rfl rfl)) (az (cD (bH (aC (aA rfl) (aC (aA rfl) (aC (aA rfl) aq))) e1 rfl rfl) rfl (by simp [aN])) (az (cD (h9 (j:=0) (aA rfl) bt rfl rfl rfl) rfl (by simp [aN])) (az (cD (bH (aC (aA rfl) (aC (aA rfl) (aC (aA rfl) (aC (h9 (j:=1) (aA rfl) bt rfl rfl rfl) aq)))) e2 rfl rfl) rfl (by simp [aN])) (az (cD k1 rfl (by simp [aN])) (az (cD k2 rfl (by simp [aN])) (ba (et (aC (aA rfl) (aC (bH (aC (aA rfl) (aC (aA rfl) (aC (aA rfl) aq))) p1 rfl rfl) (aC (aA rfl) (aC (bH (aC (aA rfl) (aC (bH (aC (aA rfl) aq) o1 rfl rfl) (aC (aA rfl) aq))) p2 rfl rfl) aq)))) rfl rfl) rfl)))))))
theorem Hv {w:Wd} (ok:w.Ok) {p:Int} {T L:List Nat} {tn:List (Option (Nat×Nat))} {rk:List (Option Nat)} (A:sf w p T tn L) (R:RightG w.n (inn w.stp L) (own w p) L (gl T L) rk):BJ w.n rk=L:=by
 refine Std.ext (Std.of _) A.std fun r hr=>?_
 rw [mem_hasR];constructor
 ·rintro ⟨_,h⟩
  obtain ⟨k,hk⟩:=Option.ne_none_iff_exists'.mp h
  by_cases hg:r∈gl T L
  ·exact (List.mem_filter.mp hg).1
  ·exact (R.p r k hr hg hk).2.1
 ·intro h
  exact ⟨hr,A.suff.ranked (fun r h=>h) (fun r h1 h2=>List.mem_filter.mpr ⟨h1,by simpa using h2⟩) R h⟩
noncomputable abbrev rj (w:Wd) (c:Str) (r:Nat):Prop:=c∈w.mks r
noncomputable abbrev gm (w:Wd) (c:Str) (L:List Nat):List Nat:=L.filter fun r=>(w.mks r).contains c
theorem m9 {w:Wd} (ok:w.Ok) {c:Str} (hcl:c∈bz) {L:List Nat} (hs:Std w.n L) :
  ∃rk,bP [w.enc,ay L,.str c]=.ok ⟨.lst .leaf,bj rk⟩/\RightG w.n w.stp (fun _=>true) L (gm w c L) rk:=by
 have lo:=ok.g.lo
 have h24:=ok.h24
 have hl:=hs.len
 have hgl:(gm w c L).length<=1000:=Nat.le_trans (length_filter_le _ _) (by omega)
 obtain ⟨rk,e,Rt,_⟩:=CT ok.z (cl:=w.os.map fun _=>true) (thr:=L) (goal:=gm w c L) (by rw [length_map];exact lo) (fun r hr=>ok.stp_ne (hs.lt r hr)) hs.lt (by omega) (fun r hr=>hs.lt r (List.mem_filter.mp hr).1) hgl
 have Rt:=Rt.congr (ch':=fun _=>true) fun r hr=>by
  unfold gO;rw [getD_eq_getElem?_getD,getElem?_map,getElem?_eq_getElem (by omega)]
  rfl
 refine ⟨rk,?_,Rt⟩
 have c1:av .leaf 3 (aF (ak (ae 0) (eK (.int 0)))) aG (eK (.bool true)) (aN 4 [w.enc,ay L,ay (gm w c L)])=.ok ⟨.lst .leaf,lq (w.os.map fun _=>true)⟩ (aN 4 [w.enc,ay L,ay (gm w c L)]):=by
  have:=ie (fun d:D=>d) w.os (fun d=>⟨.leaf,.bool true⟩) (s:=.leaf) (i:=3) (fi:=aF (ak (ae 0) (eK (.int 0)))) (fe:=eK (.bool true)) (st:=true) (Γ:=aN 4 [w.enc,ay L,ay (gm w c L)]) (by simp [aN,Wd.enc,bO]) (by simp [aN]) rfl (by omega) (fun d hd=>by simp)
  rw [this];simp
 have st:di [w.enc,ay L,ay (gm w c L)]=.ok ⟨.lst .leaf,bj rk⟩:=aT (ba (bH (aC (aA rfl) (aC c1 (aC (aA rfl) (aC (aA rfl) aq)))) e rfl rfl) rfl)
 have c2:av .leaf 3 (aF (ae 1)) (aQ ax (aE (bG false) (ae 2) (ak (ak (ae 0) (eK (.int 1))) (ae 3)))) (ae 3) (aN 4 [w.enc,ay L,.str c])=.ok ⟨.lst .leaf,.list ((gm w c L).map fun t=>rm t)⟩ (aN 4 [w.enc,ay L,.str c]):=by
  refine nR rm L (fun r=>(w.mks r).contains c) (fun t=>⟨.leaf,rm t⟩) (st:=true) (by simp [aN]) (by simp [aN]) rfl (by omega) (fun t ht=>?_) (fun t ht _=>?_)
  ·have a1:=ok.at1 (hs.lt t ht)
   simp [aN,Wd.enc,bO,a1,Gf (CJ hcl).1 (Gh ok t)]
  ·simp [aN]
 exact aT (ba (bH (aC (aA rfl) (aC (aA rfl) (aC c2 aq))) st rfl rfl) rfl)
structure vJ (w:Wd) (M:List Str) (L off:List Nat):Prop where
 ne:off≠[]
 sub:∀r∈off,r∈L
 no:∀(R:Nat->Prop) X,Fr w.n w.stp R M (rj w) X->(∀r,X r->r∈L)->∀r∈off,¬X r
structure nN (w:Wd) (M:List Str) (L:List Nat):Prop where
 c:∀r∈L,∃t∈w.stp r,t∈L
 a:∀m∈M,∀S:Nat->Prop,(∀r,r∈L->rj w m r->S r)->(∀r,r∈L->(∃t∈w.stp r,t∈L/\S t)->S r)->∀r,r∈L->S r
noncomputable abbrev lz (w:Wd) (M:List Str) (L:List Nat) (x4 x5 x6:Option PV):Ev:=[some ⟨.leaf,w.enc⟩,some ⟨.leaf,ay L⟩,some ⟨.leaf,bX M⟩,some ⟨.leaf,ay []⟩,x4,x5,x6,none,none]
noncomputable abbrev eA:FS:=(aw (aD false 5 (aj 3 bP (ah (ae 0) (ah (ae 1) (ah (ae 4) ai)))))
  (aw (aD false 6 (av .leaf 7 (aF (ae 1)) (aQ ax (aE (bx false) (ak (ae 5) (ae 7)) (eK .none))) (ae 7)))
  (cF (aQ bF (ae 6)) (aP (cQ (ah (ae 6) (ah (ae 4) ai)))) aS)))
theorem wO {w:Wd} (ok:w.Ok) {M:List Str} {L:List Nat} (hs:Std w.n L) {c:Str} (hcl:c∈bz) (x5 x6:Option PV):∃rk,RightG w.n w.stp (fun _=>true) L (gm w c L) rk /\
  ((L.filter (fun r=>(aI rk r).isNone)=[]/\∃y5 y6,eA (lz w M L (some ⟨.leaf,.str c⟩) x5 x6)=.nx (lz w M L (some ⟨.leaf,.str c⟩) y5 y6)) \/
   (L.filter (fun r=>(aI rk r).isNone)≠[]/\eA (lz w M L (some ⟨.leaf,.str c⟩) x5 x6)=.rt ⟨.tup [.leaf,.leaf],.tuple [ay (L.filter fun r=>(aI rk r).isNone),.str c]⟩)):=by
 have h24:=ok.h24
 have hl:=hs.len
 obtain ⟨rk,e,R⟩:=m9 ok hcl hs;refine ⟨rk,R,?_⟩
 have c0:av .leaf 7 (aF (ae 1)) (aQ ax (aE (bx false) (ak (ae 5) (ae 7)) (eK .none))) (ae 7) (lz w M L (some ⟨.leaf,.str c⟩) (some ⟨.leaf,bj rk⟩) x6)=.ok ⟨.lst .leaf,.list ((L.filter fun r=>(aI rk r).isNone).map fun t=>rm t)⟩ (lz w M L (some ⟨.leaf,.str c⟩) (some ⟨.leaf,bj rk⟩) x6):=by
  refine nR rm L (fun r=>(aI rk r).isNone) (fun t=>⟨.leaf,rm t⟩) (st:=true) (by simp) (by simp) rfl (by omega) (fun t ht=>?_) (fun t ht _=>?_)
  ·have a1:=eO (rk:=rk) (t:=t) (by rw [R.len];exact hs.lt t ht)
   simp [a1]
  ·simp
 have s1:aD false 5 (aj 3 bP (ah (ae 0) (ah (ae 1) (ah (ae 4) ai)))) (lz w M L (some ⟨.leaf,.str c⟩) x5 x6)=.nx (lz w M L (some ⟨.leaf,.str c⟩) (some ⟨.leaf,bj rk⟩) x6):=cD (bH (aC (aA rfl) (aC (aA rfl) (aC (aA rfl) aq))) e rfl rfl) rfl (by simp)
 have s2:aD false 6 (av .leaf 7 (aF (ae 1)) (aQ ax (aE (bx false) (ak (ae 5) (ae 7)) (eK .none))) (ae 7)) (lz w M L (some ⟨.leaf,.str c⟩) (some ⟨.leaf,bj rk⟩) x6)=.nx (lz w M L (some ⟨.leaf,.str c⟩) (some ⟨.leaf,bj rk⟩) (some ⟨.leaf,ay (L.filter fun r=>(aI rk r).isNone)⟩)):=cD c0 rfl (by simp)
 by_cases q:L.filter (fun r=>(aI rk r).isNone)=[]
 ·refine .inl ⟨q,some ⟨.leaf,bj rk⟩,some ⟨.leaf,ay (L.filter fun r=>(aI rk r).isNone)⟩,az s1 (az s2 ?_)⟩
  rw [q];simp
 ·refine .inr ⟨q,az s1 (az s2 ?_)⟩
  generalize L.filter (fun r=>(aI rk r).isNone)=F at q
  cases F with
  | nil=>exact absurd rfl q
  | cons a r=>simp [wx]
theorem tN {w:Wd} (ok:w.Ok) {M0:List Str} {L:List Nat} (hs:Std w.n L):∀(M:List Str),(∀c∈M,c∈bz)->∀(x4 x5 x6:Option PV),
  ((∃y4 y5 y6,b9 4 eA (M.map .str) (lz w M0 L x4 x5 x6)=.nx (lz w M0 L y4 y5 y6))/\∀c∈M,∃rk,RightG w.n w.stp (fun _=>true) L (gm w c L) rk/\∀r∈L,aI rk r≠none) \/
  (∃c∈M,∃rk,RightG w.n w.stp (fun _=>true) L (gm w c L) rk/\L.filter (fun r=>(aI rk r).isNone)≠[]/\b9 4 eA (M.map .str) (lz w M0 L x4 x5 x6)=.rt ⟨.tup [.leaf,.leaf],.tuple [ay (L.filter fun r=>(aI rk r).isNone),.str c]⟩)
 | [],_,x4,x5,x6=>.inl ⟨⟨x4,x5,x6,rfl⟩,by simp⟩
 | c::M,h,x4,x5,x6=>by
  obtain ⟨rk,R,q⟩:=wO ok (M:=M0) hs (h c mem_cons_self) x5 x6
  have fg:∀o,eA (lz w M0 L (some ⟨.leaf,.str c⟩) x5 x6)=o->b9 4 eA ((c::M).map .str) (lz w M0 L x4 x5 x6)=(match o with | .nx Γ1=>b9 4 eA (M.map .str) Γ1 | .ct Γ1=>b9 4 eA (M.map .str) Γ1 | .bk Γ1=>.nx Γ1 | .rt p=>.rt p | .er a b=>.er a b | .no=>.no):=fun o ho=>by
   rw [map_cons,b9,if_pos (by simp)]
   have:(lz w M0 L x4 x5 x6).set 4 (some ⟨.leaf,.str c⟩)=lz w M0 L (some ⟨.leaf,.str c⟩) x5 x6:=rfl
   rw [this,ho];all_goals (cases o<;>rfl)
  rcases q with ⟨q,y5,y6,e⟩ | ⟨q,e⟩
  ·have hall:∀r∈L,aI rk r≠none:=fun r hr hz=>by
    have:r∈L.filter (fun r=>(aI rk r).isNone):=List.mem_filter.mpr ⟨hr,by simp [hz]⟩
    rw [q] at this;simp at this
   rcases tN ok (M0:=M0) hs M (fun d hd=>h d (mem_cons_of_mem _ hd)) (some ⟨.leaf,.str c⟩) y5 y6 with ⟨⟨z4,z5,z6,e2⟩,h2⟩ | ⟨d,hd,rk',R',q',e2⟩
   ·refine .inl ⟨⟨z4,z5,z6,?_⟩,fun d hd=>?_⟩
    ·rw [fg _ e];exact e2
    ·rcases List.mem_cons.mp hd with rfl | hd
     ·exact ⟨rk,R,hall⟩
     ·exact h2 d hd
   ·refine .inr ⟨d,mem_cons_of_mem _ hd,rk',R',q',?_⟩
    rw [fg _ e];exact e2
  ·refine .inr ⟨c,mem_cons_self,rk,R,q,?_⟩
   rw [fg _ e]
theorem Cc {l L:List Nat}:b8 true [.list (l.map fun t=>PyData.bool (L.contains t))]=some (.bool (l.any fun t=>L.contains t)):=by
 have:=Gz (bs:=l.map fun t=>L.contains t)
 rw [map_map] at this;refine this.trans ?_
 rw [List.any_map];rfl
theorem nc {w:Wd} (ok:w.Ok) {M:List Str} (hM:∀c∈M,c∈bz) {L:List Nat} (hs:Std w.n L) :
  (cJ [w.enc,ay L,bX M]=.ok ⟨.leaf,.none⟩/\nN w M L)\/(∃off o,cJ [w.enc,ay L,bX M]=.ok ⟨.tup [.leaf,.leaf],.tuple [ay off,o]⟩/\vJ w M L off):=by
 have h24:=ok.h24
 have hl:=hs.len
 have e1:av .leaf 7 (aF (ae 1)) (dr (aQ bF (bM (b8 true) (ah (av .leaf 8 (aF (ak (ak (ae 0) (eK (.int 2))) (ae 7))) aG (aE (bG false) (ae 8) (ae 1))) ai)))) (ae 7) (aN 9 [w.enc,ay L,bX M])=.ok ⟨.lst .leaf,.list ((L.filter fun r=>!(w.stp r).any fun t=>L.contains t).map fun t=>rm t)⟩ (aN 9 [w.enc,ay L,bX M]):=by
  refine nR rm L (fun r=>!(w.stp r).any fun t=>L.contains t) (fun t=>⟨.leaf,rm t⟩) (st:=true) (by simp [aN]) (by simp [aN]) rfl (by omega) (fun r hr=>?_) (fun t ht _=>?_)
  ·have a2:=ok.at2 (hs.lt r hr)
   have c2:av .leaf 8 (aF (ak (ak (ae 0) (eK (.int 2))) (ae 7))) aG (aE (bG false) (ae 8) (ae 1)) ((aN 9 [w.enc,ay L,bX M]).set 7 (some ⟨.leaf,rm r⟩))=.ok ⟨.lst .leaf,.list ((w.stp r).map fun t=>.bool (L.contains t))⟩ ((aN 9 [w.enc,ay L,bX M]).set 7 (some ⟨.leaf,rm r⟩)):=by
    refine ie rm (w.stp r) (fun t=>⟨.leaf,.bool (L.contains t)⟩) (st:=true) (by simp [aN,Wd.enc,bO,a2]) (by simp [aN]) rfl ok.z.len (fun t ht=>⟨?_,rfl⟩)
    exact aY (aA rfl) (aA rfl) vZ
   exact gP (kc (s:=.leaf) (dg (aC c2 aq) Cc))
  ·simp [aN]
 by_cases q:(L.filter fun r=>!(w.stp r).any fun t=>L.contains t)=[]
 ·rw [q] at e1
  have hc:∀r∈L,∃t∈w.stp r,t∈L:=fun r hr=>by
   have:=List.filter_eq_nil_iff.mp q r hr
   simpa using this
  have s1:aD false 3 _ (aN 9 [w.enc,ay L,bX M])=.nx (lz w M L none none none):=cD e1 rfl (by simp [aN])
  have s2:cF (aQ bF (ae 3)) (aP (cQ (ah (ae 3) (ah (eK .none) ai)))) aS (lz w M L none none none)=.nx (lz w M L none none none):=by simp
  rcases tN ok (M0:=M) hs M hM none none none with ⟨⟨z4,z5,z6,e2⟩,h2⟩ | ⟨c,hcM,rk,R,q',e2⟩
  ·refine .inl ⟨aT (az s1 (az s2 (az (eX (bZ (ds:=M.map .str) (aA rfl) rfl) e2) (ba bt rfl)))),hc,fun c hcM S h3 h4 r hr=>?_⟩
   obtain ⟨rk,R,hall⟩:=h2 c hcM;have:r∈L/\S r:=R.min (S:=fun r=>r∈L/\S r) (fun r t ht=>ok.stp_lt ht) (fun r _ hg=>by
     obtain ⟨g1,g2⟩:=List.mem_filter.mp hg;exact ⟨g1,h3 r g1 (by simpa using g2)⟩) (fun r _ ht hl=>by
     obtain ⟨t,g1,g2,g3⟩:=led_t.mp hl;exact ⟨ht,h4 r ht ⟨t,g1,g2,g3⟩⟩) (hs.lt r hr) (hall r hr)
   exact this.2
  ·refine .inr ⟨_,_,aT (az s1 (az s2 (yK (eX (bZ (ds:=M.map .str) (aA rfl) rfl) e2)))),q',fun r hr=>(List.mem_filter.mp hr).1,fun Rm X hX hXL r hr hx=>?_⟩
   obtain ⟨g1,g2⟩:=List.mem_filter.mp hr;have hz:aI rk r=none:=by simpa using g2
   refine hX.a c hcM (fun r=>aI rk r≠none) (fun r hx hm=>R.goal_ok (hX.lt r hx) (List.mem_filter.mpr ⟨hXL r hx,by simpa using hm⟩)) (fun r hx ⟨t,ht,_,hk⟩=>R.step_ok (hX.lt r hx) (hXL r hx) (led_t.mpr ⟨t,ht,hk⟩)) r hx hz
 ·refine .inr ⟨L.filter fun r=>!(w.stp r).any fun t=>L.contains t,.none,?_,q,fun r hr=>(List.mem_filter.mp hr).1,fun Rm X hX hXL r hr hx=>?_⟩
  ·refine aT (az (cD e1 rfl (by simp [aN])) (yK ?_))
   simp only [map_map] at *
   generalize (L.filter fun r=>!(w.stp r).any fun t=>L.contains t)=F at q
   cases F with
   | nil=>exact absurd rfl q
   | cons a r=>simp [aN,wx]
  ·obtain ⟨t,ht,hxt⟩:=hX.c r hx
   have:=(List.mem_filter.mp hr).2
   simp only [Bool.not_eq_true',List.any_eq_false,contains_iff_mem] at this
   exact this t ht (hXL t hxt)
structure Jm where
 rows:List D
 L:List Nat
 row:D
noncomputable abbrev vX (w:Wd) (R:List Nat) (M:List Str) (b:Jm):Ev:=[some ⟨.leaf,w.enc⟩,some ⟨.leaf,ay R⟩,some ⟨.leaf,bX M⟩,some ⟨.lst .leaf,.list b.rows⟩,some ⟨.leaf,ay b.L⟩,some ⟨.leaf,b.row⟩,none]
structure FI (w:Wd) (R:List Nat) (M:List Str) (b:Jm):Prop where
 std:Std w.n b.L
 sub:∀r∈b.L,r∈R
 cnt:b.rows.length+b.L.length<=w.n
 big:∀X,Fr w.n w.stp (·∈R) M (rj w) X->∀r,X r->r∈b.L
 row:(b.row=.none/\nN w M b.L)\/(∃off o,b.row=.tuple [ay off,o]/\vJ w M b.L off)
noncomputable abbrev iS:FS:=(aw (eV 3 (ae 5))
  (aw (aD false 4 (av .leaf 6 (aF (ae 4)) (aQ ax (aE (bG true) (ae 6) (ak (ae 5) (eK (.int 0))))) (ae 6)))
  (aD false 5 (aj 3 cJ (ah (ae 0) (ah (ae 4) (ah (ae 2) ai)))))))
theorem Gd {w:Wd} (ok:w.Ok) {M:List Str} (hM:∀c∈M,c∈bz) {L:List Nat} (hs:Std w.n L):∃p,cJ [w.enc,ay L,bX M]=.ok p/\coer .leaf p=true/\((p.d=.none/\nN w M L)\/(∃off o,p.d=.tuple [ay off,o]/\vJ w M L off)):=by
 rcases nc ok hM hs with ⟨e,h⟩ | ⟨off,o,e,h⟩
 ·exact ⟨_,e,rfl,.inl ⟨rfl,h⟩⟩
 ·exact ⟨_,e,rfl,.inr ⟨off,o,rfl,h⟩⟩
theorem qa {w:Wd} (ok:w.Ok) {R:List Nat} {M:List Str} (hM:∀c∈M,c∈bz) {b:Jm} (I:FI w R M b) (hb:(!o7 b.row)=true):∃b',iS (vX w R M b)=.nx (vX w R M b')/\FI w R M b'/\b'.L.length<b.L.length:=by
 have h24:=ok.h24
 have hl:=I.std.len
 have hcnt:=I.cnt
 rcases I.row with ⟨e,_⟩ | ⟨off,o,e,hoff⟩
 ·rw [e] at hb;cases hb;have hs':=I.std.filter fun r=>!off.contains r
 obtain ⟨p,e2,hp,hr⟩:=Gd ok hM hs'
 have c0:av .leaf 6 (aF (ae 4)) (aQ ax (aE (bG true) (ae 6) (ak (ae 5) (eK (.int 0))))) (ae 6) (vX w R M ⟨b.rows++[b.row],b.L,b.row⟩)=.ok ⟨.lst .leaf,.list ((b.L.filter fun r=>!off.contains r).map fun t=>rm t)⟩ (vX w R M ⟨b.rows++[b.row],b.L,b.row⟩):=by
  refine nR rm b.L (fun r=>!off.contains r) (fun t=>⟨.leaf,rm t⟩) (st:=true) (by simp) (by simp) rfl (by omega) (fun t ht=>?_) (fun t ht _=>?_)
  ·rw [e]
   exact gR (s:=.leaf) (aY (aA rfl) (h9 (j:=0) (ds:=[ay off,o]) (aA rfl) bt rfl rfl rfl) ER)
  ·simp
 have lt:(b.L.filter fun r=>!off.contains r).length<b.L.length:=by
  obtain ⟨x,hx⟩:=exists_mem_of_ne_nil _ hoff.ne;have:(b.L.filter fun r=>!off.contains r).length≠b.L.length:=fun e=>by
   have:=List.length_filter_eq_length_iff.mp e x (hoff.sub x hx)
   simp [hx] at this
  have:=length_filter_le (fun r=>!off.contains r) b.L
  omega
 refine ⟨⟨b.rows++[b.row],b.L.filter fun r=>!off.contains r,p.d⟩,?_,⟨hs',fun r hr=>I.sub r (List.mem_filter.mp hr).1,by simp only [length_append,length_cons,length_nil];omega,fun X hX r hx=>?_,hr⟩,lt⟩
 ·exact az (EM rfl (aA rfl) rfl (by omega)) (az (cD c0 rfl (by simp)) (cD (bH (aC (aA rfl) (aC (aA rfl) (aC (aA rfl) aq))) e2 rfl rfl) hp (by simp)))
 ·refine List.mem_filter.mpr ⟨I.big X hX r hx,?_⟩
  cases hc:off.contains r with
  | false=>rfl
  | true=>exact absurd hx (hoff.no _ X hX (I.big X hX) r (by simpa using hc))
theorem nq {w:Wd} (ok:w.Ok) {R:List Nat} (hR:Std w.n R) {M:List Str} (hM:∀c∈M,c∈bz) (hr:bE [bX M]=.ok ⟨.leaf,.bool true⟩) :
  ∃K,bp [w.enc,ay R,bX M]=.ok ⟨.leaf,ay K⟩/\Std w.n K/\Fr w.n w.stp (·∈R) M (rj w) (·∈K)/\∀X,Fr w.n w.stp (·∈R) M (rj w) X->∀r,X r->r∈K:=by
 have h24:=ok.h24
 have hl:=hR.len
 obtain ⟨p,e0,hp,hro⟩:=Gd ok hM hR;have i0:FI w R M ⟨[],R,p.d⟩:=⟨hR,fun r h=>h,by simpa using hl,fun X hX=>hX.sub,hro⟩
 obtain ⟨b,e,I,hf⟩:=Ct (c:=aQ ax (aE (bx true) (ae 5) (eK .none))) (g:=iS) (G:=vX w R M) (test:=fun b=>!o7 b.row) (Inv:=FI w R M) (meas:=fun b=>b.L.length) (fun b I=>by simp) (fun b I hb=>qa ok hM I hb) 1000 _ i0 (by show R.length<1000;omega)
 have hend:nN w M b.L:=by
  rcases I.row with ⟨_,h⟩ | ⟨off,o,h,_⟩
  ·exact h
  ·rw [h] at hf;cases hf
 have wh:nU 1000 (aQ ax (aE (bx true) (ae 5) (eK .none))) iS (vX w R M ⟨[],R,p.d⟩)=.nx (vX w R M b):=by
  unfold nU;rw [e]
 have rk:bC [w.enc,ay R,bX M]=.ok ⟨.tup [.lst .leaf,.leaf],.tuple [.list b.rows,ay b.L]⟩:=
  aT (az (yL (lE (s:=.leaf) aq rfl rfl rfl) rfl (by simp [aN])) (az (cD (Cv (ds:=R.map rm) (aA rfl) rfl) rfl (by simp [aN])) (az (cD (bH (aC (aA rfl) (aC (aA rfl) (aC (aA rfl) aq))) e0 rfl rfl) hp (by simp [aN])) (az wh (ba (et (aC (zG (p:=⟨.lst .leaf,.list b.rows⟩) rfl) (aC (aA rfl) aq)) rfl rfl) rfl)))))
 have c1:=ok.check
 have c2:=CW ok hR
 have cf:bD [w.enc,ay R,bX M]=.ok ⟨.leaf,.none⟩:=by
  refine eD (Γ:=aN 3 [w.enc,ay R,bX M]) ?_
  simp [cZ,aN,c1,c2,hr]
 refine ⟨b.L,aT (az (o8 (bH (aC (aA rfl) (aC (aA rfl) (aC (aA rfl) aq))) cf rfl rfl)) (ba (h9 (j:=1) (bH (aC (aA rfl) (aC (aA rfl) (aC (aA rfl) aq))) rk rfl rfl) bt rfl rfl rfl) rfl)),I.std,⟨I.std.lt,I.sub,hend.c,hend.a⟩,I.big⟩
theorem sI {is:List Nat} {f:F1} {Γ Γ1 Γ':Ev} {p:PV} {ps:List PV} (h:f Γ=.ok p Γ1) (hu:zU p=some ps) (hl:ps.length=is.length) (hp:putN is ps Γ1=some Γ'):iz is f Γ=.nx Γ':=by
 unfold iz gX;rw [h];simp only [hu,hl,if_true,hp]
theorem IZ {c k:Int} (h0:0<=k) (h1:k<=1000):fH c k 2=0\/fH c k 2=1:=by
 have:=Ei (c:=c) (k:=k) (b:=2) h0 h1 (by omega) (by omega)
 omega
noncomputable def jc (w:Wd):List Nat->Prop
 | a::b::r=>b∈w.stp a/\jc w (b::r)
 | _=>True
structure Las (w:Wd) (p:List Nat):Prop where
 ch:jc w p
 nd:p.Nodup
 bk:∃z t,p.getLast?=some z/\t∈w.stp z/\t∈p
theorem nH {w:Wd} {z t:Nat} (ht:t∈w.stp z):∀{p:List Nat},jc w p->p.getLast?=some z->jc w (p++[t])
 | [],_,h=>by simp at h
 | [a],_,h=>by
  simp at h
  subst h;exact ⟨ht,trivial⟩
 | a::b::r,h,e=>⟨h.1,nH ht h.2 (by simpa using e)⟩
end KC
namespace KC
open PySem PySem.Spec L2 T
open PyProof.Rows hiding St
noncomputable def rT:FS:=(aw (aD false 2 (gx (gx (ak (ae 1) (eK (.int 0))) (ak (ae 1) (eK (.int 1)))) (dS (fun k=>(none,some k)) (ak (ae 1) (eK (.int 1))) (eK (.int 1)))))
  (aw (cF (nK (dr (aQ bF (ak (ae 1) (eK (.int 1))))) (dr (aQ bF (bM (b8 false) (ah (av .leaf 4 (aF (ae 2)) aG (sC zq ia (eK (.int 0)) (ae 4) (bM bL (ah (ak (ae 0) (eK (.int 0))) ai)))) ai))))) (aP (eK (.bool false))) aS)
  (aP (bM (b8 false) (ah (av .leaf 3 (xS (ah (eK (.int 1)) (ah (bM bL (ah (ae 2) ai)) ai))) aG (aE (bG false) (ak (ae 2) (ae 3)) (ak (ak (ae 0) (eK (.int 2))) (ak (ae 2) (aE gSub (ae 3) (eK (.int 1))))))) ai)))))
noncomputable def gv:List PySem.PyData->bN:=aL 5 rT
end KC
namespace KQ
open PySem PySem.Spec L2 T
open PyProof.Rows hiding St
open KC
noncomputable def oT:FS:=(aw (aD true 4 (aU .leaf (ah (ae 2) ai)))
  (aw (dz 5 (gk (ah (ae 3) ai))
  (aw (aD false 8 (ak (ak (ae 0) (eK (.int 2))) (ak (ae 4) (eU cC (eK (.int 1))))))
  (eV 4 (ak (ae 8) (aE gc (aj 3 aB (ah (ae 1) (ah (ae 5) (ah (eK (.int 24)) ai)))) (bM bL (ah (ae 8) ai)))))))
  (aw (nU 100 (aQ ax (aE (bG true) (ak (ae 4) (eU cC (eK (.int 1)))) (dS (fun k=>(none,some k)) (ae 4) (eU cC (eK (.int 1))))))
  (aw (aD false 8 (ak (ak (ae 0) (eK (.int 2))) (ak (ae 4) (eU cC (eK (.int 1))))))
  (eV 4 (ak (ae 8) (aE gc (aj 3 aB (ah (ae 1) (ah (bM bL (ah (ae 4) ai)) (ah (eK (.int 24)) ai)))) (bM bL (ah (ae 8) ai)))))))
  (aw (aD false 6 (av .leaf 5 (gk (ah (aE gSub (bM bL (ah (ae 4) ai)) (eK (.int 1))) ai)) (aQ ax (aE cV (ak (ae 4) (ae 5)) (ak (ae 4) (eU cC (eK (.int 1)))))) (ae 5)))
  (aw (aD false 7 (ak (ae 6) (aE gc (aj 3 aB (ah (ae 1) (ah (eK (.int 59)) (ah (eK (.int 24)) ai)))) (bM bL (ah (ae 6) ai)))))
  (aP (cQ (ah (dS (fun k=>(none,some k)) (ae 4) (ae 7)) (ah (dS (fun k=>(some k,some (-1))) (ae 4) (ae 7)) ai)))))))))
noncomputable def oC:List PySem.PyData->bN:=aL 9 oT
noncomputable def lg:FS:=(aP (av .leaf 2 (gk (ah (ae 1) ai)) (aQ ax (aE mT (aj 3 aB (ah (ae 0) (ah (ae 2) (ah (eK (.int 3)) ai)))) (eK (.int 0)))) (ae 2)))
noncomputable def cY:List PySem.PyData->bN:=aL 3 lg
end KQ
namespace KC
open PySem PySem.Spec L2 T PySem.SeqAt
open PyProof.Rows hiding St
theorem pf {Γ Γ1 Γ2:Ev} {g:Int->Option Int×Option Int} {fa fb:F1} {s s':Sh} {xs:List D} {k:Int} (ha:fa Γ=.ok ⟨s,.list xs⟩ Γ1) (hb:fb Γ1=.ok ⟨s',.int k⟩ Γ2) (ho:dD ⟨s,.list xs⟩ xs=true):dS g fa fb Γ=.ok ⟨.lst .leaf,.list (T.cutD xs (g k).1 (g k).2)⟩ Γ2:=by
 unfold dS aW;rw [ha];simp only [Out.bind]
 rw [hb];simp only [ho,if_true]
theorem C9 {l:List Nat} {k:Nat}:T.cutD (l.map rm) none (some (k:Int))=(l.take k).map rm:=by
 unfold T.cutD;rw [HT.sIx_none,HT.sIx_nat,List.drop_zero,length_map,Nat.sub_zero,List.map_take];by_cases h:k<=l.length
 ·rw [Nat.min_eq_left h]
 ·rw [Nat.min_eq_right (by omega),take_of_length_le (by simp),take_of_length_le (by simp;omega)]
theorem wJ {l:List Nat} {k:Nat}:T.cutD (l.map rm) (some (k:Int)) none=(l.drop k).map rm:=by
 unfold T.cutD;rw [HT.sIx_none,HT.sIx_nat,length_map,List.map_drop];by_cases h:k<=l.length
 ·rw [Nat.min_eq_left h,take_of_length_le (by simp)]
 ·rw [Nat.min_eq_right (by omega),List.drop_of_length_le (by simp),List.drop_of_length_le (by simp;omega)]
  simp
theorem wK {n d k:Nat} (h:1<=k):HT.sIx n d (some (-(k:Int)))=n-k:=by
 unfold HT.sIx;simp only
 rw [if_pos (by omega)]
 omega
theorem pB {l:List Nat}:T.cutD (l.map rm) none (some (-1))=l.dropLast.map rm:=by
 unfold T.cutD;rw [HT.sIx_none,List.drop_zero,Nat.sub_zero,List.dropLast_eq_take,List.map_take,length_map];rw [show (-1:Int)=-((1:Nat):Int) from rfl,wK (by omega)]
theorem yW {Γ:Ev} {fa fb:F1} {s:Sh} {l:List Nat} {k:Nat} (ha:fa Γ=.ok ⟨.leaf,ay l⟩ Γ) (hb:fb Γ=.ok ⟨s,.int (k:Int)⟩ Γ) (h:k<l.length):ak fa fb Γ=.ok ⟨.leaf,rm (l.getD k 0)⟩ Γ:=by
 rw [dX,ha];simp only [Out.bind]
 rw [hb];simp only
 rw [jN,yF (x:=rm (l.getD k 0)) (by rw [getElem?_map,getD_eq_getElem?_getD,getElem?_eq_getElem h];rfl)]
theorem vA {α:Type} {xs:List α}:b8 false [.list (xs.map fun _=>.bool true)]=some (.bool true):=by
 rw [wj (xs:=xs) (f:=fun _=>true),List.all_eq_true.mpr fun _ _=>rfl]
noncomputable abbrev wy (F R:List Nat):D:=.tuple [ay F,ay R]
structure gQ (w:Wd) (F R:List Nat):Prop where
 ne:R≠[]
 lt:∀x∈F++R,x<w.n
 ch:jc w (F++R++R.take 1)
 len:F.length+R.length<=1000
theorem qg {w:Wd}:∀{l:List Nat} {k:Nat},jc w l->k+1<l.length->l.getD (k+1) 0∈w.stp (l.getD k 0)
 | [],k,_,h=>by simp at h
 | [a],k,_,h=>by simp at h
 | a::b::r,0,h,_=>h.1
 | a::b::r,k+1,h,hk=>by
  have:=qg (k:=k) h.2 (by simpa using hk)
  simpa using this
theorem tw {w:Wd} (ok:w.Ok) {Γ:Ev} {i:Nat} {fb:F1} {s:Sh} {r:Nat} (h0:Γ[i]?=some (some ⟨.leaf,w.enc⟩)) (hb:fb Γ=.ok ⟨s,rm r⟩ Γ) (hr:r<w.n):ak (ak (ae i) (eK (.int 2))) fb Γ=.ok ⟨.leaf,ay (w.stp r)⟩ Γ:=by
 rw [dX,dX,aA h0];simp only [Out.bind,bt,Wd.enc,bO,jM,y3]
 rw [hb];simp only [jN]
 rw [ok.at2 hr]
theorem EB {w:Wd} (ok:w.Ok) {Γ:Ev} {i:Nat} (h0:Γ[i]?=some (some ⟨.leaf,w.enc⟩)):bM bL (ah (ak (ae i) (eK (.int 0))) ai) Γ=.ok ⟨.leaf,.int (w.n:Int)⟩ Γ:=by
 have e:ak (ae i) (eK (.int 0)) Γ=.ok ⟨.leaf,.list w.os⟩ Γ:=by
  rw [dX,aA h0];simp only [Out.bind,bt,Wd.enc,bO,jM,zb]
 refine dg (aC e aq) ?_
 simp [ok.g.lo]
theorem C3 {R:List Nat} (h:R≠[]):∃a,R.take 1=[a]/\a∈R:=by
 cases R with
 | nil=>exact absurd rfl h
 | cons a r=>exact ⟨a,rfl,by simp⟩
theorem nj {w:Wd} (ok:w.Ok) {F R:List Nat} (h:gQ w F R):gv [w.enc,wy F R]=.ok ⟨.leaf,.bool true⟩:=by
 obtain ⟨a,ea,ha⟩:=C3 h.ne;have hl:=h.len
 have ltA:∀x∈F++R++R.take 1,x<w.n:=fun x hx=>by
  rcases List.mem_append.mp hx with z | z
  ·exact h.lt x z
  ·rw [ea] at z
   rw [List.mem_singleton.mp z];exact h.lt a (mem_append_right _ ha)
 have lnA:(F++R++R.take 1).length<=1001:=by rw [ea];simp;omega
 have l1:1<=(F++R++R.take 1).length:=by rw [ea];simp;omega
 have c1:gx (gx (ak (ae 1) (eK (.int 0))) (ak (ae 1) (eK (.int 1)))) (dS (fun k=>(none,some k)) (ak (ae 1) (eK (.int 1))) (eK (.int 1))) (aN 5 [w.enc,wy F R])=.ok ⟨.lst .leaf,ay (F++R++R.take 1)⟩ (aN 5 [w.enc,wy F R]):=by
  have i0:ak (ae 1) (eK (.int 0)) (aN 5 [w.enc,wy F R])=.ok ⟨.leaf,ay F⟩ (aN 5 [w.enc,wy F R]):=by simp [aN]
  have i1:ak (ae 1) (eK (.int 1)) (aN 5 [w.enc,wy F R])=.ok ⟨.leaf,ay R⟩ (aN 5 [w.enc,wy F R]):=by simp [aN]
  have s1:dS (fun k=>(none,some k)) (ak (ae 1) (eK (.int 1))) (eK (.int 1)) (aN 5 [w.enc,wy F R])=.ok ⟨.lst .leaf,ay (R.take 1)⟩ (aN 5 [w.enc,wy F R]):=by
   rw [pf i1 bt rfl,show T.cutD (R.map rm) none (some (1:Int))=(R.take 1).map rm from C9 (k:=1)]
  have:=ph (ph i0 i1 rfl rfl (by simp;omega)) s1 rfl rfl (by simp;omega)
  rw [this];simp [ay]
 generalize hA:F++R++R.take 1=A at c1 ltA lnA l1
 have hch:jc w A:=hA▸h.ch
 refine aT ?_
 refine az (Γ1:=[some ⟨.leaf,w.enc⟩,some ⟨.leaf,wy F R⟩,some ⟨.leaf,ay A⟩,none,none]) (cD c1 rfl (by simp [aN])) ?_
 refine az (cb (t:=false) (r9 (a:=false) (b:=false) (gP (b:=true) (Γ1:=[some ⟨.leaf,w.enc⟩,some ⟨.leaf,wy F R⟩,some ⟨.leaf,ay A⟩,none,none]) ?_) (gP (b:=true) (kc (s:=.leaf) (dg (ps:=[⟨.lst .leaf,.list (A.map fun x=>.bool true)⟩]) (aC (ie rm A (fun x=>⟨.leaf,.bool true⟩) (st:=true) ?_ (by simp) rfl (by omega) ?_) aq) ?_)))) nofun fun _=>rfl) ?_
 ·cases R with
  | nil=>exact absurd rfl h.ne
  | cons b r=>
   have i1:ak (ae 1) (eK (.int 1)) [some ⟨.leaf,w.enc⟩,some ⟨.leaf,wy F (b::r)⟩,some ⟨.leaf,ay A⟩,none,none]=.ok ⟨.leaf,ay (b::r)⟩ [some ⟨.leaf,w.enc⟩,some ⟨.leaf,wy F (b::r)⟩,some ⟨.leaf,ay A⟩,none,none]:=by simp
   unfold aQ;rw [i1];rfl
 ·exact bZ (aA rfl) rfl
 ·intro x hx
  refine ⟨?_,rfl⟩
  have:=ltA x hx
  have e:=GQ (b:=decide ((0:Int)<=(x:Int))) (b':=decide ((x:Int)<(w.n:Int))) (g:=zq) (g':=ia) (fa:=eK (.int 0)) (fb:=ae 4) (Γ:=[some ⟨.leaf,w.enc⟩,some ⟨.leaf,wy F R⟩,some ⟨.leaf,ay A⟩,none,some ⟨.leaf,rm x⟩]) bt (aA rfl) rfl rfl (EB ok (i:=0) rfl) rfl
  rw [show (decide ((0:Int)<=(x:Int))&&decide ((x:Int)<(w.n:Int)))=true by simp;omega] at e
  exact e
 ·exact vA
 ·refine ba (p:=⟨.leaf,.bool true⟩) (dg (ps:=[⟨.lst .leaf,.list ((List.range (A.length-1)).map fun x=>.bool true)⟩]) (aC (ie (fun k:Nat=>PyData.int (1+(k:Int))) (List.range (A.length-1)) (fun x=>⟨.leaf,.bool true⟩) (st:=true) ?_ (by simp) rfl (by simp;omega) ?_) aq) ?_) rfl
  ·refine (CY (k:=1) (m:=(A.length:Int)) (aC bt (aC (dg (aC (aA rfl) aq) ?_) aq)) rfl (by omega) (by omega) (by omega) (by omega)).trans ?_
   ·simp only [map_cons,map_nil,AL,length_map]
   ·rw [show ((A.length:Int)-1).toNat=A.length-1 by omega,tP]
  ·intro k hk
   have hk:=List.mem_range.mp hk
   refine ⟨?_,rfl⟩
   have e1:=yW (Γ:=[some ⟨.leaf,w.enc⟩,some ⟨.leaf,wy F R⟩,some ⟨.leaf,ay A⟩,some ⟨.leaf,.int (1+(k:Int))⟩,none]) (fa:=ae 2) (fb:=ae 3) (s:=.leaf) (l:=A) (k:=k+1) (aA rfl) (by rw [aA (d:=.int (1+(k:Int))) rfl,show (1+(k:Int))=((k+1:Nat):Int) by omega]) (by omega)
   have e2:=yW (Γ:=[some ⟨.leaf,w.enc⟩,some ⟨.leaf,wy F R⟩,some ⟨.leaf,ay A⟩,some ⟨.leaf,.int (1+(k:Int))⟩,none]) (fa:=ae 2) (fb:=aE gSub (ae 3) (eK (.int 1))) (s:=.leaf) (l:=A) (k:=k) (aA rfl) (by rw [aY (aA rfl) bt sub_int',show (1+(k:Int)-1)=(k:Int) by omega]) (by omega)
   have hm:A.getD k 0<w.n:=ltA _ (by rw [getD_eq_getElem?_getD,getElem?_eq_getElem (by omega:k<A.length)];exact getElem_mem _)
   refine aY e1 (tw ok rfl e2 hm) ?_
   rw [vZ,List.contains_iff_mem.mpr (qg hch (by omega))]
  ·exact vA
end KC
namespace KQ
open PySem PySem.Spec L2 T PySem.SeqAt KC
open PyProof.Rows hiding St
structure Wg (w:Wd) (r:Nat) (l:List Nat):Prop where
 hd:l.head?=some r
 lt:∀x∈l,x<w.n
 ch:jc w l
end KQ
namespace KC
structure Emb (n1:Nat) (st1:Nat->List Nat) (s n:Nat) (st:Nat->List Nat):Prop where
 cl:∀r t,t∈st1 r->t<n1
 lt:∀r,r<n1->r+s<n
 st:∀r,r<n1->st (r+s)=(st1 r).map (·+s)
section
variable {n1 s n:Nat} {st1 st:Nat->List Nat} {ch1 ch:Nat->Bool} {goal1 goal:List Nat} {rk:List (Option Nat)} {T1 T X:Nat->Prop}
noncomputable def cut (s n1:Nat) (rk:List (Option Nat)):List (Option Nat):=(List.range n1).map fun r=>aI rk (r+s)
end
open PySem PySem.Spec L2 T PySem.SeqAt
open PyProof.Rows hiding St
end KC
namespace KC
open PySem PySem.Spec L2 T
open PyProof.Rows hiding St
noncomputable def jT:PySem.PyData:=.tuple [.str "some next",.str "some until",.str "some always"]
noncomputable def uU:PySem.PyData:=.tuple [.str "all next",.str "all until",.str "all always"]
noncomputable def lb:FS:=(cF (dr (aQ ax (sC zq ia (eK (.int 0)) (ae 1) (bM bL (ah (ak (ae 0) (eK (.int 0))) ai))))) tM aS)
noncomputable def aX:List PySem.PyData->bN:=aL 2 lb
noncomputable def nz:FS:=(cF (dr (aQ bF (aj 2 gv (ah (ae 0) (ah (ae 1) ai))))) tM aS)
noncomputable def eE:List PySem.PyData->bN:=aL 2 nz
open PySem.SeqAt
noncomputable def Wr.ofS (a:Wr):Bool:=decide (a=.sn\/a=.su\/a=.sa)
noncomputable def Wr.ofA (a:Wr):Bool:=decide (a=.an\/a=.au\/a=.aa)
@[simp] theorem II (a:Wr):bG false (.str a.t) jT=some (.bool a.ofS):=by cases a<;>kernel_rfl
@[simp] theorem FH (a:Wr):bG true (.str a.t) jT=some (.bool (!a.ofS)):=by cases a<;>kernel_rfl
@[simp] theorem FJ (a:Wr):bG true (.str a.t) uU=some (.bool (!a.ofA)):=by cases a<;>kernel_rfl
noncomputable def Sn.tm (s:Sn):Bool:=s.w.ofS||s.w.ofA
theorem ju {w:Wd} (ok:w.Ok) {F R:List Nat} (h:gQ w F R):eE [w.enc,wy F R]=.ok ⟨.leaf,.none⟩:=by
 refine eD (Γ:=aN 2 [w.enc,wy F R]) ?_
 exact cb (t:=false) (gP (b:=true) (kc (s:=.leaf) (bH (aC (aA rfl) (aC (aA rfl) aq)) (nj ok h) rfl rfl))) nofun fun _=>rfl
end KC
namespace KQ
open PySem PySem.Spec L2 T PySem.SeqAt KC
open PyProof.Rows hiding St
noncomputable abbrev GP (w:Wd) (p c:Int) (b:Bool) (l:List (Option Nat)) (x5 x6 x7:Option PV):Ev:=[some ⟨.leaf,w.enc⟩,some ⟨.leaf,.int p⟩,some ⟨.leaf,.int c⟩,some ⟨.leaf,.bool b⟩,some ⟨.lst .leaf,bj l⟩,x5,x6,x7]
end KQ
namespace KC
open PySem PySem.Spec L2 T PySem.SeqAt
open PyProof.Rows hiding St
noncomputable def Jn (ch:List (Option Nat)):List Nat->Prop
 | a::b::r=>aI ch a=some b/\Jn ch (b::r)
 | _=>True
structure J5 (n:Nat) (ch:List (Option Nat)) (r:Nat) (F R:List Nat):Prop where
 ne:R≠[]
 lt:∀x∈F++R,x<n
 nd:(F++R).Nodup
 hd:(F++R).head?=some r
 fc:Jn ch (F++R++R.take 1)
structure AI (n:Nat) (ch:List (Option Nat)) (r:Nat) (b:List Nat×Option Nat):Prop where
 nd:b.1.Nodup
 lt:∀x∈b.1,x<n
 hl:∀t,b.2=some t->t<n
 fc:Jn ch b.1
 st:(b.1=[]/\b.2=some r)\/(b.1.head?=some r/\∃z,b.1.getLast?=some z/\b.2=aI ch z)
end KC
namespace KC
structure Km (F R:List Nat):Prop where
 ne:R≠[]
 pr:∀s,1<=s->s<R.length->R.length % s=0->¬∀i,i+s<R.length->R.getD (i+s) 0=R.getD i 0
 la:F≠[]->F.getD (F.length-1) 0≠R.getD (R.length-1) 0
noncomputable def Kn (R:List Nat) (s:Nat):Prop:=∀i,i+s<R.length->R.getD (i+s) 0=R.getD i 0
structure Prm (R:List Nat):Prop where
 ne:R≠[]
 pr:∀s,1<=s->s<R.length->R.length % s=0->¬Kn R s
open PySem PySem.Spec L2 T PySem.SeqAt
open PyProof.Rows hiding St
theorem uF {w:Wd} {rk:List (Option Nat)}:∀r t,r<w.n->t∈fG w rk r->t∈w.stp r:=fun r t _ h=>(List.mem_filter.mp h).1
theorem lowB_iff {a b:Option Nat}:iJ a b=true↔∃i k,a=some i/\b=some k/\i<k:=by
 cases a with
 | none=>simp [iJ]
 | some i=>cases b with
  | none=>simp [iJ]
  | some k=>simp [iJ]
section
variable {w:Wd} {p:Int} {c:Str} {L:List Nat} {tn:List (Option (Nat×Nat))} {rk:List (Option Nat)}
theorem lG (ok:w.Ok) (A:sf w p (oy w c) tn L) (R:RightG w.n (inn w.stp L) (own w p) L (gl (oy w c) L) rk) {r t:Nat} (hr:r∈L) (ht:t∈(gd w (aM w p (fG w rk))).stp r):t∈L/\∀k,aI rk r=some (k+1)->∃i,aI rk t=some i/\i<k+1:=by
 have hrn:=A.std.lt r hr
 have hL:=Hv ok A R
 have so:∀t,t<w.n->aI rk t≠none->t∈L:=fun t h1 h2=>by rw [<-hL];exact mem_hasR.mpr ⟨h1,h2⟩
 have has:∀t,t∈L->aI rk t≠none:=fun t h=>by rw [<-hL] at h;exact (mem_hasR.mp h).2
 have hc:=A.c r hr
 rw [Gy hrn,ET hrn] at ht
 cases ho:own w p r with
 | false=>
  rw [ho] at ht hc
  have ht:t∈w.stp r:=by simpa using ht
  refine ⟨led_f.mp hc t ht,fun k e=>?_⟩
  have hg:r∉gl (oy w c) L:=fun z=>by have:=R.g r hrn z;rw [e] at this;cases this
  have:=(R.p r (k+1) hrn hg e).2.2
  rw [ho] at this;exact led_f.mp this t (mem_inn.mpr ⟨ht,led_f.mp hc t ht⟩)
 | true=>
  rw [ho] at ht hc
  obtain ⟨k,hk⟩:=Option.ne_none_iff_exists'.mp (has r hr)
  cases k with
  | zero=>
   obtain ⟨u,hu,huL⟩:=led_t.mp hc;have hm':u∈fG w rk r:=List.mem_filter.mpr ⟨hu,by
    unfold zh;rw [if_pos hk];have:=has u huL
    cases e:aI rk u with
    | none=>exact absurd e this
    | some i=>rfl⟩
   obtain ⟨v,hv,hm⟩:=pY (ne_nil_of_mem hm')
   simp only [if_true,hv,List.mem_singleton] at ht
   subst ht;obtain ⟨h1,h2⟩:=List.mem_filter.mp hm;unfold zh at h2;rw [if_pos hk] at h2;refine ⟨so t (ok.stp_lt h1) (fun z=>by rw [z] at h2;cases h2),fun k e=>by rw [hk] at e;cases e⟩
  | succ k=>
   have hg:r∉gl (oy w c) L:=fun z=>by have:=R.g r hrn z;rw [hk] at this;cases this
   have h3:=(R.p r (k+1) hrn hg hk).2.2
   rw [ho] at h3;obtain ⟨u,hu,i,hi,hlt⟩:=led_t.mp h3;have hne:¬aI rk r=some 0:=by rw [hk];simp
   have hm':u∈fG w rk r:=List.mem_filter.mpr ⟨(mem_inn.mp hu).1,by
    unfold zh;rw [if_neg hne];exact lowB_iff.mpr ⟨i,k+1,hi,hk,hlt⟩⟩
   obtain ⟨v,hv,hm⟩:=pY (ne_nil_of_mem hm')
   simp only [if_true,hv,List.mem_singleton] at ht
   subst ht;obtain ⟨h1,h2⟩:=List.mem_filter.mp hm;unfold zh at h2;rw [if_neg hne] at h2;obtain ⟨i',k',e1,e2,e3⟩:=lowB_iff.mp h2;rw [hk] at e2
   cases e2;refine ⟨so t (ok.stp_lt h1) (by rw [e1];simp),fun k2 e=>?_⟩
   rw [hk] at e
   cases e;exact ⟨i',e1,e3⟩
theorem sM (ok:w.Ok) (A:sf w p (oy w c) tn L):Fr w.n w.stp (·∈List.range w.n) [c] (rj w) (·∈L):=by
 have ex:∀r∈L,∀P:Nat->Prop,led (own w p r) (w.stp r) P->∃t∈w.stp r,P t:=fun r hr P h=>by
  cases ho:own w p r with
  | true=>rw [ho] at h;exact led_t.mp h
  | false=>
   rw [ho] at h;obtain ⟨t,ht⟩:=exists_mem_of_ne_nil _ (ok.stp_ne (A.std.lt r hr));exact ⟨t,ht,led_f.mp h t ht⟩
 refine ⟨A.std.lt,fun r h=>List.mem_range.mpr (A.std.lt r h),fun r h=>ex r h _ (A.c r h),fun m hm S h1 h2 r hr=>?_⟩
 have hm:m=c:=by simpa using hm
 subst hm;exact A.suff.a S (fun r hr ht=>h1 r hr (mem_mkd.mp ht).2) (fun r hr hl=>h2 r hr (ex r hr _ hl)) r hr
end
structure Mor (n1:Nat) (st1:Nat->List Nat) (f:Nat->Nat) (n:Nat) (st:Nat->List Nat):Prop where
 cl:∀r t,t∈st1 r->t<n1
 lt:∀r,r<n1->f r<n
 up:∀r,r<n1->∀t∈st1 r,f t∈st (f r)
 dn:∀r,r<n1->∀c∈st (f r),∃t∈st1 r,f t=c
end KC
namespace KC
open PySem PySem.Spec L2 T PySem.SeqAt
open PyProof.Rows hiding St
structure Det (w:Wd):Prop where
 d:∀x,x<w.n->∃t,w.stp x=[t]
noncomputable def Sn.pl:Sn->Bool
 | .yes=>true | .mk _=>true | .un .not a=>a.pl | .bi .and a b=>a.pl&&b.pl | .bi .or a b=>a.pl&&b.pl | _=>false
structure Tmd (s a b:Sn):Prop where
 tm:s.tm=true
 ar:∀x∈s.args,x=a\/x=b
 sz:s.size<=a.size+b.size+1
 dp:s.dep<=max a.dep b.dep+1
 ok:a.ok->b.ok->s.ok
theorem eI {w:Wd} (ok:w.Ok) {r:Nat} (hr:r<w.n):aX [w.enc,rm r]=.ok ⟨.leaf,.none⟩:=by
 have c:=GQ (g:=zq) (g':=ia) (Γ:=aN 2 [w.enc,rm r]) (fa:=eK (.int 0)) (fb:=ae 1) (fc:=bM bL (ah (ak (ae 0) (eK (.int 0))) ai)) (b:=decide ((0:Int)<=(r:Int))) (b':=decide ((r:Int)<(w.n:Int))) bt (aA (i:=1) rfl) rfl rfl (EB ok rfl) rfl
 have t:=gP (gR (s:=.leaf) c)
 rw [decide_eq_true (show (0:Int)<=(r:Int) by omega),decide_eq_true (show (r:Int)<(w.n:Int) by omega)] at t
 exact eD (cb t nofun fun _=>rfl)
end KC
namespace T
open PySem
def Rs (xs:Array Nat):Prop:=xs.toList.Pairwise (· < ·)
structure Tb (b:Bool) (t:SetTable):Prop where
 led:b=false->t.led=true
 rs:Rs t.place
 nd:t.dummies=#[]
open PySem.Spec L2
open PyProof.Rows hiding St
def JZ (ns:List Int):List Int:=firstMet (fun i=>ns.getD i 0) ns.length
section
variable {K:Fg} {W:XW} {σ:St} {H:Hp} {Q:VK} {fa:F1} {fl:FL}
def BZ (fl:FL):F1:=fun Γ=>(fl Γ).bind fun ps Γ'=>match wI (ps.map (·.d)) with
 | some ns=>if ns.length<4000/\(JZ ns).length<64 then .ok ⟨.lst .leaf,.list ((PySem.W.sortI (JZ ns)).map .int)⟩ Γ' else .no
 | none=>.no
end
end T
namespace KC
open PySem PySem.Spec L2 T PySem.SeqAt
open PyProof.Rows hiding St
theorem zP {Γ:Ev} {i:Nat} {f:F1} {s:Sh} {ds es:List D} (h:Γ[i]?=some (some ⟨.lst .leaf,.list ds⟩)) (hf:f Γ=.ok ⟨s,.list es⟩ Γ) (ho:s.isView=false) (hn:ds.length+es.length<=10000):ma i f Γ=.nx (Γ.set i (some ⟨.lst .leaf,.list (ds++es)⟩)):=by
 have hb:(10000:Nat)<=sizeLine:=by decide
 unfold ma sA;rw [h];simp only [if_true,t5,hf]
 unfold BV dD;rw [h];have:ds.length+es.length<=sizeLine:=by omega
 simp only [ho,Bool.not_false,Bool.true_or,decide_eq_true this,Bool.and_self,if_true]
end KC
namespace T
open PySem PySem.Spec L2
open PyProof.Rows hiding St
def yb:PySem.PyData->PySem.PyData->Option PySem.PyData
 | .str z,.int i=>if 0<=i/\i<z.length/\i<2 ^ 63 then (z.cps[i.toNat]?).map fun c=>.str ⟨#[c]⟩ else none
 | _,_=>none
end T
namespace KQ
open PySem PySem.Spec L2 T
open PyProof.Rows hiding St
open KC
noncomputable def jw:FS:=(aw (bw (aj 3 bD (ah (ae 0) (ah (ae 1) (ah (ae 2) ai)))))
  (aw (bw (aj 2 eE (ah (ae 0) (ah (ae 3) ai))))
  (aw (cF (dr (aQ bF (bM (b8 false) (ah (av .leaf 5 (aF (gx (ak (ae 3) (eK (.int 0))) (ak (ae 3) (eK (.int 1))))) aG (aE (bG false) (ae 5) (ae 1))) ai)))) (aP (eK (.bool false))) aS)
  (aP (bM (b8 false) (ah (av .leaf 4 (aF (ae 2)) aG (bM (b8 true) (ah (av .leaf 5 (aF (ak (ae 3) (eK (.int 1)))) aG (aE (bG false) (ae 4) (ak (ak (ae 0) (eK (.int 1))) (ae 5)))) ai))) ai))))))
noncomputable def aZ:List PySem.PyData->bN:=aL 6 jw
noncomputable def nE:FS:=(aP (cQ (ah (km (ak (ae 0) (eK (.int 0)))) (ah (av .leaf 1 (aF (ak (ae 0) (eK (.int 1)))) aG (km (ae 1))) (ah (av .leaf 1 (aF (ak (ae 0) (eK (.int 2)))) aG (km (ae 1))) ai)))))
noncomputable def mJ:List PySem.PyData->bN:=aL 2 nE
noncomputable def lh:FS:=(aP (av .leaf 1 (fj "abc") (aQ ax (aE cV (aj 3 aB (ah (ae 0) (ah (bM (fm "abc") (ah (ae 1) ai)) (ah (eK (.int 3)) ai)))) (eK (.int 1)))) (ae 1)))
noncomputable def kQ:List PySem.PyData->bN:=aL 2 lh
noncomputable def d_law:FS:=(aw (aD false 1 (aj 3 m__law_world (ah (ae 0) (ah (eK (.int 0)) (ah (eK (.int 6)) ai)))))
  (aw (aD false 2 (bM bL (ah (ak (ae 1) (eK (.int 0))) ai)))
  (aw (aD false 3 (aj 2 cY (ah (aj 2 aH (ah (ae 0) (ah (eK (.int 7)) ai))) (ah (ae 2) ai))))
  (aw (aD false 4 (aj 1 kQ (ah (aj 2 aH (ah (ae 0) (ah (eK (.int 8)) ai))) ai)))
  (aw (aD false 5 (aj 3 bp (ah (ae 1) (ah (ae 3) (ah (ae 4) ai)))))
  (aw (aD false 6 (av .leaf 16 (gk (ah (ae 2) ai)) (nK (aQ ax (aE (bG false) (ae 16) (ae 3))) (aQ ax (aE cV (aj 3 aB (ah (aj 2 aH (ah (ae 0) (ah (eK (.int 9)) ai))) (ah (ae 16) (ah (eK (.int 2)) ai)))) (eK (.int 1))))) (ae 16)))
  (aw (cF (dr (aQ bF (bM (b8 false) (ah (av .leaf 16 (aF (ae 5)) aG (aE (bG false) (ae 16) (aj 3 bp (ah (ae 1) (ah (ae 6) (ah (ae 4) ai)))))) ai)))) (aP (eK (.bool false))) aS)
  (aw (cF (dr (aQ bF (bM (b8 false) (ah (av .leaf 16 (aF (ae 5)) aG (aE (bG false) (ae 16) (aj 3 bp (ah (ae 1) (ah (ae 3) (ah (dS (fun k=>(some k,none)) (ae 4) (eK (.int 1))) ai)))))) ai)))) (aP (eK (.bool false))) aS)
  (aw (cF (aQ ax (aE iR (aj 3 bp (ah (ae 1) (ah (ae 5) (ah (ae 4) ai)))) (ae 5))) (aP (eK (.bool false))) aS)
  (aw (aD false 7 (aj 4 oC (ah (ae 1) (ah (aj 2 aH (ah (ae 0) (ah (eK (.int 10)) ai))) (ah (aj 3 aB (ah (aj 2 aH (ah (ae 0) (ah (eK (.int 11)) ai))) (ah (eK (.int 0)) (ah (ae 2) ai)))) (ah (eK (.int 5)) ai))))))
  (aw (aD false 8 (aU .leaf (ah (aj 1 mJ (ah (ae 1) ai)) (ah (cQ (ah (km (ak (ae 7) (eK (.int 0)))) (ah (km (ak (ae 7) (eK (.int 1)))) ai))) ai))))
  (aw (aD false 9 (BZ (ah (gx (ak (ae 7) (eK (.int 0))) (ak (ae 7) (eK (.int 1)))) ai)))
  (aw (aD false 10 (av .leaf 11 (fj "abc") (aQ ax (aE mT (bM bL (ah (av .leaf 16 (aF (ak (ae 7) (eK (.int 1)))) (aQ ax (aE (bG false) (ae 11) (ak (ak (ae 1) (eK (.int 1))) (ae 16)))) (ae 16)) ai)) (eK (.int 0)))) (ae 11)))
  (aw (cF (nK (aQ ax (aE iR (aj 3 bp (ah (ae 1) (ah (ae 9) (ah (ae 10) ai)))) (ae 9))) (aQ ax (aE (jt true) (aj 4 aZ (ah (ae 1) (ah (ae 9) (ah (ae 10) (ah (ae 7) ai))))) (eK (.bool true))))) (aP (eK (.bool false))) aS)
  (aw (dz 11 (fj "abcdef")
  (aw (aD false 15 (aj 4 aZ (ah (ae 1) (ah (ae 9) (ah (aU .leaf (ah (ae 11) ai)) (ah (ae 7) ai))))))
  (cF (nK (dr (aQ bF (DQ "bool" (ae 15)))) (aQ ax (aE iR (ae 15) (aE (bG false) (ae 11) (ae 10))))) (aP (eK (.bool false))) aS)))
  (aw (dz 12 (zl (cQ (ah (eK (.str "ab")) (ah (eK (.str "ac")) (ah (eK (.str "bc")) (ah (eK (.str "ad")) (ah (eK (.str "cf")) ai)))))))
  (cF (aQ ax (aE iR (aj 4 aZ (ah (ae 1) (ah (ae 9) (ah (aU .leaf (ah (aE yb (ae 12) (eK (.int 0))) (ah (aE yb (ae 12) (eK (.int 1))) ai))) (ah (ae 7) ai))))) (eF (aE (bG false) (aE yb (ae 12) (eK (.int 0))) (ae 10)) (aE (bG false) (aE yb (ae 12) (eK (.int 1))) (ae 10))))) (aP (eK (.bool false))) aS))
  (aw (aD false 13 (bM (b8 false) (ah (av .leaf 16 (aF (ae 9)) aG (aE (bG false) (ae 16) (ae 3))) ai)))
  (aw (aD false 14 (eF (ae 13) (aE cV (bM bL (ah (av .leaf 11 (aF (ae 4)) (aQ ax (aE (bG true) (ae 11) (ae 10))) (ae 11)) ai)) (eK (.int 0)))))
  (aw (cF (aQ ax (aE iR (aj 4 aZ (ah (ae 1) (ah (ae 3) (ah (ae 4) (ah (ae 7) ai))))) (ae 14))) (aP (eK (.bool false))) aS)
  (aP (eF (aE cV (aj 4 aZ (ah (ae 1) (ah (ae 3) (ah (aU .leaf ai) (ah (ae 7) ai))))) (ae 13)) (aE cV (aU .leaf (ah (ae 1) (ah (ae 7) ai))) (ae 8)))))))))))))))))))))))
noncomputable def m_law:List PySem.PyData->bN:=aL 17 d_law
end KQ
namespace KQ
open PySem PySem.Spec L2 T PySem.SeqAt KC
open PyProof.Rows hiding St
structure MkOk (M:List Str):Prop where
 l:∀c∈M,c∈bz
 r:eZ (M.map .str)=true
 n:M.length<=6
theorem MkOk.are {M:List Str} (h:MkOk M):bE [bX M]=.ok ⟨.leaf,.bool true⟩:=by
 have:=fx (ds:=M.map .str) (fun d hd=>by
  obtain ⟨c,hc,rfl⟩:=List.mem_map.mp hd;exact ⟨c,rfl,(CJ (h.l c hc)).1⟩) (by rw [length_map];have:=h.n;omega)
 refine this.trans ?_
 rw [h.r,List.all_eq_true.mpr fun d hd=>by
  obtain ⟨c,hc,rfl⟩:=List.mem_map.mp hd;exact (CJ (h.l c hc)).2]
 rfl
theorem uQ {w:Wd} (ok:w.Ok) {Γ:Ev} {i:Nat} {fb:F1} {s:Sh} {r:Nat} (h0:Γ[i]?=some (some ⟨.leaf,w.enc⟩)) (hb:fb Γ=.ok ⟨s,rm r⟩ Γ) (hr:r<w.n):ak (ak (ae i) (eK (.int 1))) fb Γ=.ok ⟨.leaf,bX (w.mks r)⟩ Γ:=by
 rw [dX,dX,aA h0];simp only [Out.bind,bt,Wd.enc,bO,jM,za]
 rw [hb];simp only [jN]
 rw [ok.at1 hr]
theorem Ca {F R:List Nat} {i:Nat} {Γ:Ev} (hl:F.length+R.length<=900) (h:Γ[i]?=some (some ⟨.leaf,wy F R⟩)):gx (ak (ae i) (eK (.int 0))) (ak (ae i) (eK (.int 1))) Γ=.ok ⟨.lst .leaf,ay (F++R)⟩ Γ:=by
 have i0:ak (ae i) (eK (.int 0)) Γ=.ok ⟨.leaf,ay F⟩ Γ:=h9 (j:=0) (aA h) bt rfl rfl rfl
 have i1:ak (ae i) (eK (.int 1)) Γ=.ok ⟨.leaf,ay R⟩ Γ:=h9 (j:=1) (aA h) bt rfl rfl rfl
 have:=ph i0 i1 rfl rfl (by simp;omega)
 rw [this];simp [ay]
noncomputable def FM (w:Wd) (R:List Nat) (c:Str):Bool:=R.any fun r=>(w.mks r).contains c
noncomputable def FQ (w:Wd) (S:List Nat) (M:List Str) (F R:List Nat):Bool:=(F++R).all (fun r=>S.contains r)&&M.all (FM w R)
theorem vd {α:Type} {xs:List α} {f:α->Bool}:b8 true [.list (xs.map fun x=>.bool (f x))]=some (.bool (xs.any f)):=by
 have:=Gz (bs:=xs.map f)
 rw [map_map] at this;refine this.trans ?_
 rw [List.any_map];rfl
theorem jZ {w:Wd} (ok:w.Ok) {S:List Nat} (hS:Std w.n S) {M:List Str} (hM:MkOk M) {F R:List Nat} (h:gQ w F R) (hl:F.length+R.length<=900):aZ [w.enc,ay S,bX M,wy F R]=.ok ⟨.leaf,.bool (FQ w S M F R)⟩:=by
 have h24:=ok.h24
 have c1:=ok.check
 have c2:=CW ok hS
 have hr:=hM.are
 have cf:bD [w.enc,ay S,bX M]=.ok ⟨.leaf,.none⟩:=by
  refine eD (Γ:=aN 3 [w.enc,ay S,bX M]) ?_
  simp [cZ,aN,c1,c2,hr]
 have cw:=ju ok h
 have a1:=ie (Γ:=aN 6 [w.enc,ay S,bX M,wy F R]) (s:=.leaf) (i:=5) (fi:=aF (gx (ak (ae 3) (eK (.int 0))) (ak (ae 3) (eK (.int 1))))) (fe:=aE (bG false) (ae 5) (ae 1)) rm (F++R) (fun t=>⟨.leaf,.bool (S.contains t)⟩) (st:=true) (bZ (s:=.lst .leaf) (Ca (i:=3) hl rfl) rfl) (by simp [aN]) rfl (by simp;omega) (fun t ht=>⟨aY (aA rfl) (aA (i:=1) rfl) vZ,rfl⟩)
 have t1:=gP (kc (s:=.leaf) (dg (aC a1 aq) (wj (xs:=F++R) (f:=fun t=>S.contains t))))
 have a3:∀c,c∈M->bM (b8 true) (ah (av .leaf 5 (aF (ak (ae 3) (eK (.int 1)))) aG (aE (bG false) (ae 4) (ak (ak (ae 0) (eK (.int 1))) (ae 5)))) ai) ((aN 6 [w.enc,ay S,bX M,wy F R]).set 4 (some ⟨.leaf,.str c⟩))=.ok ⟨.leaf,.bool (FM w R c)⟩ ((aN 6 [w.enc,ay S,bX M,wy F R]).set 4 (some ⟨.leaf,.str c⟩)):=fun c hc=>by
  have a2:=ie (Γ:=(aN 6 [w.enc,ay S,bX M,wy F R]).set 4 (some ⟨.leaf,.str c⟩)) (s:=.leaf) (i:=5) (fi:=aF (ak (ae 3) (eK (.int 1)))) (fe:=aE (bG false) (ae 4) (ak (ak (ae 0) (eK (.int 1))) (ae 5))) rm R (fun t=>⟨.leaf,.bool ((w.mks t).contains c)⟩) (st:=true) (bZ (s:=.leaf) (h9 (j:=1) (aA rfl) bt rfl rfl rfl) rfl) (by simp [aN]) rfl (by omega) (fun t ht=>⟨aY (aA (d:=.str c) rfl) (uQ ok (i:=0) (s:=.leaf) rfl (aA rfl) (h.lt t (mem_append_right _ ht))) (Gf (CJ (hM.l c hc)).1 (Gh ok t)),rfl⟩)
  exact dg (aC a2 aq) vd
 have a4:=ie (Γ:=aN 6 [w.enc,ay S,bX M,wy F R]) (s:=.leaf) (i:=4) (fi:=aF (ae 2)) (fe:=bM (b8 true) (ah (av .leaf 5 (aF (ak (ae 3) (eK (.int 1)))) aG (aE (bG false) (ae 4) (ak (ak (ae 0) (eK (.int 1))) (ae 5)))) ai)) PyData.str M (fun c=>⟨.leaf,.bool (FM w R c)⟩) (st:=true) (bZ (s:=.leaf) (aA rfl) rfl) (by simp [aN]) rfl (by have:=hM.n;omega) (fun c hc=>⟨a3 c hc,rfl⟩)
 refine aT (az (o8 (bH (aC (aA rfl) (aC (aA rfl) (aC (aA rfl) aq))) cf rfl rfl)) (az (o8 (bH (aC (aA rfl) (aC (aA rfl) aq)) cw rfl rfl)) ?_))
 unfold FQ
 cases e:(F++R).all (fun r=>S.contains r) with
 | false=>
  rw [e] at t1;exact yK (cb t1 (fun _=>ba bt rfl) nofun)
 | true=>
  rw [e] at t1;rw [Bool.true_and];exact az (cb t1 nofun fun _=>rfl) (ba (dg (aC a4 aq) (wj (xs:=M) (f:=FM w R))) rfl)
end KQ
namespace T
open PySem PySem.Spec L2
open PyProof.Rows hiding St
abbrev It:=bR ⊕ List bR
section
variable {prog:Program} {w:World}
inductive vL (h:Heap):List It->List Value->Prop
 | nil:vL h [] []
 | v {k:bR} {u:Value} {ks:List It} {us:List Value}:(jD prog w).is k u=true->vL h ks us->vL h (.inl k::ks) (u::us)
 | t {l:List bR} {b:Addr} {ks:List It} {us:List Value}:IsTupleKey (jD prog w) h l b->vL h ks us->vL h (.inr l::ks) (.ref b::us)
variable (prog w)
variable {prog w}
def hI (w:World):It->Int
 | .inl k=>BA w k
 | .inr l=>reduceHash (Builtin.Tuple.tupleHashOf (l.map (BA w)))
variable {A:Around} {E:Value->Shared->Prop} {s:Shared}
def Kg:It->Bool
 | .inl _=>false
 | .inr _=>true
end
def Kf (K:Fg) (H:Hp):It->V->Prop
 | .inl k,v=>v=kV k
 | .inr l,v=>∃c,v=.ref c/\SqT K H c (l.map kV)
def K2 (K:Fg) (H:Hp) (ks:List It) (b:Addr):Prop:=∃vs,SqT K H b vs/\Paired (Kf K H) ks vs
abbrev KX (K:Fg) (H:Hp) (sh:List Bool):List (List It×V)->List (List It×Addr×Value)->Prop:=Paired fun p q=>p.1=q.1/\p.1.map Kg=sh/\K2 K H p.1 q.2.1/\RelV p.2 q.2.2
def IF (k:List It) (acc:List (List It)):Bool:=acc.any fun a=>decide (a=k)
def DT (acc:List (List It)) (k:List It):List (List It):=if IF k acc then acc else acc++[k]
def Kl (ks:List (List It)):List (List It):=ks.foldl DT []
def JT (k:List It):List (List It)->Nat
 | []=>0
 | a::r=>if a=k then 0 else JT k r+1
theorem DI {A B:Bool->Hp->Prop} {H:Hp} {σ:St} (h:A true H):pj σ H fun b H=>if b=true then A b H else B b H:=by
 show (if true=true then A true H else B true H)
 rw [if_pos rfl];exact h
noncomputable def IC (ks:List (List It)):List Nat:=ks.map fun k=>JT k (Kl ks)
end T
namespace KC
open PySem PySem.Spec L2 T PySem.SeqAt
open PyProof.Rows hiding St
noncomputable def zg (w:Wd) (r:Nat):Int:=if own w 0 r then 0 else 1
noncomputable def FP (w:Wd) (o:Bool) (r:Nat):List T.It:=.inr ((w.mks r).map .inr)::if o then [.inl (.inl (zg w r))] else []
section
variable {w:Wd}
theorem Bb (ok:w.Ok) {Γ:Ev} {i:Nat} {fb:F1} {s:Sh} {r:Nat} (h0:Γ[i]?=some (some ⟨.leaf,w.enc⟩)) (hb:fb Γ=.ok ⟨s,rm r⟩ Γ) (hr:r<w.n):ak (ak (ae i) (eK (.int 0))) fb Γ=.ok ⟨.leaf,.int (zg w r)⟩ Γ:=by
 obtain ⟨o,ho,e,h⟩:=ok.o_at hr;have:zg w r=o:=by
  unfold zg;rw [h 0];rcases ho with rfl | rfl<;>rfl
 rw [this,dX,dX,aA h0];simp only [Out.bind,bt,Wd.enc,bO,jM,zb]
 rw [hb];simp only [jN]
 rw [e]
theorem Br (ok:w.Ok) {Γ:Ev} {i:Nat} {fb:F1} {s:Sh} {r:Nat} (h0:Γ[i]?=some (some ⟨.leaf,w.enc⟩)) (hb:fb Γ=.ok ⟨s,rm r⟩ Γ) (hr:r<w.n):ak (ak (ae i) (eK (.int 1))) fb Γ=.ok ⟨.leaf,bX (w.mks r)⟩ Γ:=by
 rw [dX,dX,aA h0];simp only [Out.bind,bt,Wd.enc,bO,jM,za]
 rw [hb];simp only [jN]
 rw [ok.at1 hr]
noncomputable def nA (N:List Nat) (r:Nat):Nat:=N.getD r 0
structure CN (w:Wd) (o:Bool) (N:List Nat) (m:Nat):Prop where
 len:N.length=w.n
 m1:1<=m
 mn:m<=w.n
 lt:∀r,r<w.n->nA N r<m
 onto:∀c,c<m->∃r,r<w.n/\nA N r=c
 look:∀i j,i<w.n->j<w.n->nA N i=nA N j->FP w o i=FP w o j
 st:∀i j,i<w.n->j<w.n->nA N i=nA N j->∀t∈w.stp i,∃t'∈w.stp j,nA N t=nA N t'
structure GdN (w:Wd) (o:Bool) (N:List Nat):Prop where
 ks:∃ks:List (List T.It),ks.length=w.n/\N=IC ks
 look:∀i j,i<w.n->j<w.n->nA N i=nA N j->FP w o i=FP w o j
end
section
variable {w:Wd} {o:Bool} {N:List Nat} {m:Nat}
theorem xK (ok:w.Ok) {r:Nat} (hr:r<w.n):w.mks r∈w.m:=by
 unfold Wd.mks;rw [getD_eq_getElem?_getD,getElem?_eq_getElem (by rw [ok.lm];exact hr)]
 exact getElem_mem _
theorem pz (ok:w.Ok) {Γ:Ev} {i:Nat} {fb:F1} {s:Sh} {r:Nat} (h0:Γ[i]?=some (some ⟨.leaf,w.enc⟩)) (hb:fb Γ=.ok ⟨s,rm r⟩ Γ) (hr:r<w.n):ak (ak (ae i) (eK (.int 2))) fb Γ=.ok ⟨.leaf,ay (w.stp r)⟩ Γ:=by
 rw [dX,dX,aA h0];simp only [Out.bind,bt,Wd.enc,bO,jM,y3]
 rw [hb];simp only [jN]
 rw [ok.at2 hr]
end
end KC
namespace T
open PySem PySem.Spec L2
open PyProof.Rows hiding St
def Cq (h:Heap) (L:Addr):List (Addr×Obj):=(List.range h.objs.size).filterMap fun b=>if b=L then none else (h.get? b).map fun o=>(b,o)
theorem mem_objsBut {h:Heap} {L b:Addr} {o:Obj}:(b,o)∈Cq h L↔b≠L/\h.get? b=some o:=by
 unfold Cq;rw [List.mem_filterMap];constructor
 ·rintro ⟨c,_,e⟩
  split at e
  ·cases e
  ·rename_i hc
   obtain ⟨o',h1,h2⟩:=Option.map_eq_some_iff.mp e
   cases h2;exact ⟨hc,h1⟩
 ·rintro ⟨h1,h2⟩
  exact ⟨b,List.mem_range.mpr (Heap.lt_size h2),by rw [if_neg h1,h2];rfl⟩
def noHeap:Heap:={ objs:=#[] }
theorem iH (b:Addr):noHeap.get? b=none:=Heap.get?_none_of_le (Nat.zero_le _)
def zc (K:Fg):List V->Hp->VK->Prop:=fun xs H Q=>∃(p:Addr) (vs:List V) (ls:List (List V)),xs=[.ref p]/\SqL K H p vs/\vs.length=ls.length/\(∀(i:Nat) v l,vs[i]?=some v->ls[i]?=some l->∃a,v=.ref a/\SqL K H a l)/\0<vs.length /\
 ∀(i:Nat) v l,vs[i]?=some v->ls[i]?=some l->(∀(j:Nat) l',ls[j]?=some l'->l.length<=l'.length/\(j<i->l.length<l'.length))->Q v H
theorem xH {h:Heap} {L:Addr} {m m':Str->Option Value} (a:h.Ns L m) (b:h.Ns L m'):m=m':=by
 obtain ⟨o,es,ep,h1,h2,_,h3⟩:=a;obtain ⟨o',es',ep',g1,g2,_,g3⟩:=b;rw [h1] at g1
 cases g1;rw [h2] at g2
 cases g2;funext x
 rw [<-h3,<-g3]
theorem rC {X:Cx} {pins:List (Addr×Obj)} {σ:St} {H:Hp} {s:Shared} {h':Heap} {t':Nat} {m:Str->Option Value} (I:L2.Inv X pins σ H s) (hn:s.heap.Ns X.env.locals m) (k:∀b o,b≠X.env.locals->s.heap.get? b=some o->h'.get? b=some o) (hn':h'.Ns X.env.locals m):L2.Inv X pins σ H { s with heap:=h',toks:=t' }:=by
 have nit:∀b u,H b=some u->b≠X.env.locals:=fun b u e z=>by rw [z,I.free] at e;cases e
 refine I.step (g':=s.gens) (d':=s.drawn) (ch:=[]) (fun _ z=>nomatch z) (fun b o hb _ _ e _=>k b o hb e) (fun b o hb _ _ e _=>⟨o.slots,k b o hb e⟩) (fun _ _ _ _ n=>n)
  (fun b o _ e=>?_) (fun _ _ e=>e) (fun _ _ _ e=>e) (fun b ps e=>⟨#[],by rw [e];simp⟩) (fun m' hm=>by rw [<-xH hn hm];exact hn') (fun b u e=>?_) I.bare
 ·by_cases hb:b=X.env.locals
  ·subst hb
   obtain ⟨o',_,_,h1,_⟩:=hn'
   exact ⟨o',h1⟩
  ·exact ⟨o,k b o hb e⟩
 ·refine (I.hok b u e).stay (fun c v hc q=>k c v ?_ q) (fun _ q=>q) fun _ _ q=>q
  rcases hc with z | z
  ·rw [z];exact nit b u e
  ·exact nit c _ z
theorem xr {X:Cx} {e:Expr} {ta:TA} {p p2 kpos pos:Pos} (hc:X.calm=true) (hg:Gl X "min") (hm:X.mg "min"=none) (hg2:Gl X "len") (hm2:X.mg "len"=none) (ha:PA X [e] ta) (hs:starEach [e] X.env=[(false,eval e X.env)]) :
  PE X (.Call (.Name "min" p) [e] [⟨some "key",.Name "len" p2,kpos⟩] pos) (Aa (zc X.K) ta):=by
 intro pins s σ H Q I h;refine wpAny_Call_Name_kw (v9 I hg hm D2 ?_)
 refine PyProof.Rows.callWith_kw (bB (ha pos pins s σ H _ I h) fun us s1 ⟨xs,H1,I1,r1,q1⟩=>?_) (by rw [hs];rfl) (by rw [hs];rfl) rfl rfl
 show wpAny _ _ (evalAll [do let v <-eval (.Name "len" p2) X.env;standAt pos;pure v]) _ _ s1
 refine wpAny_evalAll_cons (wpAny_bind (v9 I1 hg2 hm2 zx (wpAny_bind (wpAny_standAt (wpAny_pure (wpAny_evalAll_nil ?_))))))
 obtain ⟨a,vs,ls,rfl,hq,hl,hel,hne,q⟩:=q1;obtain ⟨u,rfl,ru⟩:=vals1 r1
 cases ru;obtain ⟨its,rv,pl,hz⟩:=I1.list hq;obtain ⟨m,hns,hlook⟩:=I1.loc;have hlen:vs.length=its.length:=rv.length
 have neL:∀{b:Addr} {xs:Array Value},s1.heap.IsList b xs->b≠X.env.locals:=fun {b xs} h z=>by
  obtain ⟨o,h1,_,n,h2⟩:=h;obtain ⟨o',es,ep,g1,g2,_⟩:=hns;rw [z,g1] at h1
  cases h1;rw [g2] at h2
  cases h2
 have mv:∀{h:Heap} {b:Addr} {xs:Array Value},News noHeap X.env.locals h (Cq s1.heap X.env.locals)->s1.heap.IsList b xs->h.IsList b xs:=fun {h b xs} N hl=>by
  have hb:=neL hl
  obtain ⟨o,h1,h2⟩:=hl;exact ⟨o,(N (b,o) (mem_objsBut.mpr ⟨hb,h1⟩)).1,h2⟩
 have F0:Fr noHeap X.env.locals s1.heap m:=⟨hns,(fun b o e=>by rw [iH] at e;cases e),Nat.zero_le _⟩
 have N0:News noHeap X.env.locals s1.heap (Cq s1.heap X.env.locals):=fun p hp=>⟨(mem_objsBut.mp hp).2,(mem_objsBut.mp hp).1,iH _⟩
 show wpAny _ _ (call (.builtin "min") [.ref a] [(Str.ofString "key",.builtin "len")]) _ _ s1
 refine kmb_min (h₀:=noHeap) (L:=X.env.locals) (m:=m) (news:=Cq s1.heap X.env.locals) (vs:=its) (fun i=>((ls.getD i []).length:Int)) (I1.ok.hd hc) F0 N0 (fun h _ N=>mv N pl.isList) (by omega) (fun i v hv h tk own F N=>?_) fun i v h' tk' hv hb F N=>?_
 ·have hi:i<vs.length:=by have:=(List.getElem?_eq_some_iff.mp hv).1;omega
  have hi2:i<ls.length:=by omega
  obtain ⟨u,hu,ru⟩:=rv.get (getElem?_eq_getElem hi)
  rw [hv] at hu
  cases hu;obtain ⟨b,eb,hb⟩:=hel i vs[i] ls[i] (getElem?_eq_getElem hi) (getElem?_eq_getElem hi2)
  rw [eb] at ru
  cases ru;obtain ⟨its2,rv2,pl2,hz2⟩:=I1.list hb;have hl2:=rv2.length
  have hN:News noHeap X.env.locals h (Cq s1.heap X.env.locals):=fun p hp=>N p (mem_append_left _ hp)
  have hn63:=yI
  refine Calls.call_len_list (mv hN pl2.isList) (by simp only [size_toArray];omega) ⟨h,_,tk+1,rfl,?_,F,N⟩
  rw [getD_eq_getElem?_getD,getElem?_eq_getElem hi2,size_toArray,<-hl2];rfl
 ·have hi:i<vs.length:=by have:=(List.getElem?_eq_some_iff.mp hv).1;omega
  have hi2:i<ls.length:=by omega
  obtain ⟨u,hu,ru⟩:=rv.get (getElem?_eq_getElem hi)
  rw [hv] at hu
  cases hu;refine ⟨vs[i],H1,rC I1 hns (fun b o hb e=>(N (b,o) (mem_objsBut.mpr ⟨hb,e⟩)).1) F.ns,ru,q i _ ls[i] (getElem?_eq_getElem hi) (getElem?_eq_getElem hi2) fun j l' hj=>?_⟩
  have hj2:=(List.getElem?_eq_some_iff.mp hj).1
  have this:=hb j (by omega)
  rw [getD_eq_getElem?_getD,getElem?_eq_getElem hi2,getD_eq_getElem?_getD,hj] at this;have this:(ls[i].length:Int)<=(l'.length:Int)/\(j<i->(ls[i].length:Int)<(l'.length:Int)):=this
  exact ⟨by omega,fun z=>by have:=this.2 z;omega⟩
def rF (fa fb:F1):F1:=aW fa fun p=>aW fb fun q=>fun Γ=>match p.d,q.d with
 | .tuple xs,.int k=>if !p.s.isView&&decide (0<=k)&&decide (k<xs.length) then .ok ⟨.leaf,.tuple (xs.take k.toNat)⟩ Γ else .no
 | _,_=>.no
section
variable {K:Fg} {W:XW} {σ:St} {H:Hp} {Q:VK} {fa fb:F1}
theorem As (h:tE K W (rF fa fb) σ H Q):Ju (AM K) (tE K W fa) pk (yY (tE K W fb)) σ H Q:=by
 refine Cn (R:=fun v u H2=>∃i,u=.int i/\AM K v none (some i) H2 Q) h fun He O Fs Γ2 p q v u H1 H2 G1 G2 Fs2 nd s1 s2 E new o1 o2 w=>?_
 obtain ⟨s,d⟩:=p;obtain ⟨s',d'⟩:=q;dsimp only at w o1 o2
 split at w
 ·rename_i xs k
  cases hc:(!s.isView&&decide (0<=k)&&decide (k<xs.length)) with
  | false=>rw [hc] at w;exact w.elim
  | true=>
   rw [hc] at w;simp only [Bool.and_eq_true,decide_eq_true_eq,Bool.not_eq_true'] at hc
   obtain ⟨⟨h1,h2⟩,h3⟩:=hc;obtain ⟨d1,d2⟩:=B3 E.nd;have E1:=E.drop (fun a ha=>mem_append_right _ (mem_append_right _ ha)) nd
   have nw:∀a∈Fs2.flatten,a∈Fs.flatten\/H a=none:=fun a ha=>new a (mem_append_right _ (mem_append_right _ ha))
   have r1:=o1.freeze (O':=O++Fs2.flatten) h1 wH d1
   have ru:=o2.rep
   cases ru;refine ⟨k,rfl,?_⟩
   cases r1 with
   | @tup a vs _ hq hl hr=>
    have ek:k=((k.toNat:Nat):Int):=by omega
    refine ⟨a,vs,rfl,ke hid_le hq,fun z=>?_,fun p' hp'=>?_⟩
    ·have z1:=z.2
     rw [ek,HT.sIx_nat] at z1;omega
    ·have ec:jA vs none (some k)=vs.take k.toNat:=by
      unfold jA;rw [ek,HT.sIx_nat,HT.sIx_none,Int.toNat_natCast,List.drop_zero,Nat.sub_zero,Nat.min_eq_left (by omega)]
     rw [ec];exact w _ _ _ _ (xM E1 (s1.trans s2) nw (Reps.take k.toNat ⟨hl,hr⟩) hp')
 ·exact w.elim
end
section
variable {X:Cx} {W:XW} {a b:Expr} {pos p2:Pos} {fa fb:F1}
theorem yV {Γ Γ1 Γ2:Ev} {s s':Sh} {xs:List D} {k:Nat} (ha:fa Γ=.ok ⟨s,.tuple xs⟩ Γ1) (hb:fb Γ1=.ok ⟨s',.int (k:Int)⟩ Γ2) (hv:s.isView=false) (hk:k<xs.length):rF fa fb Γ=.ok ⟨.leaf,.tuple (xs.take k)⟩ Γ2:=by
 unfold rF aW;rw [ha];simp only [Out.bind]
 rw [hb];have:((k:Int)<(xs.length:Int)):=by omega
 simp only [hv,Bool.not_false,Bool.true_and,decide_eq_true (show (0:Int)<=(k:Int) by omega),decide_eq_true this,if_true,Int.toNat_natCast]
end
end T
namespace TQ
open PySem PySem.Spec L2 T
open PyProof.Rows hiding St
section
variable {X:Cx} {W:XW} {a b:Expr} {pos p2:Pos} {fa fb:F1}
theorem lN (ha:Q (PE X a (tE X.K W fa))) (hb:Q (PE X b (tE X.K W fb))):Q (PE X (.Subscript a (.Slice none (some b) none p2) pos) (tE X.K W (rF fa fb))):=⟨have ha:=ha.p;have hb:=hb.p;bh (G0 Ad ha GI (GJ hb)) fun _ _ _=>As⟩
end
end TQ
namespace T
open PySem PySem.Spec L2
open PyProof.Rows hiding St
abbrev CF (x:Str) (s:Stmt) (ps:List Str) (us:List Value):Prop:=∀(kV doc pm:Value) (an:Option Addr) (cdv ct:Value),bindArgs (PySem.W.fnOf x x (Co s) (nV s) (fD s) .none kV doc pm an cdv ct) ⟨us,[]⟩=pure (ps.zip us)
abbrev zH (x:Str) (s:Stmt) (ps:List Str):Prop:=∀us:List Value,us.length=ps.length->CF x s ps us
section
variable {x:Str} {s:Stmt} {p1 p2 p3 p4 p5 p6:Str}
theorem zw (h:∀a,CF x s [p1] [a]:=by exact fun _ _ _ _ _ _ _=>rfl):zH x s [p1]:=fun us hl=>match us,hl with | [_],_=>h _
theorem lD (h:∀a b,CF x s [p1,p2] [a,b]:=by exact fun _ _ _ _ _ _ _ _=>rfl):zH x s [p1,p2]:=fun us hl=>match us,hl with | [_,_],_=>h _ _
theorem ib (h:∀a b c,CF x s [p1,p2,p3] [a,b,c]:=by exact fun _ _ _ _ _ _ _ _ _=>rfl):zH x s [p1,p2,p3]:=fun us hl=>match us,hl with | [_,_,_],_=>h _ _ _
theorem CD (h:∀a b c d,CF x s [p1,p2,p3,p4] [a,b,c,d]:=by exact fun _ _ _ _ _ _ _ _ _ _=>rfl):zH x s [p1,p2,p3,p4]:=fun us hl=>match us,hl with | [_,_,_,_],_=>h _ _ _ _
end
def Ft (K:Fg) (mg:Str->Option Value) (n:Str) (s:Stmt):Prop:=∃f fd,mg n=some (.ref f)/\Fun K n n s f fd
theorem ft {K:Fg} {h:Heap} {mg:Str->Option Value} {n:Str} {s:Stmt} {f:Addr} {od an:Option Addr} {sl:Array (Option Value)} {oc kV dc pm cd ct:Value} (X:K.In h) (G:h.Ns mainGlobals mg) (a:PySem.W.nsIn K mainGlobals n=some (some (.ref f))) (l:K.lookup f=some ⟨oc,od,.func (PySem.W.fnOf n n (Co s) (nV s) (fD s) .none kV dc pm an cd ct),sl⟩) (c:PySem.W.codeIn K cd n=true) (k:PySem.W.keepIn K (.ref f)=true):Ft K mg n s:=⟨f,_,PySem.W.mg_of X G a,BS (st:=s) l c k⟩
theorem Eh {K:Fg} {x:Str} {st:Stmt} {f:Addr} {fd:FuncData} {ps:List Str} (F:Fun K x x st f fd) (b:zH x st ps):Binds K fd ps []:=F.binds fun kV doc pm an cdv ct us hl=>b us hl kV doc pm an cdv ct
def Bs (vs cs:List Nat):List Nat:=vs.filter fun i=>!cs.contains i
def fB (N gl ps:List Str) (vs cs gs:List Nat) (s:Stmt):Bool:=jb N gl vs cs vs (Bs vs cs) gs (fD s)&&uO N gl&&(!(fD s).isCoroutine&&!(fD s).isGenerator&&decide (N.take ps.length=ps)&&(ps.all fun x=>yH (fD s) [.local,.cell] (some x))&&((fD s).names.all fun y=>!decide (y.2=.free)))
theorem DO {N gl ps:List Str} {vs cs gs:List Nat} {s:Stmt} (h:fB N gl ps vs cs gs s=true):jb N gl vs cs vs (Bs vs cs) gs (fD s)=true/\uO N gl=true/\cB N ps (fD s):=by
 unfold fB at h;simp only [Bool.and_eq_true,decide_eq_true_eq,all_eq_true,Bool.not_eq_true',decide_eq_false_iff_not] at h
 obtain ⟨⟨h1,h2⟩,⟨⟨⟨h3,h4⟩,h5⟩,h6⟩,h7⟩:=h;refine ⟨h1,h2,(Gc h1).kind,h3,h4,(uN h2).1,h5,fun x hx=>?_,h7⟩
 obtain ⟨k,hk,q⟩:=Cw (h6 x hx);simp only [mem_cons,not_mem_nil,or_false] at hk
 rcases hk with rfl | rfl
 ·exact .inl q
 ·exact .inr q
structure In (p:Fg->(Str->Option Value)->Prop) (X:Cx) (P:Program) (w:World) (K:Fg) (mg:Str->Option Value) (base:Heap) (k:Nat):Prop where
 e1:X.prog=P
 e2:X.w=w
 e3:X.K=K
 e4:X.mg=mg
 e5:X.base=base
 rm:Room k X.A
 pp:p K mg
section
variable {p:Fg->(Str->Option Value)->Prop} {X Y:Cx} {P:Program} {w:World} {K:Fg} {mg:Str->Option Value} {base:Heap} {j k n:Nat} {x:Str} {s:Stmt} {ps:List Str} {g:FS} {den:List PySem.PyData->bN} {ss:List Sh}
theorem In.r (I:In p X P w K mg base k):Rm X:=I.rm.units
theorem In.e (I:In p X P w K mg base k):p X.K X.mg:=by rw [I.e3,I.e4];exact I.pp
theorem In.c (I:In p X P w K mg base k) (h:DefOk P w K mg base j x n den) (hj:decide (j<=k)=true:=by first | exact rfl | exact decide_eq_true (by omega)):vY X x n den:=by
 obtain ⟨rfl,rfl,rfl,rfl,rfl,r,_⟩:=I;exact h.cal r hj
theorem Fx.i (F:Fx X Y) (I:In p X P w K mg base k):In p Y P w K mg base k:=⟨F.prog.trans I.e1,F.w.trans I.e2,F.K.trans I.e3,F.mg.trans I.e4,F.base.trans I.e5,by rw [F.A];exact I.rm,I.pp⟩
abbrev Bd (p:Fg->(Str->Option Value)->Prop) (P:Program) (w:World) (K:Fg) (mg:Str->Option Value) (base:Heap) (k:Nat) (N gl:List Str) (vs cs gs:List Nat) (s:Stmt) (g:FS):Prop:=∀X:Cx,Cp X N gl vs cs vs (Bs vs cs) gs->In p X P w K mg base k->PassesOwn (model X.prog X.w) X.A X.env X.xe->TQ.Q (PSs X (nV s) (tS X.K W0 g))
theorem JS {f:Addr} {fd:FuncData} (F:Fun K x x s f fd) (e:p K mg) (N gl:List Str) (vs cs gs:List Nat) (h:fB N gl ps vs cs gs s=true) (hb:Bd p P w K mg base k N gl vs cs gs s g):eR P w K mg base nP (k+1) f fd ps (sm K ps.length (aL N.length g)):=by
 obtain ⟨h1,h2,h3⟩:=DO h;exact BU F h3 fun cdv A outer s H E hr=>(hb _ (Cp.fn h1 h2) ⟨rfl,rfl,rfl,rfl,rfl,hr,e⟩ PassesOwn.never).p
theorem mk (F:Ft K mg x s) (e:p K mg) (ps:List Str) (b:zH x s ps) (rs gl:List Str) (vs cs gs:List Nat) (hb:Bd p P w K mg base k (ps++rs) gl vs cs gs s g) (h:fB (ps++rs) gl ps vs cs gs s=true:=by kernel_rfl):DefOk P w K mg base (k+1) x ps.length (aL (ps++rs).length g):=by
 obtain ⟨f,fd,hm,F⟩:=F;exact ⟨f,fd,ps,JS F e _ gl vs cs gs h hb,hm,F.kp,Eh F b⟩
theorem Ke {fa:Addr} (F:Ft K mg x s) (e:p K mg) (q:Str) (b:zH x s [q]) (hfa:mg x=some (.ref fa)) (rs gl:List Str) (vs cs gs:List Nat) (hb:∀base,Bd p P w K mg base k ([q]++rs) gl vs cs gs s g) (h:fB ([q]++rs) gl [q] vs cs gs s=true:=by kernel_rfl) :
  ∃fd:FuncData,(∀(s:Shared) (v:Value),BindsTo s fd ⟨[v],[]⟩ [(q,v)])/\∀base:Heap,K.In base->base.Ns mainGlobals mg->eR P w K mg base nP (k+1) fa fd [q] (sm K 1 (aL ([q]++rs).length g)):=by
 obtain ⟨f,fd,hm,F⟩:=F;have e':=hfa.symm.trans hm
 cases e'
 refine ⟨fd,fun s v=>?_,fun base _ _=>JS F e _ gl vs cs gs h (hb base)⟩
 obtain ⟨oc,od,kV,doc,pm,an,cdv,ct,osl,rfl,lk,hcd⟩:=F.ex;exact .of_eq (b [v] rfl kV doc pm an cdv ct)
section
variable {h:Heap} {a:Addr} {dd:Option Addr} {its:Array Value} {n:Nat} {sl:Array (Option Value)} {ds:List PySem.PyData} (KX:K.In h) (G:h.Ns mainGlobals mg)
include KX G
theorem gn (z:PySem.W.nsIn K mainGlobals x=some none):mg x=none:=PySem.W.mg_none_of KX G z
theorem gi {i:Int} {t:Tok} (z:PySem.W.nsIn K mainGlobals x=some (some (.int i t))):o5 K mg x (.int i):=yo (PySem.W.mg_of KX G z)
theorem gt (z:PySem.W.nsIn K mainGlobals x=some (some (.ref a))) (l:K.lookup a=some ⟨.type "tuple",dd,.seq its n,sl⟩) (c:B9 its ds=true):o5 K mg x (.tuple ds):=yn (PySem.W.mg_of KX G z) l c
end
theorem walkG {m:List PySem.PyData->bN} {l:PySem.W.OpenLaw} {q:Program} {loose:List Str} {XP:(Str->Option Value)->Heap->Prop} {YP:World->Heap->Prop} {d:DefRec} {K:Params->Fg} (lt:∀ns:List Int,ns.length<=63->m [.list (ns.map .int)]=.ok ⟨.leaf,.bool true⟩) (hr:Room j callerA) (hn:l.most=some 63) (hdf:d.params.defaults=[])
  (hY:∀(w:World) (h:Heap),YP w h->(K w.params).In h)
  (F:∀(w:World) (mg:Str->Option Value) (fa:Addr) (h:Heap),(K w.params).In h->h.Ns mainGlobals mg->mg d.name=some (.ref fa) ->
   ∃fd:FuncData,(∀(s:Shared) (u:Value),BindsTo s fd ⟨[u],[]⟩ [("script",u)])/\∀base:Heap,(K w.params).In base->base.Ns mainGlobals mg->eR l.prog w (K w.params) mg base nP j fa fd ["script"] (sm (K w.params) 1 m)) :
  PySem.W.WalkO q loose XP YP l.row.toRowW d [] (fun f vs=>PySem.call f vs):=
 L2.walk_of (n:=63) (k:=j) (x := "script") (CX:=fun _=>nP) (sp:=fun w=>sm (K w.params) 1 m) hn (by decide) hdf hr hY F (fun _ _ a ns hl _ hS=>Bu (lt ns hl) hS) fun _ _ _ _ _ z=>z
end
end T
namespace TQ
open PySem PySem.Spec L2 T
open PyProof.Rows hiding St
section
variable {X:Cx} {N gl:List Str} {vs cs ls lo gs:List Nat} {W:XW} {a b c e:Expr} {es:List Expr} {pos p:Pos} {fa fb fc:F1} {fl:FL} {ga gb:FB} {g1 g2 g:FS}
theorem ao (S:Cp X N gl vs cs ls lo gs) (i:Nat) {x:Str} (hN:N[i]?=some x:=by exact rfl) (hv:vs.contains i=true:=by exact rfl):Q (PE X (.Name x pos) (tE X.K W (ae i))):=w_cv S i hN hv
theorem aO (ha:Q (PE X e (tE X.K W fa))) (hr:Q (PA X es (tA X.K W fl))) (hs:yG e=false:=by exact rfl):Q (PA X (e::es) (tA X.K W (ah fa fl))):=jE ha hr (dE hs)
theorem aR (ha:Q (PE X e (tE X.K W fa))) (hs:yG e=false:=by exact rfl):Q (PA X [e] (tA X.K W (ah fa ai))):=jE ha sE (dE hs)
theorem bq (ha:Q (PE X a (tE X.K W fa))) (hb:Q (PE X b (tE X.K W fb))) (hs:ED b:=by exact fun _ _=>rfl):Q (PE X (.Subscript a b pos) (tE X.K W (ak fa fb))):=w_de_idx ha hb hs
theorem bu {x:Str} {n:Nat} {den:List PySem.PyData->bN} (S:Cp X N gl vs cs ls lo gs) (j:Nat) (C:vY X x n den) (ha:Q (PA X (e::es) (tA X.K W fl))) (hj:gl[j]?=some x:=by exact rfl) (hg:gs.contains j=true:=by exact rfl) (he:yG e=false:=by exact rfl) (hpl:(backTo pos (starEach es X.env)).any (·.1)=false:=by exact rfl):Q (PE X (.Call (.Name x p) (e::es) [] pos) (tE X.K W (aj n den fl))):=HP S j hj hg C ha (dE he) hpl
theorem cE (S:Cp X N gl vs cs ls lo gs) (own:Bool) (i:Nat) {x:Str} {pos':Pos} (ha:Q (PE X a (tE X.K W fa))) (hi:N[i]?=some x:=by exact rfl) (hl:ls.contains i=true:=by exact rfl) (hs:swapsWith a (some (.Name x pos')) pos.line X.env=pure false:=by exact rfl):Q (PS X (.Assign [.Name x pos'] a pos) (tS X.K W (aD own i fa))):=lJ S own i hi hl hs ha
theorem lB (S:Cp X N gl vs cs ls lo gs) (j:Nat) (hm:X.mg "len"=none) (ha:Q (PA X (e::es) (tA X.K W fl))) (hj:gl[j]?=some ("len":Str):=by exact rfl) (hg:gs.contains j=true:=by exact rfl) (he:yG e=false:=by exact rfl) (hpl:(backTo pos (starEach es X.env)).any (·.1)=false:=by exact rfl):Q (PE X (.Call (.Name "len" p) (e::es) [] pos) (tE X.K W (bM bL fl))):=sX S j hj hg hm ha (dE he) hpl
theorem du {op:CmpOp} {r:R2} {g:PySem.PyData->PySem.PyData->Option PySem.PyData} (k:Ck X op r g) (ha:Q (PE X a (tE X.K W fa))) (hb:Q (PE X b (tE X.K W fb))) (hm:behindInMarks op b=false:=by with_unfolding_all rfl):Q (PT X (.Compare a [op] [b] pos) (tT X.K W (aQ ax (aE g fa fb)))):=HL k ha hb hm
theorem ik {op:CmpOp} {r:R2} {g:PySem.PyData->PySem.PyData->Option PySem.PyData} (k:Ck X op r g) (ha:Q (PE X a (tE X.K W fa))) (hb:Q (PE X b (tE X.K W fb))) (hm:behindInMarks op b=false:=by with_unfolding_all rfl):Q (PE X (.Compare a [op] [b] pos) (tE X.K W (aE g fa fb))):=HN k ha hb hm
theorem cg (ha:Q (PE X a (tE X.K W fa))):Q (PSs X [.Return (some a) pos] (tS X.K W (aP fa))):=d5 (sO ha)
theorem d7 {scope:Scope} {x:Str} {px:Pos} {iter elt:Expr} {ifs:List Expr} {fi:FI} {fe:F1} {fc:FB} (vs' cs' gs':List Nat) (S:Cp X N gl vs cs ls lo gs) (i:Nat) (hi':Q (PI X (.Name x px) iter (tI X.K W fi))) (hc:nT X N gl vs' cs' [i] [] gs' fun Y=>Q (PF Y ifs (tT Y.K W0 fc))) (he:nT X N gl vs' cs' [i] [] gs' fun Y=>Q (PE Y elt (tE Y.K W0 fe))) (hx:N[i]?=some x:=by exact rfl) (h1:i5 N i cs scope=true:=by kernel_rfl) (h2:jb N gl vs' cs' [i] [] gs' scope=true:=by kernel_rfl) (hs:∀x,foldedSetIterable iter X.env x=pure x:=by exact fun _=>rfl):Q (PE X (.ListComp elt [⟨.Name x px,iter,ifs,0⟩] scope pos) (tE X.K W (av .leaf i fi fc fe))):=HM S .leaf i hx h1 h2 hi' hc he hs
end
end TQ
namespace T
open PySem PySem.Spec L2
open PyProof.Rows hiding St
section
variable {K:Fg} {H:Hp} {O:List Addr} {σ:St} {Γ Γ1:Ev} {W:XW} {f:F1} {fb:FB} {Q:VK} {QB:Bool->Hp->Prop}
theorem GV:∀n:Nat,(List.replicate n ([]:List Addr)).flatten=[]
 | 0=>rfl
 | n+1=>by rw [List.replicate_succ,flatten_cons,GV n];rfl
theorem IV (nd:O.Nodup) (inH:∀a∈O,H a≠none) (hl:σ.length=Γ.length) (hs:∀(i:Nat) p,Γ[i]?=some (some p)->p.s=.leaf/\∃v,σ[i]?=some (some v)/\Rep K (bY H O) v p.d):EnvOk K H O (List.replicate Γ.length []) H σ Γ:=by
 have e:=GV Γ.length
 refine ⟨hl,List.length_replicate,Same.refl H,by rw [e,append_nil];exact nd,by rw [e,append_nil];exact inH,by rw [e];exact fun _ z=>(nomatch z),fun i p h=>?_⟩
 obtain ⟨h1,v,h2,h3⟩:=hs i p h;have hi:i<Γ.length:=(List.getElem?_eq_some_iff.mp h).1
 refine ⟨by rw [h1];rfl,v,[],h2,by rw [getElem?_replicate,if_pos hi],?_⟩
 rw [h1,e,append_nil];exact .leaf h3
theorem lP {K:Fg} {H:Hp} {vs:List V} {xs:List Int} (hl:vs.length=(xs.map PySem.PyData.int).length) (hr:∀(i:Nat) v d,vs[i]?=some v->(xs.map PySem.PyData.int)[i]?=some d->Rep K H v d):vs=xs.map V.int:=by
 rw [length_map] at hl;apply ext_getElem?
 intro i;by_cases hi:i<vs.length
 ·have hi2:i<xs.length:=by omega
  have q:=hr i vs[i] (.int xs[i]) (getElem?_eq_getElem hi) (by rw [getElem?_map,getElem?_eq_getElem hi2];rfl)
  rw [getElem?_eq_getElem hi,getElem?_map,getElem?_eq_getElem hi2];generalize vs[i]=u at q
  cases q;rfl
 ·rw [getElem?_eq_none (by omega),getElem?_eq_none (by rw [length_map];omega)]
theorem Kj {xs:List Int} (E:EnvOk K H O (List.replicate Γ.length []) H σ Γ) (hf:f Γ=.ok ⟨.leaf,.list (xs.map .int)⟩ Γ1) (q:∀p H',Same H H'->SqL K H' p (xs.map V.int)->Q (.ref p) H'):tE K W f σ H Q:=by
 refine ⟨_,_,_,_,E,?_⟩
 rw [hf];intro v H' G Fs' A
 cases A.own with
 | leaf r=>
  cases r with
  | @lst p vs _ hq hl hr=>
   rw [lP hl hr] at hq;exact q p H' A.same (hid_le.seq hq)
end
theorem xT {H:Hp} {O O':List Addr} (s:∀a∈O,a∈O'):Same (bY H O') (bY H O):=fun b o hb=>by
 unfold bY at hb ⊢
 split at hb
 ·cases hb
 ·rename_i nb
  rw [if_neg fun z=>nb (s b z)]
  exact hb
theorem pP {K:Fg} {O O':List Addr} {H:Hp} {s:Sh} {F:List Addr} {v:V} {d:D} (o:Own K O' H s F v d):s.isView=false->(∀a∈F,a∉O)->(∀a∈O,a∈O')->Rep K (bY H O) v d:=by
 induction o with
 | view _=>intro h;cases h
 | leaf r=>intro _ _ h;exact r.mono (xT h)
 | @lst s p vs ds Fs hv hp hl _ _ hi ih=>
  intro _ hf hO;refine .lst (.inl (.inl (vN hp (hf p mem_cons_self)))) hl fun i v d h1 h2=>?_
  have hF:i<Fs.length:=by have:=(List.getElem?_eq_some_iff.mp h2).1;omega
  exact ih i v d Fs[i] h1 h2 (getElem?_eq_getElem hF) hv (fun a ha=>hf a (mem_cons_of_mem _ (List.mem_flatten.mpr ⟨_,getElem_mem hF,ha⟩))) hO
 | @tup ss p vs ds Fs hv hp np hl hl2 hl3 _ hi ih=>
  intro _ hf hO;refine .tup (.inl (.inl (vN hp fun z=>np (hO p z)))) hl fun i v d h1 h2=>?_
  have hd:=(List.getElem?_eq_some_iff.mp h2).1
  have hF:i<Fs.length:=by omega
  have hS:i<ss.length:=by omega
  exact ih i v d Fs[i] ss[i] h1 h2 (getElem?_eq_getElem hF) (getElem?_eq_getElem hS) (hv _ (getElem_mem hS)) (fun a ha=>hf a (List.mem_flatten.mpr ⟨_,getElem_mem hF,ha⟩)) hO
theorem JW {K:Fg} {H:Hp} {O:List Addr} {σ:St} {Γ Γ1:Ev} {W:XW} {f:F1} {Q:VK} {p:PV} (inH:∀a∈O,H a≠none) (E:EnvOk K H O (List.replicate Γ.length []) H σ Γ) (hf:f Γ=.ok p Γ1) (hv:p.s.isView=false) (q:∀v H',Same H H'->Rep K (bY H' O) v p.d->Q v H'):tE K W f σ H Q:=by
 refine ⟨_,_,_,_,E,?_⟩
 rw [hf];intro v H' G Fs' A
 refine q v H' A.same (pP A.own hv (fun a ha z=>?_) fun a ha=>mem_append_left _ (mem_append_right _ ha))
 rcases A.new a (mem_append_left _ ha) with y | y
 ·rw [GV] at y;cases y
 ·exact inH a z y
noncomputable abbrev gA:List Str:=["rooms", "places", "room"]
noncomputable abbrev nM:List Str:=["sorted"]
noncomputable def qw (K:Fg):Sp:=fun vs H Q _=>∃(p d:Addr) (xs:List Int) (kvs:List (bR×V)) (h:Int->Option Int),vs=[.ref p,.ref d]/\SqL K H p (xs.map V.int)/\H d=some (.dK kvs)/\(∀k:Int,dt kvs (.inl k)=(h k).map V.int)/\xs.length<64 /\
 ∀l H',Same H H'->H l=none->H' l=some (.lst ((PySem.W.sortI (xs.filterMap h)).map V.int))->Q (.ref l) H'
noncomputable def HS (K:Fg):TS:=tj (Aa (t6 K) (dh (fP [2] (iQ K (br 0)) (bQ 2) (tB (z9 (br 2) (br 1))) (tq (br 1) (br 2))) ip))
theorem yc {h:Int->Option Int} {xs:List Int} {i:Nat} (hi:i<xs.length):(xs.take (i+1)).filterMap h=(xs.take i).filterMap h++(h xs[i]).toList:=by
 rw [List.take_succ,getElem?_eq_getElem hi,List.filterMap_append]
 cases e:h xs[i]<;>simp [e]
theorem Dg {K:Fg} {vs:List V} {H:Hp} {Q:VK} {E:XK} {Qn:St->Hp->Prop} (h:qw K vs H Q E):HS K { nx:=Qn,rt:=Q } (L2.start gA vs) H:=by
 obtain ⟨p,d,xs,kvs,f,rfl,hq,hd,hf,h64,q⟩:=h;refine ⟨.ref p,rfl,p,rfl,⟨_,hq⟩,fun L hL=>?_⟩
 have hbl:bo [2] (L2.start gA [V.ref p,.ref d])=[some (.ref p),some (.ref d),none]:=by
  show bo [2] [some (V.ref p),some (.ref d),none]=_
  simp [bo]
 refine ⟨fun i m ys H2=>m=xs.length-i/\i<=xs.length/\ys=((xs.take i).filterMap f).map V.int/\H2 L=some (.lst ys)/\Same H H2,⟨xs.length,by simp,Nat.zero_le _,by simp,dI,gC hL⟩,?_⟩
 rintro i m ys H2 ⟨rfl,hi,rfl,hLs,sH⟩
 refine ⟨hLs,?_⟩
 have hq2:SqL K H2 p (xs.map V.int):=sH.seq hq
 by_cases hlt:i<xs.length
 case neg=>
  left
  have hie:i=xs.length:=by omega
  subst hie;refine ⟨⟨_,hq2,by rw [length_map];exact Nat.le_refl _⟩,?_⟩
  rw [take_of_length_le (Nat.le_refl _)] at hLs;refine ⟨L,xs.filterMap f,rfl,.inl (.inl hLs),Nat.lt_of_le_of_lt (List.length_filterMap_le f xs) h64,fun l hl=>q l _ (sH.trans (gC hl)) (sH.free hl) dI⟩
 case pos=>
  right
  have e1:(xs.map V.int)[i]?=some (.int xs[i]):=by rw [getElem?_map,getElem?_eq_getElem hlt];rfl
  have hb:(1000:Nat)<=sizeLine:=by decide
  refine ⟨⟨_,_,hq2,e1⟩,by rw [length_map];have:=List.length_filterMap_le f (xs.take i);rw [length_take] at this;omega,?_⟩
  rintro v H3 ⟨rfl,hv⟩
  have ev:v=.int xs[i]:=Option.some.inj ((hv _ hq2).symm.trans e1)
  subst ev;rw [hbl];show F6 [some (.ref p),some (.ref d),none] [some (.ref p),some (.ref d),some (.int xs[i])]/\_
  refine ⟨⟨rfl,fun j u h=>?_⟩,?_⟩
  ·match j,h with
   | 0,h=>exact h
   | 1,h=>exact h
   | 2,h=>cases h
   | j+3,h=>cases h
  have g:=DGet.k (k:=Sum.inl xs[i]) (sH _ _ hd)
  rw [hf] at g;refine ⟨.int xs[i],rfl,.ref d,rfl,d,_,rfl,g,_,rfl,?_⟩
  have ft:=yc (h:=f) hlt
  cases e:f xs[i] with
  | none=>
   rw [e] at ft;refine g6 ⟨xs.length-(i+1),by omega,rfl,hlt,by rw [ft];simp,hLs,sH⟩
  | some z=>
   rw [e] at ft g
   refine g5 ⟨.ref d,rfl,.int xs[i],rfl,d,.int z,rfl,g,hLs,xs.length-(i+1),by omega,rfl,hlt,by rw [ft];simp,dI,fun c o hc=>?_⟩
   rw [cS (fun w=>by subst w;rw [hL] at hc;cases hc)]
   exact sH c o hc
end T
namespace KC
open PySem PySem.Spec L2 T PySem.SeqAt
open PyProof.Rows hiding St
noncomputable def lC (i:Nat):List Nat->List (bR×V)
 | []=>[]
 | r::R=>(.inl (r:Int),.int (i:Int))::lC (i+1) R
noncomputable def BD (R:List Nat) (x:Int):Option Int:=(R.findIdx? fun r:Nat=>decide ((r:Int)=x)).map fun k:Nat=>(k:Int)
theorem GE {x:Int}:∀(R:List Nat) (i:Nat),dt (lC i R) (.inl x)=(R.findIdx? fun r:Nat=>decide ((r:Int)=x)).map fun k=>V.int ((k+i:Nat):Int)
 | [],i=>rfl
 | r::R,i=>by
  rw [List.findIdx?_cons];by_cases e:(r:Int)=x
  ·rw [decide_eq_true e]
   unfold lC;rw [CQ (by rw [e])]
   simp
  ·rw [decide_eq_false e]
   unfold lC;rw [CP (fun z=>e (Sum.inl.inj z)),GE R (i+1)]
   simp only [Bool.false_eq_true,if_false,Option.map_map]
   congr 1
   funext k
   simp
   omega
theorem Bv {R:List Nat} (x:Int):dt (lC 0 R) (.inl x)=(BD R x).map V.int:=by
 rw [GE,BD,Option.map_map];rfl
theorem mK:∀(l:List Nat) (i a:Nat),lC i (l++[a])=lC i l++[(.inl (a:Int),.int ((i+l.length:Nat):Int))]
 | [],i,a=>rfl
 | b::l,i,a=>by
  show (Sum.inl (b:Int),V.int (i:Int))::lC (i+1) (l++[a])=_
  rw [mK l (i+1) a];show _=(Sum.inl (b:Int),V.int (i:Int))::(lC (i+1) l++_)
  rw [length_cons,show i+1+l.length=i+(l.length+1) by omega]
theorem pV:∀(l:List Nat) (i:Nat),(lC i l).length=l.length
 | [],_=>rfl
 | a::l,i=>by show (lC (i+1) l).length+1=_;rw [pV l (i+1)];rfl
noncomputable def qM (R ts:List Nat):List Nat:=(List.range R.length).filter fun k=>ts.contains (R.getD k 0)
noncomputable def dJ (w:Wd) (R:List Nat):Wd:=⟨R.length,R.map fun r=>.int (zg w r),R.map w.mks,R.map fun r=>qM R (w.stp r)⟩
theorem EH {R:List Nat} (nd:R.Nodup) {t:Nat} {k:Int}:BD R (t:Int)=some k↔∃j:Nat,k=(j:Int)/\R[j]?=some t:=by
 unfold BD;constructor
 ·intro h
  obtain ⟨j,h1,rfl⟩:=Option.map_eq_some_iff.mp h;obtain ⟨hj,h2,_⟩:=List.findIdx?_eq_some_iff_getElem.mp h1
  refine ⟨j,rfl,?_⟩
  rw [getElem?_eq_getElem hj];have:((R[j]:Nat):Int)=(t:Int):=by simpa using h2
  rw [Int.ofNat_inj.mp this]
 ·rintro ⟨j,rfl,h⟩
  obtain ⟨hj,e⟩:=List.getElem?_eq_some_iff.mp h
  refine Option.map_eq_some_iff.mpr ⟨j,List.findIdx?_eq_some_iff_getElem.mpr ⟨hj,by rw [e];simp,fun i hi=>?_⟩,rfl⟩
  have:=(List.nodup_iff_pairwise_ne.mp nd)
  have hne:=List.pairwise_iff_getElem.mp this i j (by omega) hj hi
  rw [e] at hne;simp
  intro z;exact hne (Int.ofNat_inj.mp z)
theorem uo {R ts:List Nat} (nd:R.Nodup) (rs:ts.Nodup):PySem.W.sortI ((ts.map fun t:Nat=>(t:Int)).filterMap (BD R))=(qM R ts).map fun k:Nat=>(k:Int):=by
 symm
 refine PySem.W.eq_sortI ?_ ?_
 ·have n1:((qM R ts).map fun k:Nat=>(k:Int)).Nodup:=by
   refine List.pairwise_map.mpr (List.Pairwise.imp (R:=fun a b:Nat=>a≠b) (fun h z=>h (Int.ofNat_inj.mp z)) ?_)
   exact (nodup_range).sublist filter_sublist
  have n2:((ts.map fun t:Nat=>(t:Int)).filterMap (BD R)).Nodup:=by
   rw [List.filterMap_map];refine List.Pairwise.filterMap _ (fun a b hab x hx y hy=>?_) rs
   intro z;subst z;obtain ⟨j,e1,e2⟩:=(EH nd).mp hx;obtain ⟨j',e3,e4⟩:=(EH nd).mp hy;rw [e1] at e3;rw [<-Int.ofNat_inj.mp e3,e2] at e4;exact hab (Option.some.inj e4)
  refine (List.perm_ext_iff_of_nodup n1 n2).mpr fun x=>?_
  rw [List.filterMap_map,List.mem_filterMap,mem_map];constructor
  ·rintro ⟨k,hk,rfl⟩
   obtain ⟨h1,h2⟩:=List.mem_filter.mp hk;have h1:=List.mem_range.mp h1
   have e:R.getD k 0=R[k]:=by rw [getD_eq_getElem?_getD,getElem?_eq_getElem h1];rfl
   rw [e] at h2;exact ⟨R[k],List.contains_iff_mem.mp h2,(EH nd).mpr ⟨k,rfl,getElem?_eq_getElem h1⟩⟩
  ·rintro ⟨t,ht,h⟩
   obtain ⟨j,rfl,h2⟩:=(EH nd).mp h;obtain ⟨hj,e⟩:=List.getElem?_eq_some_iff.mp h2
   refine ⟨j,List.mem_filter.mpr ⟨List.mem_range.mpr hj,List.contains_iff_mem.mpr ?_⟩,rfl⟩
   rw [getD_eq_getElem?_getD,h2];exact ht
 ·rw [pairwise_map]
  exact ((List.pairwise_lt_range).sublist filter_sublist).imp fun h=>by omega
theorem IE:∀{l m:List Nat},l.Nodup->(∀x∈l,x∈m)->l.length<=m.length
 | [],_,_,_=>Nat.zero_le _
 | a::l,m,h,hm=>by
  have ha:=hm a mem_cons_self
  obtain ⟨h1,h2⟩:=List.nodup_cons.mp h;have:=IE (m:=m.erase a) h2 fun x hx=>(List.mem_erase_of_ne (fun z:x=a=>h1 (z▸hx))).mpr (hm x (mem_cons_of_mem _ hx))
  rw [List.length_erase_of_mem ha] at this;have:=length_pos_of_mem ha
  rw [length_cons];omega
theorem ID {l:List Nat} {n:Nat} (h:l.Nodup) (hx:∀x∈l,x<n):l.length<=n:=by
 have:=IE (m:=List.range n) h fun x hx'=>List.mem_range.mpr (hx x hx')
 rwa [length_range] at this
noncomputable abbrev gB:List Str:=["world", "rooms", "places", "place", "room", "owners", "marks", "steps"]
noncomputable abbrev o4:List Str:=["enumerate", "list", "places_of"]
noncomputable abbrev ze:F1:=av .leaf 4 (aF (ae 1)) aG (ak (ak (ae 0) (eK (.int 0))) (ae 4))
noncomputable abbrev zf:F1:=av .leaf 4 (aF (ae 1)) aG (km (ak (ak (ae 0) (eK (.int 1))) (ae 4)))
noncomputable abbrev uE:F1:=ak (ak (ae 0) (eK (.int 2))) (ae 4)
noncomputable def HU (K:Fg):L2.TS:=
 fF (fQ tp (bQ 2)) (fF (wC (u2 K (dh (br 1) ip)) (xZ K 2 (jX (bQ 3) (jX (bQ 4) ya))) (pC (br 2) (br 4) (br 3)))
 (fF (fQ (tE K W0 ze) (bQ 5)) (fF (fQ (tE K W0 zf) (bQ 6))
 (fF (fun D σ H=>fP [4] (iQ K (br 1)) (bQ 4) pj (lQ (qw K) [] L2.E0 (dh (tE K W0 uE) (dh (br 2) ip))) σ H fun v H'=>D.nx (σ.set 7 (some v)) H')
 (tj (zX (dh (br 5) (dh (br 6) (dh (br 7) ip)))))))))
structure ly (w:Wd) (R:List Nat):Prop where
 ok:w.Ok
 nd:R.Nodup
 lt:∀r∈R,r<w.n
 len:R.length<=60
 rs:∀r,r<w.n->(w.stp r).Nodup
noncomputable abbrev GP (w:Wd) (R:List Nat) (x4:Option PV):Ev:=[some ⟨.leaf,w.enc⟩,some ⟨.leaf,ay R⟩,none,none,x4,none,none,none]
theorem BW {w:Wd} {R:List Nat} (h:ly w R):ze (GP w R none)=.ok ⟨.lst .leaf,.list (R.map fun r=>.int (zg w r))⟩ (GP w R none):=
 ie rm R (fun r=>⟨.leaf,.int (zg w r)⟩) (st:=true) (bZ (s:=.leaf) (aA rfl) rfl) (by simp) rfl (by have:=h.len;omega) fun r hr=>⟨Bb h.ok rfl (aA rfl) (h.lt r hr),rfl⟩
theorem BX {w:Wd} {R:List Nat} (h:ly w R):zf (GP w R none)=.ok ⟨.lst .leaf,.list ((R.map w.mks).map bX)⟩ (GP w R none):=by
 have e:=ie (Γ:=GP w R none) (s:=.leaf) (i:=4) (fi:=aF (ae 1)) (fe:=km (ak (ak (ae 0) (eK (.int 1))) (ae 4))) rm R (fun r=>⟨.lst .leaf,bX (w.mks r)⟩) (st:=true) (bZ (s:=.leaf) (aA rfl) rfl) (by simp) rfl (by have:=h.len;omega) fun r hr=>⟨Cv (Br h.ok rfl (aA rfl) (h.lt r hr)) rfl,rfl⟩
 rw [map_map];exact e
theorem qF {K:Fg} {H:Hp} {O:List Addr} {vs:List V} {w:Wd} {R:List Nat} {Q:VK} {Qn:St->Hp->Prop} (h:ly w R) (nd:O.Nodup) (inH:∀a∈O,H a≠none) (rs:Reps K (bY H O) vs [w.enc,ay R])
  (q:∀v H' G,RetOk K H O ⟨.leaf,(dJ w R).enc⟩ v H' G->Q v H'):HU K { nx:=Qn,rt:=Q } (L2.start gB vs) H:=by
 have hvl:vs.length=2:=rs.1
 match vs,hvl,rs with
 | [v0,v1],_,rs=>
 have r0:=rs.2 0 v0 _ rfl rfl
 have r1:=rs.2 1 v1 _ rfl rfl
 have inS:∀{H'},Same H H'->∀a∈O,H' a≠none:=fun {H'} s a ha=>by
  cases e:H a with
  | none=>exact absurd e (inH a ha)
  | some o=>rw [s a o e];exact Option.some_ne_none _
 have mono:∀{H'},Same H H'->Same (bY H O) (bY H' O):=fun s=>qm s fun a ha=>.inl ha
 have EE:∀(H':Hp) (σ:St),Same H H'->σ.length=8->σ[0]?=some (some v0)->σ[1]?=some (some v1)->∀x4:Option Nat,(∀r,x4=some r->σ[4]?=some (some (.int (r:Int))))->EnvOk K H' O (List.replicate (GP w R (x4.map fun r=>(⟨.leaf,rm r⟩:PV))).length []) H' σ (GP w R (x4.map fun r=>(⟨.leaf,rm r⟩:PV))):=fun H' σ s l s0 s1 x4 s4=>by
  refine IV nd (inS s) l fun i x hx=>?_
  match i,hx with
  | 0,hx=>cases hx;exact ⟨rfl,_,s0,r0.mono (mono s)⟩
  | 1,hx=>cases hx;exact ⟨rfl,_,s1,r1.mono (mono s)⟩
  | 4,hx=>
   cases x4 with
   | none=>cases hx
   | some r=>cases hx;exact ⟨rfl,_,s4 r rfl,.int r⟩
  | 2,hx=>cases hx
  | 3,hx=>cases hx
  | 5,hx=>cases hx
  | 6,hx=>cases hx
  | 7,hx=>cases hx
  | i+8,hx=>cases hx
 cases r1 with
 | @lst pr ws _ hqr hl hr=>
 have ews:ws=R.map fun r:Nat=>V.int (r:Int):=by
  have:=lP (xs:=R.map fun r:Nat=>(r:Int)) (by rw [map_map];exact hl) (by rw [map_map];exact hr)
  rw [this,map_map];rfl
 subst ews;have sqR:∀{H'},Same H H'->SqL K H' pr (R.map fun r:Nat=>V.int (r:Int)):=fun s=>s.seq (hid_le.seq hqr)
 have hlen:=h.len
 have hbz:(1000:Nat)<=sizeLine:=by decide
 intro d hd;have sd:Same H (bA H d (.dK [])):=gC hd
 refine ⟨_,rfl,pr,rfl,⟨_,sqR sd⟩,fun k m σ' H'=>m=R.length-k/\k<=R.length/\(∃x3 x4,σ'=[some v0,some (.ref pr),some (.ref d),x3,x4,none,none,none])/\H' d=some (.dK (lC 0 (R.take k)))/\Same H H',⟨R.length,by simp,Nat.zero_le _,⟨none,none,rfl⟩,dI,sd⟩,?_⟩
 rintro k m σ' H' ⟨rfl,hk,⟨x3,x4,rfl⟩,hD,sH⟩
 by_cases hlt:k<R.length
 case pos=>
  right
  have e1:(R.map fun r:Nat=>V.int (r:Int))[k]?=some (.int (R[k]:Int)):=by rw [getElem?_map,getElem?_eq_getElem hlt];rfl
  refine ⟨⟨_,_,sqR sH,e1⟩,fun σ2 H2=>(∃x3 x4,σ2=[some v0,some (.ref pr),some (.ref d),x3,x4,none,none,none])/\H2 d=some (.dK (lC 0 (R.take (k+1))))/\Same H H2,fun σ2 H2 q2=>⟨R.length-(k+1),by omega,rfl,hlt,q2⟩,?_⟩
  rintro x H2 ⟨T,v,rfl,hT,rfl,hv⟩
  have ev:v=.int (R[k]:Int):=Option.some.inj ((hv _ (sqR sH)).symm.trans e1)
  subst ev;have hdT:d≠T:=fun z=>by rw [<-z,hD] at hT;cases hT
  have sT:Same H (bA H' T (.tup [.int (k:Int),.int (R[k]:Int)])):=sH.trans (gC hT)
  refine ⟨T,_,rfl,.inl (.inl dI),rfl,_,_,rfl,_,_,rfl,rfl,?_⟩
  have hD2:bA H' T (.tup [.int (k:Int),.int (R[k]:Int)]) d=some (.dK (lC 0 (R.take k))):=by rw [cS hdT];exact hD
  have hnone:dt (lC 0 (R.take k)) (.inl (R[k]:Int))=none:=by
   rw [GE,Option.map_eq_none_iff,List.findIdx?_eq_none_iff];intro x hx;have hx':x≠R[k]:=fun z=>by
    obtain ⟨i,hi,e⟩:=getElem_of_mem hx;rw [length_take] at hi;rw [List.getElem_take] at e;have:=List.pairwise_iff_getElem.mp (List.nodup_iff_pairwise_ne.mp h.nd) i k (by omega) hlt (by omega)
    exact this (e.trans z)
   simp
   omega
  refine ⟨_,rfl,_,rfl,_,rfl,d,_,rfl,DPut.k (k:=Sum.inl (R[k]:Int)) hD2 (by rw [pV,length_take];omega),⟨_,_,rfl⟩,?_,fun c o hc=>?_⟩
  ·rw [dI,ml _ hnone,List.take_succ,getElem?_eq_getElem hlt]
   show _=some (HO.dK (lC 0 (R.take k++[R[k]])))
   rw [mK,length_take,Nat.min_eq_left (by omega),Nat.zero_add]
  ·rw [cS (fun z=>by subst z;rw [hd] at hc;cases hc)]
   exact sT c o hc
 case neg=>
  left
  refine ⟨⟨_,sqR sH,by rw [length_map];omega⟩,?_⟩
  rw [take_of_length_le (by omega)] at hD
  clear hk hlt;refine JW (inS sH) (EE H' _ sH rfl rfl rfl none (fun _ z=>nomatch z)) (BW h) rfl fun v5 H5 s5 p5=>?_
  refine JW (inS (sH.trans s5)) (EE H5 _ (sH.trans s5) rfl rfl rfl none (fun _ z=>nomatch z)) (BX h) rfl fun v6 H6 s6 p6=>?_
  have s06:Same H H6:=(sH.trans s5).trans s6
  have hD6:H6 d=some (.dK (lC 0 R)):=s6 _ _ (s5 _ _ hD)
  refine ⟨_,rfl,pr,rfl,⟨_,sqR s06⟩,fun L hL=>?_⟩
  have hbl:bo [4] [some v0,some (V.ref pr),some (.ref d),x3,x4,some v5,some v6,none]=[some v0,some (.ref pr),some (.ref d),x3,none,some v5,some v6,none]:=by simp [bo]
  refine ⟨fun i m ys H2=>m=R.length-i/\i<=R.length/\(∃ls:List Addr,ys=ls.map V.ref/\ls.length=i/\∀(j:Nat) l,ls[j]?=some l->l≠L/\H6 l=none/\H2 l=some (.lst ((qM R (w.stp (R.getD j 0))).map fun k:Nat=>V.int (k:Int))))/\H2 L=some (.lst ys)/\Same H6 H2,⟨R.length,by simp,Nat.zero_le _,⟨[],rfl,rfl,fun j l z=>by simp at z⟩,dI,gC hL⟩,?_⟩
  rintro i m ys H2 ⟨rfl,hi,⟨ls,rfl,hll,hls⟩,hLs,s2⟩
  refine ⟨hLs,?_⟩
  have s02:Same H H2:=s06.trans s2
  by_cases hlt2:i<R.length
  case pos=>
   right
   have e1:(R.map fun r:Nat=>V.int (r:Int))[i]?=some (.int (R[i]:Int)):=by rw [getElem?_map,getElem?_eq_getElem hlt2];rfl
   refine ⟨⟨_,_,sqR s02,e1⟩,by rw [length_map];omega,?_⟩
   rintro v H3 ⟨rfl,hv⟩
   have ev:v=.int (R[i]:Int):=Option.some.inj ((hv _ (sqR s02)).symm.trans e1)
   subst ev;rw [show ([some v0,some (V.ref pr),some (V.ref d),x3,x4,none,none,none].set 5 (some v5)).set 6 (some v6)=[some v0,some (V.ref pr),some (.ref d),x3,x4,some v5,some v6,none] from rfl,hbl]
   show F6 [some v0,some (.ref pr),some (.ref d),x3,none,some v5,some v6,none] [some v0,some (.ref pr),some (.ref d),x3,some (.int (R[i]:Int)),some v5,some v6,none]/\_
   refine ⟨⟨rfl,fun j u hu=>?_⟩,?_⟩
   ·match j,hu with
    | 0,hu=>exact hu
    | 1,hu=>exact hu
    | 2,hu=>exact hu
    | 3,hu=>exact hu
    | 4,hu=>cases hu
    | 5,hu=>exact hu
    | 6,hu=>exact hu
    | 7,hu=>exact hu
    | j+8,hu=>cases hu
   refine DI ?_
   have hRi:R[i]<w.n:=h.lt _ (getElem_mem hlt2)
   have est:uE (GP w R (some ⟨.leaf,rm R[i]⟩))=.ok ⟨.leaf,.list ((((w.stp R[i]).map fun t:Nat=>(t:Int))).map .int)⟩ (GP w R (some ⟨.leaf,rm R[i]⟩)):=by
    rw [map_map];exact pz h.ok rfl (aA rfl) hRi
   refine Kj (EE _ _ s02 rfl rfl rfl (some R[i]) (fun r hr=>by cases hr;rfl)) est fun p3 H3 s3 q3=>?_
   have lst:(w.stp R[i]).length<64:=by
    have:=h.rs _ hRi
    have l1:(w.stp R[i]).length<=w.n:=by
     exact ID (h.rs _ hRi) fun x hx=>h.ok.stp_lt hx
    have:=h.ok.h24
    omega
   refine ⟨_,rfl,p3,d,(w.stp R[i]).map fun t:Nat=>(t:Int),lC 0 R,BD R,rfl,q3,s3 _ _ (s2 _ _ hD6),Bv,by rw [length_map];exact lst,fun l H4 s4 hl4 hl=>?_⟩
   rw [uo h.nd (h.rs _ hRi),map_map] at hl;have hL3:H3 L=some (.lst (ls.map V.ref)):=s3 _ _ hLs
   have hL4:H4 L=some (.lst (ls.map V.ref)):=s4 _ _ hL3
   have hlL:l≠L:=fun z=>by rw [z,hL3] at hl4;cases hl4
   have hl6:H6 l=none:=(s2.trans s3).free hl4
   refine ⟨hL4,R.length-(i+1),by omega,rfl,hlt2,⟨ls++[l],by simp,by rw [length_append,hll];rfl,fun j l' hj=>?_⟩,dI,fun c o hc=>?_⟩
   ·by_cases hj2:j<ls.length
    ·rw [getElem?_append_left hj2] at hj
     obtain ⟨a1,a2,a3⟩:=hls j l' hj
     refine ⟨a1,a2,?_⟩
     rw [cS a1];exact s4 _ _ (s3 _ _ a3)
    ·have hje:j=ls.length:=by
      have:=(List.getElem?_eq_some_iff.mp hj).1
      rw [length_append,length_singleton] at this;omega
     subst hje;rw [getElem?_append_right (Nat.le_refl _),Nat.sub_self] at hj
     cases hj;refine ⟨hlL,hl6,?_⟩
     rw [cS hlL,hll,getD_eq_getElem?_getD,getElem?_eq_getElem hlt2];exact hl
   ·rw [cS (fun z=>by subst z;rw [hL] at hc;cases hc)]
    exact s4 _ _ (s3 _ _ (s2 _ _ hc))
  case neg=>
   left
   have hie:i=R.length:=by omega
   subst hie;refine ⟨⟨_,sqR s02,by rw [length_map];omega⟩,?_⟩
   refine ⟨_,rfl,_,rfl,_,rfl,by show 3<=sizeLine;decide,fun t ht=>?_⟩
   have sT:Same H2 (bA H2 t (.tup [v5,v6,.ref L])):=gC ht
   have nO:∀{a},H6 a=none->a∉O:=fun {a} ha z=>inS s06 a z ha
   have tO:t∉O:=fun z=>inS s02 t z ht
   refine q _ _ [] ⟨s02.trans sT,(fun _ z=>nomatch z),(fun _ z=>nomatch z),nodup_nil,.leaf (.tup (vs:=[v5,v6,.ref L]) (.inl (.inl (vN dI tO))) rfl fun j v dd e1 e2=>?_),rfl⟩
   have m5:Same (bY H5 O) (bY (bA H2 t (.tup [v5,v6,.ref L])) O):=qm ((s6.trans s2).trans sT) fun a ha=>.inl ha
   have m6:Same (bY H6 O) (bY (bA H2 t (.tup [v5,v6,.ref L])) O):=qm (s2.trans sT) fun a ha=>.inl ha
   match j,e1,e2 with
   | 0,e1,e2=>cases e1;cases e2;exact p5.mono m5
   | 1,e1,e2=>cases e1;cases e2;exact p6.mono m6
   | 2,e1,e2=>
    cases e1
    cases e2;refine .lst (.inl (.inl (vN (sT _ _ hLs) (nO hL)))) ?_ ?_
    ·simp [dJ,hll]
    ·intro i' v' d' f1 f2
     have hi':i'<ls.length:=by
      have:=(List.getElem?_eq_some_iff.mp f1).1
      rwa [length_map] at this
     rw [getElem?_map,getElem?_eq_getElem hi'] at f1
     cases f1;obtain ⟨a1,a2,a3⟩:=hls i' _ (getElem?_eq_getElem hi')
     have hR:i'<R.length:=by omega
     have ed:d'=ay (qM R (w.stp (R.getD i' 0))):=by
      simp only [dJ,map_map] at f2
      rw [getElem?_map,getElem?_eq_getElem hR] at f2
      cases f2;rw [getD_eq_getElem?_getD,getElem?_eq_getElem hR];rfl
     rw [ed];refine .lst (.inl (.inl (vN (sT _ _ a3) (nO a2)))) (by simp) fun i3 v3 d3 g1 g2=>?_
     rw [getElem?_map] at g1 g2
     cases e:(qM R (w.stp (R.getD i' 0)))[i3]? with
     | none=>rw [e] at g1;cases g1
     | some z=>rw [e] at g1 g2;cases g1;cases g2;exact .int _
   | j+3,e1,e2=>cases e1
theorem pE {R S:List Nat} (h:ay R=ay S):R=S:=(map_inj_right (f:=rm) fun a b e=>Int.ofNat_inj.mp (PyData.int.inj e)).mp (PyData.list.inj h)
theorem wu {R S:List Str} (h:bX R=bX S):R=S:=(map_inj_right (f:=PyData.str) fun a b e=>PyData.str.inj e).mp (PyData.list.inj h)
theorem yd {w v:Wd} (ok:w.Ok) (ov:v.Ok) (h:w.enc=v.enc):w=v:=by
 have h:=PyData.tuple.inj h
 injection h with h1 h
 injection h with h2 h
 injection h with h3 _
 have h1:=PyData.list.inj h1
 have h2:=(map_inj_right (f:=bX) fun a b e=>wu e).mp (PyData.list.inj h2)
 have h3:=(map_inj_right (f:=ay) fun a b e=>pE e).mp (PyData.list.inj h3)
 have hn:w.n=v.n:=by rw [<-ok.ls,<-ov.ls,h3]
 cases w
 cases v
 cases hn
 cases h1
 cases h2
 cases h3;rfl
noncomputable def J2 (ds:List PySem.PyData):Prop:=∃x:Wd×List Nat,ds=[x.1.enc,ay x.2]/\ly x.1 x.2
open Classical in
noncomputable def cn (ds:List PySem.PyData):bN:=if h:J2 ds then .ok ⟨.leaf,(dJ h.choose.1 h.choose.2).enc⟩ else .no
theorem oO {w:Wd} {R:List Nat} (h:ly w R):cn [w.enc,ay R]=.ok ⟨.leaf,(dJ w R).enc⟩:=by
 have H:J2 [w.enc,ay R]:=⟨(w,R),rfl,h⟩
 unfold cn;rw [dif_pos H];obtain ⟨e,o⟩:=H.choose_spec;injection e with e1 e
 injection e with e2 _
 rw [<-yd h.ok o.ok e1,<-pE e2]
theorem mI {ds:List PySem.PyData} {p:PV} (h:cn ds=.ok p):∃w R,ds=[w.enc,ay R]/\ly w R/\p=⟨.leaf,(dJ w R).enc⟩:=by
 unfold cn at h;split at h
 ·rename_i H
  cases h;obtain ⟨e,o⟩:=H.choose_spec;exact ⟨_,_,e,o,rfl⟩
 ·cases h
noncomputable def vH (P:Program) (w:World) (K:Fg) (mg:Str->Option Value) (base:Heap) (j:Nat):Prop:=
 ∃(f:Addr) (fd:FuncData) (ps:List Str),eR P w K mg base nP j f fd ps (qw K)/\mg "places_of"=some (.ref f)/\PySem.W.keepIn K (.ref f)=true/\Binds K fd ps []
theorem DB {P:Program} {w:World} {K:Fg} {mg:Str->Option Value} {base:Heap} {f:Addr} {fd:FuncData} {st:Stmt} {k:Nat} (F:Fun K "places_of" "places_of" st f fd) (hm:mg "places_of"=some (.ref f)) (b:Binds K fd ["rooms", "places"] [])
  (sc:cB gA ["rooms", "places"] (fD st)) {vs cs ls lo gs:List Nat} (cp:jb gA nM vs cs ls lo gs (fD st)=true) (nm:uO gA nM=true) (n_sorted:mg "sorted"=none)
  (bd:∀X:Cx,Cp X gA nM vs cs ls lo gs->Rm X->X.mg "sorted"=none->PSs X (nV st) (HS X.K)):vH P w K mg base (k+1):=by
 refine ⟨f,fd,["rooms", "places"],F.ok sc (fun vs H Q E h=>?_) (fun cdv A outer s H vs Q E hr h=>?_),hm,F.kp,b⟩
 ·obtain ⟨p,d,xs,kvs,g,rfl,_⟩:=h
  rfl
 ·exact ⟨_,bd _ (Cp.fn cp nm) hr.units n_sorted,Dg h⟩
theorem DC {P:Program} {w:World} {K:Fg} {mg:Str->Option Value} {base:Heap} {f:Addr} {fd:FuncData} {st:Stmt} {j k:Nat} (F:Fun K "placed" "placed" st f fd) (hm:mg "placed"=some (.ref f)) (b:Binds K fd ["world", "rooms"] [])
  {vs cs ls lo gs:List Nat} (sc:cB gB ["world", "rooms"] (fD st)) (cp:jb gB o4 vs cs ls lo gs (fD st)=true) (nm:uO gB o4=true) (n_enum:mg "enumerate"=none) (n_list:mg "list"=none)
  (c:vH P w K mg base j) (hj:decide (j<=k)=true)
  (bd:∀X:Cx,Cp X gB o4 vs cs ls lo gs->Rm X->PassesOwn (model X.prog X.w) X.A X.env X.xe->X.mg "enumerate"=none->X.mg "list"=none->(∃(k:Nat) (f:Addr) (fd:FuncData) (ps:List Str),eR X.prog X.w X.K X.mg X.base nP k f fd ps (qw X.K)/\Room k X.A/\X.mg "places_of"=some (.ref f)/\PySem.W.keepIn X.K (.ref f)=true/\Binds X.K fd ps [])->PSs X (nV st) (HU X.K)):DefOk P w K mg base (k+1) "placed" 2 cn:=by
 refine ⟨f,fd,["world", "rooms"],F.ok sc (fun vs H Q E h=>h.1) (fun cdv A outer s H vs Q E hr h=>?_),hm,F.kp,b⟩
 obtain ⟨hl,O,ds,nd,inH,rs,w'⟩:=h
 cases e:cn ds with
 | er c=>rw [e] at w';exact w'.elim
 | no=>rw [e] at w';exact w'.elim
 | ok p=>
  rw [e] at w';obtain ⟨wd,R,rfl,h1,rfl⟩:=mI e;obtain ⟨f',fd',ps',F',a',b',c'⟩:=c;exact ⟨_,bd _ (Cp.fn cp nm) hr.units PassesOwn.never n_enum n_list ⟨j,f',fd',ps',F',hr.mono (of_decide_eq_true hj),a',b',c'⟩,qF h1 nd inH rs w'⟩
end KC
namespace T
open PySem PySem.Spec L2
open PyProof.Rows hiding St
theorem gN {X:Cx} {N gl:List Str} {vs cs ls lo gs:List Nat} {W:XW} {pos:Pos} {scope:Scope} {x y:Str} {px pos' spos:Pos} {iter elt:Expr} {ifs:List Expr} {fi:FI} {fe:F1} {fc:FB} {vs' cs' lo' gs':List Nat} (S:Cp X N gl vs cs ls lo gs) (j:Nat) (s:Sh) (i:Nat) (hy:N[j]?=some y) (hyl:lo.contains j=true) (hx:N[i]?=some x)
  (hsl:(pos'.line==pos.line)=true) (hsn:(scope.names.any fun (n,k)=>n==y&&(k==NameKind.local||k==NameKind.cell))=false) (h1:i5 N i cs scope=true) (h2:jb N gl vs' cs' [i] lo' gs' scope=true)
  (hi':PI X (.Name x px) iter (tI X.K W fi)) (hc:nT X N gl vs' cs' [i] lo' gs' fun Y=>PF Y ifs (tT Y.K W0 fc)) (he:nT X N gl vs' cs' [i] lo' gs' fun Y=>PE Y elt (tE Y.K W0 fe)) (hs:∀x,foldedSetIterable iter X.env x=pure x) :
  PS X (.Assign [.Name y pos'] (.ListComp elt [⟨.Name x px,iter,ifs,0⟩] scope pos) spos) (fQ (tE X.K W (av s i fi fc fe)) (bQ j)):=by
 have B:=fun cells C s₀ H₀ ex=>S.blk h2 cells C s₀ H₀ ex
 have L:=fun cells C s₀ H₀ ex=>(B cells C s₀ H₀ ex).loc i x hx (by simp)
 have hN:X.N.Nodup:=by rw [S.hN];exact S.nd
 have hx':X.N[i]?=some x:=by rw [S.hN];exact hx
 exact dy (Fd hN (by rw [S.hN];exact hy) (S.loo j y hy hyl) (Hk S h1) S.calm hi' (fun cells C s₀ H₀ ex=>nW (X:=blk X scope cells C s₀ H₀ ex) (i:=i) hN hx' (L cells C s₀ H₀ ex).1 (L cells C s₀ H₀ ex).2) (fun cells C s₀ H₀ ex=>hc _ (B cells C s₀ H₀ ex) ⟨rfl,rfl,rfl,rfl,rfl,rfl⟩) (fun cells C s₀ H₀ ex=>he _ (B cells C s₀ H₀ ex) ⟨rfl,rfl,rfl,rfl,rfl,rfl⟩)
  (Fe S.kind (S.loo j y hy hyl) hsl hsn) hs) fun D σ H h=>GL h
end T
namespace KC
open PySem PySem.Spec L2 T
open PyProof.Rows hiding St
noncomputable def cN:Stmt:=HV 25
noncomputable def eu:Stmt:=HV 26
theorem Dc:cB gA ["rooms", "places"] (fD cN):=⟨rfl,rfl,rfl,by decide +kernel,rfl,by decide +kernel,by decide +kernel⟩
theorem DX:jb gA nM [0,1] [1] [0,1] [0] [0] (fD cN)=true:=by kernel_rfl
theorem DD:uO gA nM=true:=by kernel_rfl
theorem Dd:cB gB ["world", "rooms"] (fD eu):=⟨rfl,rfl,rfl,by decide +kernel,rfl,by decide +kernel,by decide +kernel⟩
theorem DY:jb gB o4 [0,1,2,3,4,5,6,7] [0,2] [0,1,2,3,4,5,6,7] [1,3,4,5,6,7] [0] (fD eu)=true:=by kernel_rfl
theorem DE:uO gB o4=true:=by kernel_rfl
theorem pQ {X:Cx} {N gl:List Str} {vs cs ls lo gs:List Nat} (S:Cp X N gl vs cs ls lo gs) (i:Nat) (x:Str) (pos:Pos) (e:N[i]?=some x) (hi:vs.contains i=true):PE X (.Name x pos) (br i):=by
 have m:=S.nm x (mem_of_getElem? e)
 exact wb (by rw [S.hN];exact e) (S.vis i x e hi) m.1 m.2
theorem xo {X:Cx} {scope:Scope} {p1 p2 p3 p4 p5 p6 p7 p8 pos:Pos} (S:Cp X gA nM [0,1] [1] [0,1] [0] [0]) (hu:X.A.units+1<cLine) (h1:zI gA [2] [1] scope=true) (h2:jb gA nM [1,2] [1] [2] [] [] scope=true) (hs:∀x,foldedSetIterable (.Name "rooms" p5) X.env x=pure x) :
  PE X (.ListComp (.Subscript (.Name "places" p1) (.Name "room" p2) p3) [⟨.Name "room" p4,.Name "rooms" p5,[.Compare (.Name "room" p6) [.In] [.Name "places" p7] p8],0⟩] scope pos) (fP [2] (iQ X.K (br 0)) (bQ 2) (tB (z9 (br 2) (br 1))) (tq (br 1) (br 2))):=by
 have hN:X.N.Nodup:=by rw [S.hN];exact S.nd
 have B:=fun cells C s₀ H₀ ex=>S.blk h2 cells C s₀ H₀ ex
 exact GG (E8 S h1) S.calm (Et (pQ S 0 _ _ rfl rfl))
  (fun cells C s₀ H₀ ex=>nW (X:=L2.blk X scope cells C s₀ H₀ ex) (i:=2) hN (by show X.N[2]?=_;rw [S.hN];rfl) ((B cells C s₀ H₀ ex).loc 2 _ rfl rfl).1 ((B cells C s₀ H₀ ex).loc 2 _ rfl rfl).2)
  (fun cells C s₀ H₀ ex=>ur (ug (Ba (X:=L2.blk X scope cells C s₀ H₀ ex) hu (pQ (B cells C s₀ H₀ ex) 2 _ _ rfl rfl) (pQ (B cells C s₀ H₀ ex) 1 _ _ rfl rfl)) (by with_unfolding_all rfl)))
  (fun cells C s₀ H₀ ex=>xv (X:=L2.blk X scope cells C s₀ H₀ ex) hu (pQ (B cells C s₀ H₀ ex) 1 _ _ rfl rfl) (pQ (B cells C s₀ H₀ ex) 2 _ _ rfl rfl) (fun _ _=>rfl)) hs
theorem D0 {X:Cx} (S:Cp X gA nM [0,1] [1] [0,1] [0] [0]) (R:Rm X) (n_sorted:X.mg "sorted"=none):PSs X (nV cN) (HS X.K):=by
 have hu:X.A.units+1<cLine:=Nat.lt_of_le_of_lt (by omega) R
 exact yQ (En (GZ oV (S.g (j:=0) rfl rfl).1 n_sorted nJ (sk (xo S hu (by kernel_rfl) (by kernel_rfl) (fun _=>rfl)) wa (dE rfl)) (S.g (j:=0) rfl rfl).2.2 (S.g (j:=0) rfl rfl).2.1 (dE rfl) rfl))
theorem kH {P:Program} {w:World} {K:Fg} {mg:Str->Option Value} {base:Heap} {f:Addr} {fd:FuncData} {k:Nat} (F:Fun K "places_of" "places_of" cN f fd) (hm:mg "places_of"=some (.ref f)) (b:Binds K fd ["rooms", "places"] []) (n_sorted:mg "sorted"=none):vH P w K mg base (k+1):=
 DB F hm b Dc DX DD n_sorted fun X S R n=>D0 S R n
noncomputable abbrev J7 (X:Cx):Prop:=Cp X gB o4 [0,1,2,3,4,5,6,7] [0,2] [0,1,2,3,4,5,6,7] [1,3,4,5,6,7] [0]
noncomputable abbrev J9 (X:Cx):Prop:=∃(k:Nat) (f:Addr) (fd:FuncData) (ps:List Str),eR X.prog X.w X.K X.mg X.base nP k f fd ps (qw X.K)/\Room k X.A/\X.mg "places_of"=some (.ref f)/\PySem.W.keepIn X.K (.ref f)=true/\Binds X.K fd ps []
theorem xp {X:Cx} {scope:Scope} {p1 p2 p3 p4 p5 p6 p7 p8 p9 p10 pos' spos pos:Pos} (S:J7 X) (c:J9 X) (hsl:(pos'.line==pos.line)=true) (hsn:(scope.names.any fun (n,k)=>n==("steps":Str)&&(k==NameKind.local||k==NameKind.cell))=false)
  (h1:zI gB [4] [0,2] scope=true) (h2:jb gB o4 [0,2,4] [0,2] [4] [] [2] scope=true) (hs:∀x,foldedSetIterable (.Name "rooms" p9) X.env x=pure x) :
  PS X (.Assign [.Name "steps" pos'] (.ListComp (.Call (.Name "places_of" p1) [.Subscript (.Subscript (.Name "world" p2) (.Constant (.int 2) 0 p3) p4) (.Name "room" p5) p6,.Name "places" p7] [] p8) [⟨.Name "room" p10,.Name "rooms" p9,[],0⟩] scope pos) spos)
   (fun D σ H=>fP [4] (iQ X.K (br 1)) (bQ 4) pj (lQ (qw X.K) [] L2.E0 (dh (tE X.K W0 uE) (dh (br 2) ip))) σ H fun v H'=>D.nx (σ.set 7 (some v)) H'):=by
 have hN:X.N.Nodup:=by rw [S.hN];exact S.nd
 have B:=fun cells C s₀ H₀ ex=>S.blk h2 cells C s₀ H₀ ex
 obtain ⟨k,f,fd,ps,F,hr,a1,a2,a3⟩:=c;exact Fd hN (by rw [S.hN];rfl) (S.loo 7 "steps" rfl rfl) (E8 S h1) S.calm (Et (pQ S 1 _ _ rfl rfl))
  (fun cells C s₀ H₀ ex=>nW (X:=L2.blk X scope cells C s₀ H₀ ex) (i:=4) hN (by show X.N[4]?=_;rw [S.hN];rfl) ((B cells C s₀ H₀ ex).loc 4 _ rfl rfl).1 ((B cells C s₀ H₀ ex).loc 4 _ rfl rfl).2)
  (fun cells C s₀ H₀ ex=>uu)
  (fun cells C s₀ H₀ ex=>GF (X:=L2.blk X scope cells C s₀ H₀ ex) F hr ((B cells C s₀ H₀ ex).g (j:=2) rfl rfl).1 a1 a2 a3 .nil uD (sk (TQ.Q.p (TQ.w_de_idx (TQ.w_de_idx (TQ.w_cv (B cells C s₀ H₀ ex) 0 rfl rfl) TQ.w_de_int (fun _ _=>rfl)) (TQ.w_cv (B cells C s₀ H₀ ex) 4 rfl rfl) (fun _ _=>rfl))) (sk (pQ (B cells C s₀ H₀ ex) 2 _ _ rfl rfl) wa (dE rfl)) (dE rfl)) (by decide) (dE rfl) rfl)
  (Fe S.kind (S.loo 7 "steps" rfl rfl) hsl hsn) hs
theorem D1 {X:Cx} (S:J7 X) (R:Rm X) (hp:PassesOwn (model X.prog X.w) X.A X.env X.xe) (n_enum:X.mg "enumerate"=none) (n_list:X.mg "list"=none) (c:J9 X):PSs X (nV eu) (HU X.K):=by
 have hN:X.N.Nodup:=by rw [S.hN];exact S.nd
 have hu:X.A.units+1<cLine:=Nat.lt_of_le_of_lt (by omega) R
 have g:∀(i:Nat) (x:Str),gB[i]?=some x->X.N[i]?=some x:=fun i x e=>by rw [S.hN];exact e
 have lc:∀(i:Nat) (x:Str),gB[i]?=some x->[0,1,2,3,4,5,6,7].contains i=true->Loc X.env.scope x/\(X.fn x=true\/X.env.scope.names.lookup x=some .local):=fun i x e hi=>S.loc i x e hi
 refine qo (CL hN (g 2 _ rfl) (lc 2 _ rfl rfl).1 uA rfl (lc 2 _ rfl rfl).2) ?_
 refine qo (Gk hp S.calm (GH (S.g (j:=0) rfl rfl).1 n_enum (sk (pQ S 1 _ _ rfl rfl) wa (dC rfl)) (dC rfl)) (Em S.calm (yM (nW hN (g 3 _ rfl) (lc 3 _ rfl rfl).1 (lc 3 _ rfl rfl).2) (yM (nW hN (g 4 _ rfl) (lc 4 _ rfl rfl).1 (lc 4 _ rfl rfl).2) Es))) (yQ (pM hu (pQ S 2 _ _ rfl rfl) (pQ S 4 _ _ rfl rfl) (pQ S 3 _ _ rfl rfl) rfl)) (fun _=>rfl)) ?_
 refine qo (gN (vs':=[0,4]) (cs':=[0]) (lo':=[]) (gs':=[]) S 5 .leaf 4 rfl rfl rfl rfl rfl (by kernel_rfl) (by kernel_rfl) (TQ.Q.p (TQ.w_di_seq (TQ.w_cv S 1 rfl rfl))) (fun _ _ _=>TQ.Q.p TQ.w_df_nil) (fun Y S1 _=>TQ.Q.p (TQ.w_de_idx (TQ.w_de_idx (TQ.w_cv S1 0 rfl rfl) TQ.w_de_int (fun _ _=>rfl)) (TQ.w_cv S1 4 rfl rfl) (fun _ _=>rfl))) (fun _=>rfl)) ?_
 refine qo (gN (vs':=[0,4]) (cs':=[0]) (lo':=[]) (gs':=[1]) S 6 .leaf 4 rfl rfl rfl rfl rfl (by kernel_rfl) (by kernel_rfl) (TQ.Q.p (TQ.w_di_seq (TQ.w_cv S 1 rfl rfl))) (fun _ _ _=>TQ.Q.p TQ.w_df_nil) (fun Y S1 F1=>TQ.Q.p (TQ.w_cb_list S1 1 rfl rfl (F1.n n_list) (TQ.w_de_idx (TQ.w_de_idx (TQ.w_cv S1 0 rfl rfl) TQ.w_de_int (fun _ _=>rfl)) (TQ.w_cv S1 4 rfl rfl) (fun _ _=>rfl)) (dC rfl))) (fun _=>rfl)) ?_
 refine qo (xp S c rfl rfl (by kernel_rfl) (by kernel_rfl) (fun _=>rfl)) ?_
 exact yQ (En (uv (sk (pQ S 5 _ _ rfl rfl) (sk (pQ S 6 _ _ rfl rfl) (sk (pQ S 7 _ _ rfl rfl) wa (dE rfl)) (dE rfl)) (dE rfl))))
theorem qU {P:Program} {w:World} {K:Fg} {mg:Str->Option Value} {base:Heap} {f:Addr} {fd:FuncData} {j k:Nat} (F:Fun K "placed" "placed" eu f fd) (hm:mg "placed"=some (.ref f)) (b:Binds K fd ["world", "rooms"] []) (n_enum:mg "enumerate"=none) (n_list:mg "list"=none)
  (c:vH P w K mg base j) (hj:decide (j<=k)=true):DefOk P w K mg base (k+1) "placed" 2 cn:=
 DC F hm b Dd DY DE n_enum n_list c hj fun X S R hp n1 n2 ca=>D1 S R hp n1 n2 ca
open PySem.SeqAt
section
variable {w:Wd} {R:List Nat}
noncomputable abbrev fM (R:List Nat) (k:Nat):Nat:=R.getD k 0
theorem Gr {k:Nat} (h:k<R.length):fM R k∈R:=by
 rw [fM,getD_eq_getElem?_getD,getElem?_eq_getElem h];exact getElem_mem h
theorem mem_plS {ts:List Nat} {k:Nat}:k∈qM R ts↔k<R.length/\fM R k∈ts:=by
 unfold qM;rw [mem_filter,mem_range,contains_iff_mem]
theorem um {k:Nat} (h:k<R.length):(dJ w R).mks k=w.mks (fM R k):=by
 show (R.map w.mks).getD k []=_
 rw [fM,getD_eq_getElem?_getD,getD_eq_getElem?_getD,getElem?_map,getElem?_eq_getElem h];rfl
theorem uk {k:Nat} (h:k<R.length):(dJ w R).stp k=qM R (w.stp (fM R k)):=by
 show (R.map fun r=>qM R (w.stp r)).getD k []=_
 rw [fM,getD_eq_getElem?_getD,getD_eq_getElem?_getD,getElem?_map,getElem?_eq_getElem h];rfl
theorem pN {ts:List Nat}:(qM R ts).length<=R.length:=by
 have:=length_filter_le (fun k=>ts.contains (R.getD k 0)) (List.range R.length)
 rwa [length_range] at this
theorem kd {t:Nat} (h:t∈R):∃k,k<R.length/\fM R k=t:=by
 obtain ⟨k,hk,e⟩:=getElem_of_mem h;refine ⟨k,hk,?_⟩
 rw [fM,getD_eq_getElem?_getD,getElem?_eq_getElem hk,e];rfl
theorem A5 (h:ly w R) (h1:1<=R.length) (h24:R.length<=24) (cl:∀r∈R,∃t∈w.stp r,t∈R):(dJ w R).Ok:=by
 have ne:∀r∈R,qM R (w.stp r)≠[]:=fun r hr z=>by
  obtain ⟨t,ht,hR⟩:=cl r hr;obtain ⟨k,hk,rfl⟩:=kd hR;have:=mem_plS.mpr ⟨hk,ht⟩
  rw [z] at this
  cases this
 have row:∀r∈R,w.mks r∈w.m:=fun r hr=>xK h.ok (h.lt r hr)
 refine ⟨⟨by simp [dJ],by simp [dJ],by simp [dJ],fun a ha=>?_,fun a ha=>?_,fun a ha=>?_⟩,h1,h24,by simp [dJ],by simp [dJ],fun a ha=>?_,fun a ha c hc=>?_⟩
 ·obtain ⟨x,_,rfl⟩:=List.mem_map.mp ha
  unfold zg;split
  ·exact .inl rfl
  ·exact .inr rfl
 ·obtain ⟨b,hb,rfl⟩:=List.mem_map.mp ha
  obtain ⟨x,hx,rfl⟩:=List.mem_map.mp hb;exact h.ok.g.m _ (List.mem_map.mpr ⟨_,row x hx,rfl⟩)
 ·obtain ⟨b,hb,rfl⟩:=List.mem_map.mp ha
  obtain ⟨x,hx,rfl⟩:=List.mem_map.mp hb;refine ⟨(qM R (w.stp x)).map fun t:Nat=>(t:Int),by rw [<-Ex],by rw [length_map];exact Nat.le_trans pN (by omega),fun z=>ne x hx (List.map_eq_nil_iff.mp z),fun t ht=>?_,?_⟩
  ·obtain ⟨c,hc,rfl⟩:=List.mem_map.mp ht
   have:=(mem_plS.mp hc).1
   show 0<=(c:Int)/\(c:Int)<((R.length:Nat):Int)
   omega
  ·rw [pairwise_map]
   exact (List.pairwise_lt_range.filter _).imp fun h=>by omega
 ·obtain ⟨x,hx,rfl⟩:=List.mem_map.mp ha
  exact ⟨ne x hx,Nat.le_trans pN (by omega),fun t ht=>(mem_plS.mp ht).1⟩
 ·obtain ⟨x,hx,rfl⟩:=List.mem_map.mp ha
  exact h.ok.mc _ (row x hx) c hc
theorem tu (ok:w.Ok) {r:Nat} (hr:r<w.n):(w.stp r).Nodup:=by
 obtain ⟨ts,e,_,_,_,hp⟩:=ok.g.s (ay (w.stp r)) (List.mem_map.mpr ⟨w.stp r,by
  unfold Wd.stp;rw [getD_eq_getElem?_getD,getElem?_eq_getElem (by rw [ok.ls];exact hr)]
  exact getElem_mem _,rfl⟩)
 have e:=PyData.list.inj e
 rw [Ex] at e;have e:=(map_inj_right (f:=PyData.int) fun a b z=>PyData.int.inj z).mp e
 rw [<-e,pairwise_map] at hp;exact hp.imp fun h z=>by omega
end
theorem Ae {R:List Nat}:shaped (ay R)=true:=EA (by
 intro a ha;obtain ⟨x,_,rfl⟩:=List.mem_map.mp ha;exact ⟨_,rfl⟩)
end KC
namespace T
open PySem PySem.Spec L2
open PyProof.Rows hiding St
def ox (ks:List Nat):Option Nat:=(List.range ks.length).find? fun i=>ks.all fun b=>decide (ks.getD i 0<=b)
theorem xI {ks:List Nat} {i:Nat} (hi:i<ks.length) (h:∀j,j<ks.length->ks.getD i 0<=ks.getD j 0/\(j<i->ks.getD i 0<ks.getD j 0)):ox ks=some i:=by
 unfold ox;rw [List.find?_range_eq_some];refine ⟨List.all_eq_true.mpr fun b hb=>?_,List.mem_range.mpr hi,fun j hj=>?_⟩
 ·obtain ⟨k,hk,e⟩:=getElem_of_mem hb
  have:=(h k hk).1
  rw [getD_eq_getElem?_getD (i:=k),getElem?_eq_getElem hk,e] at this;exact decide_eq_true this
 ·have:=(h j (by omega)).2 hj
  cases e:(ks.all fun b=>decide (ks.getD j 0<=b)) with
  | false=>rfl
  | true=>
   have hm:ks[i]∈ks:=getElem_mem hi
   have z:=of_decide_eq_true (List.all_eq_true.mp e _ hm)
   rw [getD_eq_getElem?_getD (i:=i),getElem?_eq_getElem hi] at this;exact absurd (Nat.lt_of_lt_of_le this z) (Nat.lt_irrefl _)
def oE:PySem.PyData->Nat
 | .list xs=>xs.length
 | _=>0
def BE:PySem.PyData->Bool
 | .list _=>true
 | _=>false
def fo (f:F1):F1:=fun Γ=>match f Γ with
 | .ok ⟨s,.list ds⟩ Γ1=>if !s.isView&&ds.all BE then (match ox (ds.map oE) with
  | some i=>.ok ⟨.leaf,ds.getD i .none⟩ Γ1
  | none=>.no) else .no
 | .er c Γ1=>.er c Γ1
 | _=>.no
section
variable {K:Fg} {W:XW} {σ:St} {H:Hp} {Q:VK} {f:F1}
theorem vg {Γ Γ2:Ev} {q:PV} (h:fo f Γ=.ok q Γ2):∃s ds i,f Γ=.ok ⟨s,.list ds⟩ Γ2/\s.isView=false/\ds.all BE=true/\ox (ds.map oE)=some i/\q=⟨.leaf,ds.getD i .none⟩:=by
 unfold fo at h;split at h
 ·rename_i s ds Γ1 e
  split at h
  ·rename_i hc
   rw [Bool.and_eq_true] at hc;split at h
   ·rename_i i ei
    cases h;exact ⟨s,ds,i,e,by simpa using hc.1,hc.2,ei,rfl⟩
   ·cases h
  ·cases h
 ·cases h
 ·cases h
theorem w4 (h:tE K W (fo f) σ H Q):tE K W f σ H (fun x H1=>zc K [x] H1 Q):=by
 obtain ⟨He,O,Fs,Γ,E,h⟩:=h;refine ⟨He,O,Fs,Γ,E,?_⟩
 cases em:fo f Γ with
 | no=>rw [em] at h;exact h.elim
 | er c Γ'=>
  rw [em] at h;unfold fo at em;split at em
  ·split at em
   ·split at em<;>cases em
   ·cases em
  ·rename_i ef
   cases em;rw [ef];exact h
  ·cases em
 | ok q Γ2=>
  rw [em] at h;obtain ⟨s,ds,i,ef,hv,hall,hi,rfl⟩:=vg em;rw [ef];intro v H' G Fs' A
  have own:Own K (G++O++Fs'.flatten) H' s G v (.list ds):=A.own
  have rep:=pP (O:=O++Fs'.flatten) own hv (fun a ha z=>A.disj a ha z) (fun a ha=>by
   rcases List.mem_append.mp ha with z | z
   ·exact mem_append_left _ (mem_append_right _ z)
   ·exact mem_append_right _ z)
  cases rep with
  | @lst p vs _ hq hl hr=>
   have hil:i<ds.length:=by
    have:=List.mem_range.mp (List.mem_of_find?_eq_some hi)
    rwa [length_map] at this
   have ne:0<ds.length:=by omega
   refine ⟨p,vs,?_⟩
   have each:∀j:Nat,j<ds.length->∃(a:Addr) (l:List V),vs[j]?=some (.ref a)/\SqL K H' a l/\l.length=oE (ds.getD j .none):=fun j hj=>by
    have hjv:j<vs.length:=by omega
    have r:=hr j vs[j] ds[j] (getElem?_eq_getElem hjv) (getElem?_eq_getElem hj)
    have hd:=List.all_eq_true.mp hall _ (getElem_mem hj)
    rw [getD_eq_getElem?_getD,getElem?_eq_getElem hj,getElem?_eq_getElem hjv];show ∃(a:Addr) (l:List V),some vs[j]=some (.ref a)/\SqL K H' a l/\l.length=oE ds[j]
    generalize vs[j]=u at r
    generalize ds[j]=d at r hd
    cases r with
    | @lst a ws es hq2 hl2 hr2=>exact ⟨a,ws,rfl,hid_le.seq hq2,hl2⟩
    | _=>cases hd
   refine ⟨(List.range ds.length).map fun j=>if hj:j<ds.length then (each j hj).choose_spec.choose else [],rfl,hid_le.seq hq,by rw [hl,length_map,length_range],fun j w l h1 h2=>?_,by omega,fun j w l h1 h2 hmin=>?_⟩
   ·have hj:j<ds.length:=by have:=(List.getElem?_eq_some_iff.mp h1).1;omega
    rw [getElem?_map,getElem?_range hj] at h2;have h2:some (if hj:j<ds.length then (each j hj).choose_spec.choose else [])=some l:=h2
    rw [dif_pos hj] at h2
    cases h2;obtain ⟨g1,g2,_⟩:=(each j hj).choose_spec.choose_spec;rw [g1] at h1
    cases h1;exact ⟨_,rfl,g2⟩
   ·have hj:j<ds.length:=by have:=(List.getElem?_eq_some_iff.mp h1).1;omega
    have lenAt:∀k,k<ds.length->∃l',((List.range ds.length).map fun j=>if hj:j<ds.length then (each j hj).choose_spec.choose else [])[k]?=some l'/\l'.length=(ds.map oE).getD k 0:=fun k hk=>by
     refine ⟨(each k hk).choose_spec.choose,?_,?_⟩
     ·rw [getElem?_map,getElem?_range hk]
      show some (if hj:k<ds.length then (each k hj).choose_spec.choose else [])=_
      rw [dif_pos hk]
     ·have:=(each k hk).choose_spec.choose_spec.2.2
      rw [this,getD_eq_getElem?_getD,getD_eq_getElem?_getD,getElem?_map,getElem?_eq_getElem hk];rfl
    have eij:i=j:=by
     have:ox (ds.map oE)=some j:=by
      refine xI (by rw [length_map];exact hj) fun k hk=>?_
      rw [length_map] at hk;obtain ⟨l1,e1,f1⟩:=lenAt j hj;obtain ⟨l2,e2,f2⟩:=lenAt k hk;rw [h2] at e1
      cases e1;have:=hmin k l2 e2
      rw [<-f1,<-f2];exact this
     rw [hi] at this;exact Option.some.inj this
    subst eij;have r:=hr i w (ds.getD i .none) h1 (by rw [getD_eq_getElem?_getD,getElem?_eq_getElem hj];rfl)
    exact h w H' [] Fs' ⟨A.same,by rw [nil_append];exact A.go,fun a ha=>A.newF a (by simpa using ha),by rw [nil_append];exact .leaf r⟩
end
section
variable {X:Cx} {N gl:List Str} {vs cs ls lo gs:List Nat} {W:XW} {e:Expr} {pos p p2 kpos:Pos} {f:F1}
theorem cb_minL (S:Cp X N gl vs cs ls lo gs) (j k:Nat) (hj:gl[j]?=some ("min":Str)) (hg:gs.contains j=true) (hm:X.mg "min"=none) (hk:gl[k]?=some ("len":Str)) (hg2:gs.contains k=true) (hm2:X.mg "len"=none) (ha:PE X e (tE X.K W f)) (hs:starEach [e] X.env=[(false,eval e X.env)]) :
  PE X (.Call (.Name "min" p) [e] [⟨some "key",.Name "len" p2,kpos⟩] pos) (tE X.K W (fo f)):=
 bh (xr S.calm (S.g hj hg).1 hm (S.g hk hg2).1 hm2 (sk ha wa hs) hs) fun _ _ _ h=>w4 h
end
end T
namespace TQ
open PySem PySem.Spec L2 T
open PyProof.Rows hiding St
section
variable {X:Cx} {N gl:List Str} {vs cs ls lo gs:List Nat} {W:XW} {e:Expr} {pos p p2 kpos:Pos} {f:F1}
theorem qr (S:Cp X N gl vs cs ls lo gs) (j k:Nat) (hj:gl[j]?=some ("min":Str)) (hg:gs.contains j=true) (hm:X.mg "min"=none) (hk:gl[k]?=some ("len":Str)) (hg2:gs.contains k=true) (hm2:X.mg "len"=none) (ha:Q (PE X e (tE X.K W f))) (hs:starEach [e] X.env=[(false,eval e X.env)]) :
  Q (PE X (.Call (.Name "min" p) [e] [⟨some "key",.Name "len" p2,kpos⟩] pos) (tE X.K W (fo f))):=⟨T.cb_minL S j k hj hg hm hk hg2 hm2 ha.p hs⟩
end
end TQ
namespace KC
open PySem PySem.Spec L2 T PySem.SeqAt
open PyProof.Rows hiding St
noncomputable abbrev N_reached:List Str:=["world", "room", "found", "waiting", "here", "there"]
noncomputable abbrev de:List Str:=["check_world", "check_room", "sorted"]
noncomputable def gq (ss:List D) (h:Int):Option (List Int):=if 0<=h/\h<ss.length then (match ss[h.toNat]? with
 | some (.list xs)=>ql xs
 | _=>none) else none
noncomputable def stp (t:Int) (p:List Int×List Int):Option (List Int×List Int):=if p.1.contains t then some p else if p.1.length<1000/\p.2.length<1000 then some (p.1++[t],p.2++[t]) else none
noncomputable def eY:List Int->List Int×List Int->Option (List Int×List Int)
 | [],p=>some p
 | t::r,p=>(stp t p).bind (eY r)
noncomputable def vU (sc:Int->Option (List Int)):Nat->List Int->List Int->Option (List Int)
 | 0,_,_=>none
 | n+1,ks,ws=>match ws.getLast? with
  | none=>some ks
  | some h=>(match sc h with
   | some ts=>(match eY ts (ks,ws.dropLast) with
    | some p=>vU sc n p.1 p.2
    | none=>none)
   | none=>none)
noncomputable def Bc (o:Option (List Int)):bN:=match o with
 | some ks=>if ks.length<64 then .ok ⟨.lst .leaf,.list ((PySem.W.sortI ks).map .int)⟩ else .no
 | none=>.no
noncomputable def bb (ds:List PySem.PyData):bN:=match ds with
 | [.tuple [.list os,.list ms,.list ss],.int r]=>(match aJ [.tuple [.list os,.list ms,.list ss]] with
  | .ok _=>(match aX [.tuple [.list os,.list ms,.list ss],.int r] with
   | .ok _=>Bc (vU (gq ss) 1000 [r] [r])
   | _=>.no)
  | _=>.no)
 | _=>.no
noncomputable def Jr (K:Fg):TT:=fun σ H Q=>br 3 σ H fun x H'=>∃k,yA K x H' k/\Q k H'
noncomputable def Js (K:Fg):L2.TS:=fF (fQ (C6 K "list" Dm (br 3)) (bQ 4)) (wC (iQ K (vT (AQ K) (vT (AQ K) (br 0) (tC (.int 2))) (br 4))) (bQ 5) (wB (tB (GO (br 5) (br 2))) (fF (pC (br 2) (br 5) (tC (.bl true))) (jI (Ab K "list" Ew (br 3) (dh (br 5) ip)))) pq))
noncomputable def n9 (K:Fg):L2.TS:=fF (tS K W0 (bw (aj 1 aJ (ah (ae 0) ai)))) (fF (tS K W0 (bw (aj 2 aX (ah (ae 0) (ah (ae 1) ai)))))
 (fF (fQ (yZ [(br 1,tC (.bl true))]) (bQ 2)) (fF (fQ (zZ (dh (br 1) ip)) (bQ 3)) (fF (Ee (Jr K) (Js K)) (tj (Aa t7 (dh (br 2) ip)))))))
structure IR (He Hb:Hp) (wv:V) (r:Int) (f l:Addr) (σ:St) (H:Hp) (ks ws:List Int):Prop where
 st:∃x4 x5,σ=[some wv,some (.int r),some (.ref f),some (.ref l),x4,x5]
 hf:H f=some (.dK (cP ks (.bl true)))
 hl:H l=some (.lst (ws.map V.int))
 ne:f≠l
 s1:Same He H
 s2:Same Hb H
theorem Hh {v:V} {t:Int}:∀{ks:List Int},(dt (cP ks v) (Sum.inl t:bR)).isSome=ks.contains t
 | []=>rfl
 | k::ks=>by
  by_cases h:k=t
  ·subst h
   have:dt (cP (k::ks) v) (Sum.inl k:bR)=some v:=CQ rfl
   rw [this];simp
  ·have e:dt (cP (k::ks) v) (Sum.inl t:bR)=dt (cP ks v) (Sum.inl t:bR):=CP fun z=>h (by injection z)
   rw [e,Hh,List.contains_cons];have:(t==k)=false:=by simpa using fun z=>h z.symm
   rw [this,Bool.false_or]
section
variable {K:Fg} {He Hb:Hp} {wv:V} {r:Int} {f l:Addr}
theorem Am {H:Hp} {os ms ss:List D} {h:Int} {ts:List Int} (rw_:Rep K Hb wv (.tuple [.list os,.list ms,.list ss])) (s2:Same Hb H) (hs:gq ss h=some ts) {σ:St} (h4:σ[4]?=some (some (.int h))) {Q:VK} (q:∀a,SqL K H a (ts.map V.int)->(∀H',Same Hb H'->SqL K H' a (ts.map V.int))->Q (.ref a) H) :
  AQ K wv (.int 2) H fun x H1=>∃v,σ[4]?=some (some v)/\AQ K x v H1 Q:=by
 cases rw_ with
 | @tup p vs _ hq hl hr=>
  match vs,hl with
  | [v0,v1,v2],_=>
   have r2:=hr 2 v2 (.list ss) rfl rfl
   refine .inr (.inl ⟨p,_,2,v2,rfl,rfl,ke s2 hq,rfl,.int h,h4,?_⟩)
   cases r2 with
   | @lst p2 rows _ hq2 hl2 hr2=>
    unfold gq at hs;split at hs
    case isFalse=>cases hs
    rename_i hc;have hn:h.toNat<ss.length:=by omega
    rw [getElem?_eq_getElem hn] at hs;have hn2:h.toNat<rows.length:=by omega
    have r3:=hr2 h.toNat (rows[h.toNat]'hn2) (ss[h.toNat]'hn) (getElem?_eq_getElem _) (getElem?_eq_getElem _)
    refine .inl ⟨p2,rows,h,rows[h.toNat]'hn2,rfl,rfl,s2.seq hq2,?_,?_⟩
    ·unfold eh d9
     rw [if_pos hc.1,if_pos (by omega)]
     exact getElem?_eq_getElem _
    ·generalize rows[h.toNat]'hn2=rv at r3
     generalize ss[h.toNat]'hn=d at r3 hs
     cases r3 with
     | @lst a vals xs hq3 hl3 hr3=>
      have hs:ql xs=some ts:=hs
      have hx:=Ho hs
      subst hx;have ev:vals=ts.map V.int:=by
       apply ext_getElem?
       intro i;by_cases hi:i<vals.length
       ·have hi2:i<ts.length:=by rw [length_map] at hl3;omega
        have q:=hr3 i (vals[i]'hi) (.int (ts[i]'hi2)) (getElem?_eq_getElem _) (by rw [getElem?_map,getElem?_eq_getElem hi2];rfl)
        rw [getElem?_eq_getElem hi,getElem?_map,getElem?_eq_getElem hi2];generalize vals[i]'hi=u at q
        cases q;rfl
       ·rw [getElem?_eq_none (by omega),getElem?_eq_none (by rw [length_map] at hl3 ⊢;omega)]
      rw [ev] at hq3;exact q a (s2.seq hq3) fun H' s=>s.seq hq3
     | _=>cases hs
theorem Av {H:Hp} {σ:St} {ks ws:List Int} {ts:List Int} {a:Addr} {D:fL} {p:List Int×List Int} (hf1:He f=none) (hf2:Hb f=none) (hl1:He l=none) (hl2:Hb l=none) (I:IR He Hb wv r f l σ H ks ws) (hp:eY ts (ks,ws)=some p)
  (hS:∀H',Same Hb H'->SqL K H' a (ts.map V.int)) (hD:∀σ H,IR He Hb wv r f l σ H p.1 p.2->D.nx σ H) :
  ∃W:Nat->Nat->St->Hp->Prop,(∃m,W 0 m σ H)/\∀i m σ H,W i m σ H ->
   ((Ci K a).stop i H/\D.nx σ H)\/((Ci K a).go i H/\∃N:St->Hp->Prop,(∀σ' H',N σ' H'->∃m',m'<m/\W (i+1) m' σ' H')/\∀x H',(Ci K a).yld i H x H'->bQ 5 x σ H' fun σ2 H2=>
    wB (tB (GO (br 5) (br 2))) (fF (pC (br 2) (br 5) (tC (.bl true))) (jI (Ab K "list" Ew (br 3) (dh (br 5) ip)))) pq { D with nx:=N,ct:=N,bk:=D.nx } σ2 H2):=by
 refine ⟨fun i m σ H=>m=ts.length-i/\i<=ts.length/\∃ks ws,IR He Hb wv r f l σ H ks ws/\eY (ts.drop i) (ks,ws)=some p,⟨ts.length,by simp,Nat.zero_le _,ks,ws,I,by simpa using hp⟩,?_⟩
 rintro i m σ H ⟨rfl,hi,ks,ws,I,hp⟩
 have hq:=hS H I.s2
 by_cases hlt:i<ts.length
 case neg=>
  left
  have:ts.drop i=[]:=drop_eq_nil_of_le (by omega)
  rw [this] at hp
  cases hp;exact ⟨⟨_,hq,by rw [length_map];omega⟩,hD σ H I⟩
 case pos=>
  right
  have hdr:ts.drop i=ts[i]::ts.drop (i+1):=drop_eq_getElem_cons hlt
  rw [hdr] at hp;have hget:(ts.map V.int)[i]?=some (.int ts[i]):=by rw [getElem?_map,getElem?_eq_getElem hlt];rfl
  generalize ts[i]=t at hp hget
  refine ⟨⟨_,_,hq,hget⟩,fun σ' H'=>∃ks ws,IR He Hb wv r f l σ' H' ks ws/\eY (ts.drop (i+1)) (ks,ws)=some p,fun σ' H' q=>⟨ts.length-(i+1),by omega,rfl,hlt,q⟩,?_⟩
  rintro x H' ⟨rfl,hx⟩
  have ex:x=.int t:=Option.some.inj ((hx _ hq).symm.trans hget)
  subst ex;obtain ⟨⟨x4,x5,rfl⟩,if_,il,ine,is1,is2⟩:=I;refine ⟨.int t,rfl,.ref f,rfl,f,_,rfl,DGet.k (k:=(Sum.inl t:bR)) if_,!(dt (cP ks (.bl true)) (Sum.inl t:bR)).isSome,rfl,?_⟩
  rw [Hh];simp only [eY] at hp
  cases hc:ks.contains t with
  | true=>
   have e:stp t (ks,ws)=some (ks,ws):=by unfold stp;rw [if_pos hc]
   rw [e] at hp;exact g6 ⟨ks,ws,⟨⟨_,_,rfl⟩,if_,il,ine,is1,is2⟩,hp⟩
  | false=>
   by_cases hz:ks.length<1000/\ws.length<1000
   case neg=>
    have e:stp t (ks,ws)=none:=by unfold stp;rw [if_neg (by rw [hc];exact Bool.false_ne_true),if_neg hz]
    rw [e] at hp
    cases hp
   have e:stp t (ks,ws)=some (ks++[t],ws++[t]):=by unfold stp;rw [if_neg (by rw [hc];exact Bool.false_ne_true),if_pos hz]
   rw [e] at hp;have hb:(1000:Nat)<=sizeLine:=by decide
   have hkl:(cP ks (.bl true)).length<sizeLine:=by unfold cP;rw [length_map];omega
   have hnew:d6 (cP ks (.bl true)) (Sum.inl t:bR) (.bl true)=cP (ks++[t]) (.bl true):=by
    rw [ml _ (by
     cases ev:dt (cP ks (.bl true)) (Sum.inl t:bR) with
     | none=>rfl
     | some z=>have:=Hh (v:=.bl true) (t:=t) (ks:=ks);rw [ev,hc] at this;cases this)]
    unfold cP;rw [map_append];rfl
   refine g5 ⟨.ref f,rfl,.int t,rfl,f,bA H' f (.dK (cP (ks++[t]) (.bl true))),rfl,?_,?_⟩
   ·have:=DPut.k (v:=.bl true) (k:=(Sum.inl t:bR)) if_ hkl
    rw [hnew] at this;exact this
   ·have hlu:bA H' f (.dK (cP (ks++[t]) (.bl true))) l=some (.lst (ws.map V.int)):=by rw [cS (Ne.symm ine)];exact il
    refine ⟨.ref l,rfl,.inl ⟨rfl,_,.of hlu⟩,.int t,rfl,l,ws.map V.int,.int t,rfl,rfl,hlu,by rw [length_map];omega,ks++[t],ws++[t],⟨⟨_,_,rfl⟩,?_,?_,ine,?_,?_⟩,hp⟩
    ·rw [cS ine,dI]
    ·rw [dI,map_append];rfl
    ·intro b o hb
     rw [cS (kj hb hl1),cS (kj hb hf1)];exact is1 b o hb
    ·intro b o hb
     rw [cS (kj hb hl2),cS (kj hb hf2)];exact is2 b o hb
theorem w5 {H:Hp} {σ:St} {os ms ss:List D} {ks ws res:List Int} {n:Nat} {D:fL} (rw_:Rep K Hb wv (.tuple [.list os,.list ms,.list ss])) (hf1:He f=none) (hf2:Hb f=none) (hl1:He l=none) (hl2:Hb l=none) (I:IR He Hb wv r f l σ H ks ws) (hg:vU (gq ss) n ks ws=some res)
  (hD:∀σ H ws,IR He Hb wv r f l σ H res ws->D.nx σ H):Ee (Jr K) (Js K) D σ H:=by
 refine ⟨fun m σ H=>∃ks ws,IR He Hb wv r f l σ H ks ws/\vU (gq ss) m ks ws=some res,⟨n,ks,ws,I,hg⟩,?_⟩
 rintro m σ H ⟨ks,ws,I,hg⟩
 cases m with
 | zero=>cases hg
 | succ m=>
  have I0:=I
  obtain ⟨⟨x4,x5,rfl⟩,if_,il,ine,is1,is2⟩:=I;refine ⟨.ref l,rfl,!(ws.map V.int).isEmpty,.inl ⟨_,.of il,rfl⟩,?_⟩
  rw [vU] at hg
  cases hw:ws.getLast? with
  | none=>
   rw [hw] at hg
   cases hg;have:ws=[]:=List.getLast?_eq_none_iff.mp hw
   subst this;exact g6 (hD _ _ _ I0)
  | some h=>
   rw [hw] at hg;dsimp only at hg
   cases hs:gq ss h with
   | none=>rw [hs] at hg;cases hg
   | some ts=>
    rw [hs] at hg;dsimp only at hg
    cases hp:eY ts (ks,ws.dropLast) with
    | none=>rw [hp] at hg;cases hg
    | some p=>
     rw [hp] at hg;dsimp only at hg;have hne:ws≠[]:=fun z=>by rw [z] at hw;cases hw
     have he:(!(ws.map V.int).isEmpty)=true:=by cases ws with | nil=>exact absurd rfl hne | cons a r=>rfl
     rw [he];refine g5 ⟨fun σ' H'=>∃ks ws,IR He Hb wv r f l σ' H' ks ws/\vU (gq ss) m ks ws=some res,fun σ' H' q=>⟨m,Nat.lt_succ_self _,q⟩,?_⟩
     have hlast:(ws.map V.int)[(ws.map V.int).length-1]?=some (.int h):=by
      rw [getElem?_map,length_map,<-List.getLast?_eq_getElem?,hw];rfl
     refine ⟨.ref l,rfl,.inl ⟨rfl,_,.of il⟩,l,_,.int h,rfl,rfl,il,hlast,?_⟩
     have I2:IR He Hb wv r f l [some wv,some (.int r),some (.ref f),some (.ref l),some (.int h),x5] (bA H l (.lst (ws.map V.int).dropLast)) ks ws.dropLast:=⟨⟨_,_,rfl⟩,by rw [cS ine];exact if_,by rw [dI,List.map_dropLast],ine,fun b o hb=>by rw [cS (kj hb hl1)];exact is1 b o hb,fun b o hb=>by rw [cS (kj hb hl2)];exact is2 b o hb⟩
     refine ⟨wv,rfl,Am rw_ I2.s2 hs rfl fun a h1 hS=>⟨a,rfl,⟨_,h1⟩,Av hf1 hf2 hl1 hl2 I2 hp hS fun σ H I=>⟨_,_,I,hg⟩⟩⟩
end
theorem sL {Γ Γ1:Ev} {fa:F1} {p:PV} (h:fa Γ=.ok p Γ1):bw fa Γ=.nx Γ1:=by unfold bw gX;rw [h]
theorem tU {K:Fg} {H:Hp} {O:List Addr} {vs:List V} {os ms ss:List D} {r:Int} {ks:List Int} {p1 p2:PV} {Q:VK} {Qn:St->Hp->Prop} (nd:O.Nodup) (inH:∀a∈O,H a≠none) (rs:Reps K (bY H O) vs [.tuple [.list os,.list ms,.list ss],.int r])
  (h1:aJ [.tuple [.list os,.list ms,.list ss]]=.ok p1) (h2:aX [.tuple [.list os,.list ms,.list ss],.int r]=.ok p2) (hg:vU (gq ss) 1000 [r] [r]=some ks) (h64:ks.length<64)
  (q:∀v H' G,RetOk K H O ⟨.lst .leaf,.list ((PySem.W.sortI ks).map .int)⟩ v H' G->Q v H'):n9 K { nx:=Qn,rt:=Q } (L2.start N_reached vs) H:=by
 have hvl:vs.length=2:=rs.1
 have E0:=jY (K:=K) (N:=N_reached) (H:=H) (O:=O) (vs:=vs) (by rw [hvl];decide) nd inH rs
 have g1:bw (aj 1 aJ (ah (ae 0) ai)) (aN N_reached.length [.tuple [.list os,.list ms,.list ss],.int r])=.nx (aN N_reached.length [.tuple [.list os,.list ms,.list ss],.int r]):=sL (bH (aC (aA rfl) aq) h1 rfl rfl)
 have g2:bw (aj 2 aX (ah (ae 0) (ah (ae 1) ai))) (aN N_reached.length [.tuple [.list os,.list ms,.list ss],.int r])=.nx (aN N_reached.length [.tuple [.list os,.list ms,.list ss],.int r]):=sL (bH (aC (aA rfl) (aC (aA rfl) aq)) h2 rfl rfl)
 refine ⟨H,O,_,_,E0,?_⟩
 rw [g1];intro σ1 H1 Fs1 E1;refine ⟨H,O,_,_,E1,?_⟩
 rw [g2];intro σ2 H2 Fs2 E2;have hl6:σ2.length=6:=E2.len1
 obtain ⟨_,v0,F0,e0,_,o0⟩:=E2.slot 0 ⟨.leaf,.tuple [.list os,.list ms,.list ss]⟩ rfl
 obtain ⟨_,v1,F1',e1,_,o1⟩:=E2.slot 1 ⟨.leaf,.int r⟩ rfl
 cases o0 with
 | leaf r0=>
  cases o1 with
  | leaf r1=>
   cases r1;match σ2,hl6,e0,e1 with
   | [a0,a1,a2,a3,a4,a5],_,e0,e1=>
    have ea0:a0=some v0:=by simpa using e0
    have ea1:a1=some (.int r):=by simpa using e1
    subst ea0 ea1;intro f hf;refine ⟨.int r,rfl,dI,[((Sum.inl r:bR),.bl true)],rfl,(by show 1<=15;decide),?_⟩
    refine ⟨.int r,rfl,(by show 1<=sizeLine;decide),fun l hl=>?_⟩
    have hfl:f≠l:=fun z=>by
     rw [<-z,dI] at hl
     cases hl
    have hl2:H2 l=none:=by rw [cS (Ne.symm hfl),cS (Ne.symm hfl)] at hl;exact hl
    have sH:Same H2 (bA (bA (bA H2 f (.dK [])) f (.dK (zD [] [((Sum.inl r:bR),.bl true)]))) l (.lst [.int r])):=fun b o hb=>by
     rw [cS (kj hb hl2),cS (kj hb hf),cS (kj hb hf)];exact hb
    have hHf:H f=none:=E2.same.free hf
    have hHl:H l=none:=E2.same.free hl2
    have hbf:bY H2 (O++Fs2.flatten) f=none:=by unfold bY;split<;>first | rfl | exact hf
    have hbl:bY H2 (O++Fs2.flatten) l=none:=by unfold bY;split<;>first | rfl | exact hl2
    have I:IR H (bY H2 (O++Fs2.flatten)) v0 r f l [some v0,some (.int r),some (.ref f),some (.ref l),a4,a5] (bA (bA (bA H2 f (.dK [])) f (.dK (zD [] [((Sum.inl r:bR),.bl true)]))) l (.lst [.int r])) [r] [r]:=
     ⟨⟨_,_,rfl⟩,by rw [cS hfl,dI];rfl,dI,hfl,E2.same.trans sH,hid_le.trans sH⟩
    refine w5 (He:=H) (Hb:=bY H2 (O++Fs2.flatten)) r0 hHf hbf hHl hbl I hg fun σ3 H3 ws I3=>?_
    obtain ⟨⟨x4,x5,rfl⟩,if_,il,ine,is1,is2⟩:=I3;refine ⟨.ref f,rfl,f,ks,.bl true,rfl,if_,h64,fun p hp=>q _ _ [p] ⟨is1.trans (gC hp),fun a ha=>by rw [List.mem_singleton.mp ha];exact is1.free hp,fun a ha=>by rw [List.mem_singleton.mp ha,dI];exact Option.some_ne_none _,by simp,?_,rfl⟩⟩
    refine Own.mkLeaves dI (by simp) fun j u d h1 h2=>?_
    rw [getElem?_map] at h1 h2
    cases e3:(PySem.W.sortI ks)[j]? with
    | none=>rw [e3] at h1;cases h1
    | some z=>
     rw [e3] at h1 h2
     cases h1
     cases h2;exact .int z
theorem kO {ds:List D} {p:PV} (h:bb ds=.ok p):∃os ms ss r ks p1 p2,ds=[.tuple [.list os,.list ms,.list ss],.int r]/\aJ [.tuple [.list os,.list ms,.list ss]]=.ok p1/\aX [.tuple [.list os,.list ms,.list ss],.int r]=.ok p2/\vU (gq ss) 1000 [r] [r]=some ks/\ks.length<64/\p=⟨.lst .leaf,.list ((PySem.W.sortI ks).map .int)⟩:=by
 unfold bb at h;split at h
 ·rename_i os ms ss r
  split at h
  ·rename_i p1 e1
   split at h
   ·rename_i p2 e2
    unfold Bc at h;split at h
    ·rename_i ks e3
     split at h
     ·rename_i h64
      cases h;exact ⟨os,ms,ss,r,ks,p1,p2,rfl,e1,e2,e3,h64,rfl⟩
     ·cases h
    ·cases h
   ·cases h
  ·cases h
 ·cases h
theorem Gi {α:Type} [DecidableEq α]:∀{ks L:List α},ks.Nodup->(∀x∈ks,x∈L)->ks.length<=L.length
 | [],_,_,_=>Nat.zero_le _
 | x::ks,L,nd,h=>by
  have hx:=h x mem_cons_self
  obtain ⟨n1,n2⟩:=List.nodup_cons.mp nd;have ih:=Gi (ks:=ks) (L:=L.erase x) n2 fun y hy=>(List.mem_erase_of_ne (fun z:y=x=>n1 (by rw [<-z];exact hy))).mpr (h y (mem_cons_of_mem _ hy))
  have hl:=List.length_erase_of_mem hx
  have:0<L.length:=length_pos_of_mem hx
  rw [length_cons];omega
theorem G9 {n:Nat} {ks:List Int} (nd:ks.Nodup) (h:∀x∈ks,0<=x/\x<(n:Int)):ks.length<=n:=by
 have:=Gi (L:=(List.range n).map fun i:Nat=>(i:Int)) nd fun x hx=>by
  obtain ⟨a,b⟩:=h x hx;exact List.mem_map.mpr ⟨x.toNat,List.mem_range.mpr (by omega),by omega⟩
 simpa using this
section
variable {n:Nat} {sc:Int->Option (List Int)}
inductive Rc (sc:Int->Option (List Int)) (r:Int):Int->Prop where
 | refl:Rc sc r r
 | step {x t:Int} {ts:List Int}:Rc sc r x->sc x=some ts->t∈ts->Rc sc r t
noncomputable def Ks (sc:Int->Option (List Int)) (ks:List Int):Prop:=∀x∈ks,∀ts,sc x=some ts->∀t∈ts,t∈ks
theorem GN:∀(ts ks ws:List Int),ks.Nodup->ks.length+ts.length<1000->ws.length+ts.length<1000->∃ks' ws',eY ts (ks,ws)=some (ks',ws')/\ks'.Nodup/\(∀x∈ks,x∈ks')/\(∀t∈ts,t∈ks')/\(∀x∈ks',x∈ks\/x∈ts)/\(∀x∈ks',x∈ks\/x∈ws')/\(∀x∈ws,x∈ws')/\(∀x∈ws',x∈ws\/x∈ks')/\ws'.length+ks.length=ws.length+ks'.length
 | [],ks,ws,nd,_,_=>⟨ks,ws,rfl,nd,fun _ h=>h,fun _ h=>(nomatch h),fun _ h=>.inl h,fun _ h=>.inl h,fun _ h=>h,fun _ h=>.inl h,rfl⟩
 | t::ts,ks,ws,nd,h1,h2=>by
  rw [length_cons] at h1 h2
  cases hc:ks.contains t with
  | true=>
   have e:stp t (ks,ws)=some (ks,ws):=by unfold stp;rw [if_pos hc]
   obtain ⟨ks',ws',a0,a1,a2,a3,a4,a5,a6,a7,a8⟩:=GN ts ks ws nd (by omega) (by omega)
   refine ⟨ks',ws',by rw [eY,e];exact a0,a1,a2,fun x hx=>?_,fun x hx=>(a4 x hx).elim .inl fun z=>.inr (mem_cons_of_mem _ z),a5,a6,a7,a8⟩
   rcases List.mem_cons.mp hx with z | z
   ·rw [z];exact a2 t (by simpa using hc)
   ·exact a3 x z
  | false=>
   have hnt:t∉ks:=by simpa using hc
   have e:stp t (ks,ws)=some (ks++[t],ws++[t]):=by unfold stp;rw [if_neg (by rw [hc];exact Bool.false_ne_true),if_pos ⟨by show ks.length<1000;omega,by show ws.length<1000;omega⟩]
   have nd':(ks++[t]).Nodup:=List.nodup_append.mpr ⟨nd,by simp,fun a ha b hb z=>hnt (by rw [List.mem_singleton.mp hb] at z;rw [<-z];exact ha)⟩
   obtain ⟨ks',ws',a0,a1,a2,a3,a4,a5,a6,a7,a8⟩:=GN ts (ks++[t]) (ws++[t]) nd' (by simp;omega) (by simp;omega)
   refine ⟨ks',ws',by rw [eY,e];exact a0,a1,fun x hx=>a2 x (mem_append_left _ hx),fun x hx=>?_,fun x hx=>?_,fun x hx=>?_,fun x hx=>a6 x (mem_append_left _ hx),fun x hx=>?_,by simp at a8;omega⟩
   ·rcases List.mem_cons.mp hx with z | z
    ·rw [z];exact a2 t (mem_append_right _ (List.mem_singleton.mpr rfl))
    ·exact a3 x z
   ·rcases a4 x hx with z | z
    ·rcases List.mem_append.mp z with z | z
     ·exact .inl z
     ·exact .inr (by rw [List.mem_singleton.mp z];exact mem_cons_self)
    ·exact .inr (mem_cons_of_mem _ z)
   ·rcases a5 x hx with z | z
    ·rcases List.mem_append.mp z with z | z
     ·exact .inl z
     ·exact .inr (a6 x (mem_append_right _ z))
    ·exact .inr z
   ·rcases a7 x hx with z | z
    ·rcases List.mem_append.mp z with z | z
     ·exact .inl z
     ·exact .inr (a2 x (mem_append_right _ z))
    ·exact .inr z
theorem ua (hn:n<=100) (hsc:∀h:Int,0<=h->h<(n:Int)->∃ts,sc h=some ts/\ts.length<=100/\∀t∈ts,0<=t/\t<(n:Int)) {r:Int}:∀(m:Nat) (ks ws:List Int),ks.Nodup->(∀x∈ks,0<=x/\x<(n:Int))->(∀x∈ws,x∈ks)->ws.length<=ks.length ->
  (∀x∈ks,x∈ws\/∀ts,sc x=some ts->∀t∈ts,t∈ks)->(∀x∈ks,Rc sc r x)->ws.length+(n-ks.length)<m->∃res,vU sc m ks ws=some res/\res.Nodup/\(∀x∈res,0<=x/\x<(n:Int))/\(∀x∈ks,x∈res)/\Ks sc res/\∀x∈res,Rc sc r x
 | 0,_,_,_,_,_,_,_,_,h=>by omega
 | m+1,ks,ws,nd,hr,hw,hl,hc,hR,h=>by
  rw [vU]
  cases hg:ws.getLast? with
  | none=>
   have:ws=[]:=List.getLast?_eq_none_iff.mp hg
   subst this;exact ⟨ks,rfl,nd,hr,fun _ h=>h,fun x hx ts e t ht=>(hc x hx).elim nofun fun z=>z ts e t ht,hR⟩
  | some a=>
   dsimp only;have ha:a∈ws:=mem_of_getLast? hg
   obtain ⟨ts,e,htl,ht⟩:=hsc a (hr a (hw a ha)).1 (hr a (hw a ha)).2;rw [e];dsimp only;have hkl:=G9 nd hr
   have hwne:ws≠[]:=fun z=>by rw [z] at ha;cases ha
   have hdl:ws.dropLast.length=ws.length-1:=List.length_dropLast
   have hwp:0<ws.length:=length_pos_of_mem ha
   obtain ⟨ks',ws',a0,a1,a2,a3,a4,a5,a6,a7,a8⟩:=GN ts ks ws.dropLast nd (by omega) (by omega)
   rw [a0];dsimp only;have hr':∀x∈ks',0<=x/\x<(n:Int):=fun x hx=>(a4 x hx).elim (hr x) (ht x)
   have hkl':=G9 a1 hr'
   have hsub:ks.length<=ks'.length:=Gi nd a2
   have key:∀x∈ks,x∈ws.dropLast\/x=a\/∀ts,sc x=some ts->∀t∈ts,t∈ks:=fun x hx=>by
    rcases hc x hx with z | z
    ·have:ws=ws.dropLast++[a]:=by
      obtain ⟨ys,e⟩:=List.getLast?_eq_some_iff.mp hg
      rw [e];simp
     rw [this] at z;rcases List.mem_append.mp z with z | z
     ·exact .inl z
     ·exact .inr (.inl (List.mem_singleton.mp z))
    ·exact .inr (.inr z)
   have g1:∀x∈ks',x∈ws'\/∀ts,sc x=some ts->∀t∈ts,t∈ks':=fun x hx=>by
    rcases a5 x hx with z | z
    ·rcases key x z with y | y | y
     ·exact .inl (a6 x y)
     ·refine .inr fun ts' e' t ht'=>?_
      rw [y,e] at e'
      cases e'
      exact a3 t ht'
     ·exact .inr fun ts' e' t ht'=>a2 t (y ts' e' t ht')
    ·exact .inl z
   have g2:∀x∈ks',Rc sc r x:=fun x hx=>by
    rcases a4 x hx with z | z
    ·exact hR x z
    ·exact .step (hR a (hw a ha)) e z
   obtain ⟨res,b0,b1,b2,b3,b4,b5⟩:=ua hn hsc m ks' ws' a1 hr' (fun x hx=>(a7 x hx).elim (fun z=>a2 x (hw x (List.dropLast_subset _ z))) fun z=>z) (by omega) g1 g2 (by omega)
   exact ⟨res,b0,b1,b2,fun x hx=>b3 x (a2 x hx),b4,b5⟩
end
theorem uH {P:Program} {w:World} {K:Fg} {mg:Str->Option Value} {base:Heap} {f:Addr} {fd:FuncData} {s_reached:Stmt} {j1 j2 k:Nat} (F:Fun K "reached" "reached" s_reached f fd) (hm:mg "reached"=some (.ref f)) (b:Binds K fd ["world", "room"] []) (n_sorted:mg "sorted"=none)
  (c1:DefOk P w K mg base j1 "check_world" 1 aJ) (c2:DefOk P w K mg base j2 "check_room" 2 aX) (hj1:decide (j1<=k)=true) (hj2:decide (j2<=k)=true) {vs cs ls lo gs:List Nat} (sc:cB N_reached ["world", "room"] (fD s_reached)) (cp:jb N_reached de vs cs ls lo gs (fD s_reached)=true) (nm:uO N_reached de=true)
  (bd:∀X:Cx,Cp X N_reached de vs cs ls lo gs->Rm X->PassesOwn (model X.prog X.w) X.A X.env X.xe->X.mg "sorted"=none->vY X "check_world" 1 aJ->vY X "check_room" 2 aX->PSs X (nV s_reached) (n9 X.K)):DefOk P w K mg base (k+1) "reached" 2 bb:=by
 refine ⟨f,fd,["world", "room"],F.ok sc (fun vs H Q E h=>h.1) (fun cdv A outer s H vs Q E hr h=>⟨_,bd _ (Cp.fn cp nm) hr.units PassesOwn.never n_sorted (c1.cal hr hj1) (c2.cal hr hj2),?_⟩),hm,F.kp,b⟩
 obtain ⟨hl,O,ds,nd,inH,rs,w⟩:=h
 cases e:bb ds with
 | er c=>rw [e] at w;exact w.elim
 | no=>rw [e] at w;exact w.elim
 | ok p=>
  rw [e] at w;obtain ⟨os,ms,ss,r,ks,p1,p2,rfl,e1,e2,e3,h64,rfl⟩:=kO e;exact tU nd inH rs e1 e2 e3 h64 w
inductive nL (w:Wd) (r:Nat):Nat->Prop where
 | refl:nL w r r
 | step {x t:Nat}:nL w r x->t∈w.stp x->nL w r t
theorem tH {w:Wd} (ok:w.Ok) {h:Int} (h0:0<=h) (h1:h<(w.n:Int)):gq (w.s.map ay) h=some ((w.stp h.toNat).map fun t:Nat=>(t:Int)):=by
 have hl:h.toNat<w.s.length:=by rw [ok.ls];omega
 unfold gq;rw [if_pos ⟨h0,by rw [length_map,ok.ls];exact h1⟩,getElem?_map,getElem?_eq_getElem hl]
 show ql _=_
 unfold Wd.stp;rw [getD_eq_getElem?_getD,getElem?_eq_getElem hl,Ex,iP];rfl
theorem gL {w:Wd} (ok:w.Ok) {r:Nat} (hr:r<w.n):∃S,bb [w.enc,rm r]=.ok ⟨.lst .leaf,ay S⟩/\Std w.n S/\r∈S/\(∀x∈S,∀t∈w.stp x,t∈S)/\∀x∈S,nL w r x:=by
 have h24:=ok.h24
 obtain ⟨res,e,nd,rg,hin,cl,rc⟩:=ua (n:=w.n) (sc:=gq (w.s.map ay)) (by omega) (fun h h0 h1=>⟨_,tH ok h0 h1,by
  rw [length_map];have:=ok.z.len (r:=h.toNat)
  exact Nat.le_trans (ID (tu ok (by omega)) fun x hx=>ok.stp_lt hx) (by omega),fun t ht=>by
  obtain ⟨z,hz,rfl⟩:=List.mem_map.mp ht;have:=ok.stp_lt hz
  omega⟩) (r:=(r:Int)) 1000 [(r:Int)] [(r:Int)] (by simp) (fun x hx=>by rw [List.mem_singleton.mp hx];omega) (fun x hx=>hx) (by simp) (fun x hx=>.inl hx) (fun x hx=>by rw [List.mem_singleton.mp hx];exact .refl) (by simp;omega)
 have hlen:=G9 nd rg
 have hS:PySem.W.sortI res=((List.range w.n).filter fun x:Nat=>res.contains (x:Int)).map fun t:Nat=>(t:Int):=by
  symm
  refine PySem.W.eq_sortI ?_ ?_
  ·refine (List.perm_ext_iff_of_nodup (List.pairwise_map.mpr (List.Pairwise.imp (R:=fun a b:Nat=>a≠b) (fun h z=>h (Int.ofNat_inj.mp z)) ((nodup_range).sublist filter_sublist))) nd).mpr fun x=>?_
   rw [mem_map];constructor
   ·rintro ⟨t,ht,rfl⟩
    exact List.contains_iff_mem.mp (List.mem_filter.mp ht).2
   ·intro hx
    obtain ⟨a,b⟩:=rg x hx;have ex:((x.toNat:Nat):Int)=x:=by omega
    exact ⟨x.toNat,List.mem_filter.mpr ⟨List.mem_range.mpr (by omega),List.contains_iff_mem.mpr (by rw [ex];exact hx)⟩,ex⟩
  ·rw [pairwise_map]
   exact (List.pairwise_lt_range.filter _).imp fun h=>by omega
 have mem:∀{x:Nat},x∈(List.range w.n).filter (fun x:Nat=>res.contains (x:Int))↔(x:Int)∈res:=fun {x}=>by
  rw [mem_filter,mem_range,contains_iff_mem];exact ⟨fun h=>h.2,fun h=>⟨by have:=rg _ h;omega,h⟩⟩
 refine ⟨(List.range w.n).filter fun x:Nat=>res.contains (x:Int),?_,Std.of _,mem.mpr (hin _ (by simp)),fun x hx t ht=>?_,fun x hx=>?_⟩
 ·have c1:aJ [.tuple [.list w.os,.list (w.m.map bX),.list (w.s.map ay)]]=.ok ⟨.leaf,.none⟩:=ok.check
  have c2:aX [.tuple [.list w.os,.list (w.m.map bX),.list (w.s.map ay)],.int (r:Int)]=.ok ⟨.leaf,.none⟩:=eI ok hr
  show bb [.tuple [.list w.os,.list (w.m.map bX),.list (w.s.map ay)],.int (r:Int)]=_
  unfold bb;simp only [c1,c2,e,Bc]
  rw [if_pos (by omega),hS,map_map]
  rfl
 ·have hx:=mem.mp hx
  have:=rg _ hx
  refine mem.mpr (cl _ hx _ (tH ok this.1 this.2) _ ?_)
  rw [Int.toNat_natCast];exact List.mem_map.mpr ⟨t,ht,rfl⟩
 ·have go:∀y,Rc (gq (w.s.map ay)) (r:Int) y->0<=y/\y<(w.n:Int)/\nL w r y.toNat:=fun y h=>by
   induction h with
   | refl=>exact ⟨by omega,by omega,by rw [Int.toNat_natCast];exact .refl⟩
   | step _ e ht ih=>
    rw [tH ok ih.1 ih.2.1] at e
    cases e;obtain ⟨z,hz,rfl⟩:=List.mem_map.mp ht;have:=ok.stp_lt hz
    exact ⟨by omega,by omega,by rw [Int.toNat_natCast];exact .step ih.2.2 hz⟩
  have:=(go _ (rc _ (mem.mp hx))).2.2
  rwa [Int.toNat_natCast] at this
end KC
namespace KC
open PySem PySem.Spec L2 T
open PyProof.Rows hiding St
noncomputable def s_reached:Stmt:=HV 22
theorem oa:cB N_reached ["world", "room"] (fD s_reached):=⟨rfl,rfl,rfl,by decide +kernel,rfl,by decide +kernel,by decide +kernel⟩
theorem oU:jb N_reached de [0,1,2,3,4,5] [] [0,1,2,3,4,5] [0,1,2,3,4,5] [0,1,2] (fD s_reached)=true:=by kernel_rfl
theorem ow:uO N_reached de=true:=by kernel_rfl
theorem oY {X:Cx} (S:Cp X N_reached de [0,1,2,3,4,5] [] [0,1,2,3,4,5] [0,1,2,3,4,5] [0,1,2]) (R:Rm X) (hp:PassesOwn (model X.prog X.w) X.A X.env X.xe) (n_sorted:X.mg "sorted"=none) (c1:vY X "check_world" 1 aJ) (c2:vY X "check_room" 2 aX) :
  PSs X (nV s_reached) (n9 X.K):=by
 have hN:X.N.Nodup:=by rw [S.hN];exact S.nd
 have v:∀(i:Nat) (x:Str) (pos:Pos),N_reached[i]?=some x->PE X (.Name x pos) (br i):=fun i x pos e=>by
  have hi:[0,1,2,3,4,5].contains i=true:=by
   have:=(List.getElem?_eq_some_iff.mp e).1
   have h6:i<6:=this
   match i,h6 with
   | 0,_=>rfl
   | 1,_=>rfl
   | 2,_=>rfl
   | 3,_=>rfl
   | 4,_=>rfl
   | 5,_=>rfl
  have m:=S.nm x (mem_of_getElem? e)
  exact wb (by rw [S.hN];exact e) (S.vis i x e hi) m.1 m.2
 have hu:X.A.units+1<cLine:=Nat.lt_of_le_of_lt (by omega) R
 have g:∀(i:Nat) (x:Str),N_reached[i]?=some x->X.N[i]?=some x:=fun i x e=>by rw [S.hN];exact e
 have lc:∀(i:Nat) (x:Str),N_reached[i]?=some x->[0,1,2,3,4,5].contains i=true->Loc X.env.scope x/\(X.fn x=true\/X.env.scope.names.lookup x=some .local):=fun i x e hi=>S.loc i x e hi
 refine qo (ds_drop (cc S 0 rfl rfl c1 (da_cons (cv S 0 rfl rfl) da_nil (dE rfl)) (dE rfl) rfl) rfl) ?_
 refine qo (ds_drop (cc S 1 rfl rfl c2 (da_cons (cv S 0 rfl rfl) (da_cons (cv S 1 rfl rfl) da_nil (dE rfl)) (dE rfl)) (dE rfl) rfl) rfl) ?_
 refine qo (CL hN (g 2 _ rfl) (lc 2 _ rfl rfl).1 (xu (uj (v 1 _ _ rfl) uC xn) rfl rfl (by simp) (by decide)) rfl (lc 2 _ rfl rfl).2) ?_
 refine qo (CL hN (g 3 _ rfl) (lc 3 _ rfl rfl).1 (ux (sk (v 1 _ _ rfl) wa (dE rfl))) rfl (lc 3 _ rfl rfl).2) ?_
 refine qo (mr hp (mq (v 3 _ _ rfl) (fun _=>rfl)) ?_) ?_
 ·refine qo (CL hN (g 4 _ rfl) (lc 4 _ rfl rfl).1 (A8 PySem.F.plainAttrs_list PySem.F.slot_list_pop PySem.F.type_list_pop Bp (v 3 _ _ rfl) rfl rfl) rfl (lc 4 _ rfl rfl).2) ?_
  refine yQ (Gk hp S.calm (Et (pO El (pO El (v 0 _ _ rfl) uy (fun _ _=>rfl)) (v 4 _ _ rfl) (fun _ _=>rfl))) (nW hN (g 5 _ rfl) (lc 5 _ rfl rfl).1 (lc 5 _ rfl rfl).2) ?_ (fun _=>rfl))
  refine yQ (zd (ug (qP hu (v 5 _ _ rfl) (v 2 _ _ rfl)) (by with_unfolding_all rfl)) ?_ pL)
  refine qo (pM hu (v 2 _ _ rfl) (v 5 _ _ rfl) uC rfl) ?_
  exact yQ (Eu (mx PySem.F.plainAttrs_list PySem.F.slot_list_append PySem.F.type_list_append Hr (v 3 _ _ rfl) (sk (v 5 _ _ rfl) wa (dE rfl)) rfl rfl rfl (dE rfl) rfl) rfl)
 ·exact yQ (En (GZ (oW S.calm) (S.g (j:=2) rfl rfl).1 n_sorted nJ (sk (v 2 _ _ rfl) wa (dE rfl)) (S.g (j:=2) rfl rfl).2.2 (S.g (j:=2) rfl rfl).2.1 (dE rfl) rfl))
theorem oq {P:Program} {w:World} {K:Fg} {mg:Str->Option Value} {base:Heap} {f:Addr} {fd:FuncData} {j1 j2 k:Nat} (F:Fun K "reached" "reached" s_reached f fd) (hm:mg "reached"=some (.ref f)) (b:Binds K fd ["world", "room"] []) (n_sorted:mg "sorted"=none)
  (c1:DefOk P w K mg base j1 "check_world" 1 aJ) (c2:DefOk P w K mg base j2 "check_room" 2 aX) (hj1:decide (j1<=k)=true) (hj2:decide (j2<=k)=true):DefOk P w K mg base (k+1) "reached" 2 bb:=
 uH F hm b n_sorted c1 c2 hj1 hj2 oa oU ow fun X S R hp n c1 c2=>oY S R hp n c1 c2
noncomputable def B7:FS:=(aw (bw (aj 1 aJ (ah (ae 0) ai)))
  (aw (bw (aj 2 b7 (ah (ae 0) (ah (ae 1) ai))))
  (aw (aD false 2 (aj 2 cn (ah (ae 0) (ah (ae 1) ai))))
  (aw (cF (nK (dr (aQ bF (ae 1))) (aQ ax (aE (bG false) (aU .leaf ai) (ak (ae 2) (eK (.int 2)))))) tM aS)
  (aP (ae 2))))))
noncomputable def oA:List PySem.PyData->bN:=aL 3 B7
def rS:FS:=(aw (aD false 3 (aj 3 di (ah (ae 0) (ah (sq (ah (bM bL (ah (ak (ae 0) (eK (.int 0))) ai)) ai)) (ah (ae 2) ai)))))
  (aw (aD true 4 (aU .leaf (ah (ae 1) ai)))
  (aw (nU 100 (aQ ax (aE mT (ak (ae 3) (cA 4 (eU cC (eK (.int 1))))) (eK (.int 0))))
  (eV 4 (ak (aj 3 bI (ah (ae 0) (ah (ae 3) (ah (cA 4 (eU cC (eK (.int 1)))) ai)))) (eK (.int 0)))))
  (aP (cz 4)))))
def vR:List PySem.PyData->bN:=aL 5 rS
def i2:FS:=(aP (fo (av .leaf 2 (aF (aj 2 bb (ah (ae 0) (ah (ae 1) ai)))) aG (aj 2 bb (ah (ae 0) (ah (ae 2) ai))))))
def HH:List PySem.PyData->bN:=aL 3 i2
def hV:FS:=(aw (aD true 3 (aU .leaf (ah (ae 2) ai)))
  (aw (dz 4 (aF (ae 1))
  (ma 3 (dS (fun k=>(some k,none)) (aj 3 vR (ah (ae 0) (ah (cA 3 (eU cC (eK (.int 1)))) (ah (aj 2 dj (ah (ae 0) (ah (ae 4) ai))) ai)))) (eK (.int 1)))))
  (aP (gx (ae 3) (dS (fun k=>(none,some k)) (aj 3 vR (ah (ae 0) (ah (ak (ak (ak (ae 0) (eK (.int 2))) (cA 3 (eU cC (eK (.int 1))))) (eK (.int 0))) (ah (aU .leaf (ah (ae 2) ai)) ai)))) (eU cC (eK (.int 1))))))))
def HI:List PySem.PyData->bN:=aL 5 hV
noncomputable def oS:FS:=(aw (bw (aj 3 bD (ah (ae 0) (ah (ae 1) (ah (ae 2) ai)))))
  (aw (bw (aj 2 aX (ah (ae 0) (ah (ae 3) ai))))
  (aw (aD false 4 (ak (aj 3 bC (ah (ae 0) (ah (ae 1) (ah (ae 2) ai)))) (eK (.int 1))))
  (aw (cF (aQ ax (aE (bG true) (ae 3) (ae 4))) tM aS)
  (aw (aD false 5 (aj 2 oA (ah (ae 0) (ah (ae 4) ai))))
  (aw (aD false 6 (oK 4 (ae 3)))
  (aw (aD false 7 (aj 3 vR (ah (ae 5) (ah (ae 6) (ah (aj 2 HH (ah (ae 5) (ah (ae 6) ai))) ai)))))
  (aw (aD false 8 (aj 3 HI (ah (ae 5) (ah (ae 2) (ah (ak (ae 7) (eU cC (eK (.int 1)))) ai)))))
  (aP (cQ (ah (av .leaf 9 (aF (dS (fun k=>(none,some k)) (ae 7) (eU cC (eK (.int 1))))) aG (ak (ae 4) (ae 9))) (ah (av .leaf 9 (aF (ae 8)) aG (ak (ae 4) (ae 9))) ai))))))))))))
noncomputable def cK:List PySem.PyData->bN:=aL 10 oS
open PySem.SeqAt
section
variable {w:Wd}
theorem Gv {x y:Nat} {q:List Nat} (hy:y∈w.stp x) (hq:jc w (y::q)):∀{p:List Nat},jc w p->p.getLast?=some x->jc w (p++y::q)
 | [],_,h=>by cases h
 | [a],_,h=>by cases h;exact ⟨hy,hq⟩
 | a::b::p,hp,h=>⟨hp.1,Gv (p:=b::p) hy hq hp.2 (by rw [List.getLast?_cons_cons] at h;exact h)⟩
theorem qh {z:Nat} {q:List Nat} (hq:jc w (z::q)) {p:List Nat} (hp:jc w p) (hz:p.getLast?=some z):jc w (p++q):=by
 cases q with
 | nil=>rw [append_nil];exact hp
 | cons y q=>exact Gv hq.1 hq.2 hp hz
theorem Gb {S:List Nat} (cl:∀x∈S,∀t∈w.stp x,t∈S):∀{q:List Nat} {z:Nat},z∈S->jc w (z::q)->∀x∈z::q,x∈S
 | [],z,hz,_,x,hx=>by rw [List.mem_singleton.mp hx];exact hz
 | y::q,z,hz,h,x,hx=>by
  rcases List.mem_cons.mp hx with rfl | hx
  ·exact hz
  ·exact Gb cl (cl z hz y h.1) h.2 x hx
theorem Gm {S:List Nat} (cl:∀x∈S,∀t∈w.stp x,t∈S) {r x:Nat} (h:nL w r x) (hr:r∈S):x∈S:=by
 induction h with
 | refl=>exact hr
 | step _ ht ih=>exact cl _ ih _ ht
theorem tZ (ok:w.Ok) {G:List Nat} {rk:List (Option Nat)} (R:RightG w.n w.stp (fun _=>true) (List.range w.n) G rk) {r x:Nat} (hr:r<w.n) (h:nL w r x):x<w.n/\(aI rk x≠none->aI rk r≠none):=by
 induction h with
 | refl=>exact ⟨hr,fun h=>h⟩
 | step _ ht ih=>exact ⟨ok.stp_lt ht,fun h=>ih.2 (R.step_ok ih.1 (List.mem_range.mpr ih.1) (led_t.mpr ⟨_,ht,h⟩))⟩
structure WgF (w:Wd) (r:Nat) (l:List Nat):Prop where
 hd:l.head?=some r
 lt:∀x∈l,x<w.n
 ch:jc w l
theorem WgF.snoc (ok:w.Ok) {r z t:Nat} {l:List Nat} (h:WgF w r l) (hz:l.getLast?=some z) (ht:t∈w.stp z):WgF w r (l++[t]):=by
 refine ⟨?_,fun x hx=>?_,nH ht h.ch hz⟩
 ·have:=h.hd
  cases l with
  | nil=>cases this
  | cons a s=>exact this
 ·rcases List.mem_append.mp hx with q | q
  ·exact h.lt x q
  ·rw [List.mem_singleton.mp q]
   exact ok.stp_lt ht
theorem ye (ok:w.Ok) {G:List Nat} (hG:∀r∈G,r<w.n) (hgl:G.length<=1000):∃rk,di [w.enc,ay (List.range w.n),ay G]=.ok ⟨.lst .leaf,bj rk⟩/\RightG w.n w.stp (fun _=>true) (List.range w.n) G rk:=by
 have lo:=ok.g.lo
 have h24:=ok.h24
 obtain ⟨rk,e,Rt,_⟩:=CT ok.z (cl:=w.os.map fun _=>true) (thr:=List.range w.n) (goal:=G) (by rw [length_map];exact lo) (fun r hr=>ok.stp_ne (List.mem_range.mp hr)) (fun r hr=>List.mem_range.mp hr) (by rw [length_range];omega) hG hgl
 have Rt:=Rt.congr (ch':=fun _=>true) fun r hr=>by
  unfold gO;rw [getD_eq_getElem?_getD,getElem?_map,getElem?_eq_getElem (by omega)]
  rfl
 refine ⟨rk,?_,Rt⟩
 have c1:av .leaf 3 (aF (ak (ae 0) (eK (.int 0)))) aG (eK (.bool true)) (aN 4 [w.enc,ay (List.range w.n),ay G])=.ok ⟨.lst .leaf,lq (w.os.map fun _=>true)⟩ (aN 4 [w.enc,ay (List.range w.n),ay G]):=by
  have:=ie (fun d:D=>d) w.os (fun d=>⟨.leaf,.bool true⟩) (s:=.leaf) (i:=3) (fi:=aF (ak (ae 0) (eK (.int 0)))) (fe:=eK (.bool true)) (st:=true) (Γ:=aN 4 [w.enc,ay (List.range w.n),ay G]) (by simp [aN,Wd.enc,bO]) (by simp [aN]) rfl (by omega) (fun d hd=>by simp)
  rw [this];simp
 exact aT (ba (bH (aC (aA rfl) (aC c1 (aC (aA rfl) (aC (aA rfl) aq)))) e rfl rfl) rfl)
abbrev F8 (w:Wd) (r:Nat) (G:List Nat) (rk:List (Option Nat)) (l:List Nat):Ev:=[some ⟨.leaf,w.enc⟩,some ⟨.leaf,rm r⟩,some ⟨.leaf,ay G⟩,some ⟨.leaf,bj rk⟩,some ⟨.lst .leaf,ay l⟩]
def Bt (rk:List (Option Nat)) (l:List Nat):Nat:=((l.getLast?).bind (aI rk)).getD 0
structure Jg (w:Wd) (r:Nat) (rk:List (Option Nat)) (l:List Nat):Prop where
 wg:WgF w r l
 z:∃z k,l.getLast?=some z/\aI rk z=some k
 pw:l.Pairwise fun a b=>∃i j,aI rk a=some i/\aI rk b=some j/\j<i
theorem uV {n:Nat} (h:1<=n):d9 n (-1)=some (n-1):=by
 unfold d9;rw [if_neg (by omega)]
 split
 ·congr 1
  omega
 ·omega
theorem pU {l:List Nat} {z:Nat} (h:l.getLast?=some z):(l.map rm)[l.length-1]?=some (rm z):=by
 rw [getElem?_map,<-List.getLast?_eq_getElem?,h];rfl
theorem Er {Γ:Ev} {i:Nat} {l:List Nat} {z:Nat} (h:Γ[i]?=some (some ⟨.lst .leaf,ay l⟩)) (hz:l.getLast?=some z):cA i (eU cC (eK (.int 1))) Γ=.ok ⟨.leaf,rm z⟩ Γ:=by
 have hp:1<=l.length:=by
  cases l with
  | nil=>cases hz
  | cons a r=>simp
 exact zT (j:=l.length-1) (ds:=l.map rm) h (Fn bt rfl) (by rw [length_map];exact uV hp) (pU hz)
theorem Hl (ok:w.Ok) {G:List Nat} (hG:∀r∈G,r<w.n) (hgl:G.length<=1000) {r:Nat} (hr:r<w.n) {y:Nat} (hy:nL w r y) (hyG:y∈G):∃P z,vR [w.enc,rm r,ay G]=.ok ⟨.lst .leaf,ay P⟩/\WgF w r P/\P.getLast?=some z/\z∈G/\P.length<=w.n:=by
 have h24:=ok.h24
 obtain ⟨rk,e0,Rt⟩:=ye ok hG hgl;have rl:=Rt.len
 have hy2:=tZ ok Rt hr hy
 have hrk:aI rk r≠none:=hy2.2 (Rt.goal_ok hy2.1 hyG)
 have atk:∀{x},x<w.n->(rk.map oD)[x]?=some (oD (aI rk x)):=fun {x} hx=>by
  rw [getElem?_map,getElem?_eq_getElem (by omega),aI,getD_eq_getElem?_getD,getElem?_eq_getElem (by omega)]
  rfl
 have lenOk:∀l,Jg w r rk l->l.length<=w.n:=fun l I=>ID (I.pw.imp fun {a b} ⟨i,j,h1,h2,h3⟩ z=>by subst z;rw [h1] at h2;cases h2;omega) I.wg.lt
 obtain ⟨k0,hk0⟩:=Option.ne_none_iff_exists'.mp hrk
 have i0:Jg w r rk [r]:=⟨⟨rfl,fun x hx=>by rw [List.mem_singleton.mp hx];exact hr,trivial⟩,⟨r,k0,rfl,hk0⟩,by simp⟩
 obtain ⟨P,ew,I,hf⟩:=Ct (c:=aQ ax (aE mT (ak (ae 3) (cA 4 (eU cC (eK (.int 1))))) (eK (.int 0)))) (g:=eV 4 (ak (aj 3 bI (ah (ae 0) (ah (ae 3) (ah (cA 4 (eU cC (eK (.int 1)))) ai)))) (eK (.int 0)))) (G:=F8 w r G rk) (test:=fun l=>decide ((0:Int)<(Bt rk l:Int))) (Inv:=Jg w r rk) (meas:=fun l=>w.n+1-l.length)
  (fun l I=>by
   obtain ⟨z,k,hz,hk⟩:=I.z;have hzn:=I.wg.lt z (mem_of_getLast? hz)
   have el:Bt rk l=k:=by unfold Bt;rw [hz];show (aI rk z).getD 0=k;rw [hk];rfl
   rw [el];have a:=atk hzn
   rw [hk] at a;exact gR (s:=.leaf) (aY (g:=mT) (we (j:=z) (aA rfl) (Er rfl hz) (v7 (by rw [length_map];omega)) a rfl) bt rfl))
  (fun l I ht=>by
   obtain ⟨z,k,hz,hk⟩:=I.z;have hzn:=I.wg.lt z (mem_of_getLast? hz)
   have el:Bt rk l=k:=by unfold Bt;rw [hz];show (aI rk z).getD 0=k;rw [hk];rfl
   have hk1:0<k:=by
    have:=of_decide_eq_true ht
    rw [el] at this;omega
   have hzG:z∉G:=fun h=>by rw [Rt.g z hzn h] at hk;cases hk;omega
   obtain ⟨_,_,hl⟩:=Rt.p z k hzn hzG hk;obtain ⟨t,htz,j,hj,hjk⟩:=led_t.mp hl;have htl:t∈fZ w rk z:=List.mem_filter.mpr ⟨htz,by rw [hj,hk];exact decide_eq_true hjk⟩
   obtain ⟨a,tl,ea⟩:∃a tl,fZ w rk z=a::tl:=by
    cases h:fZ w rk z with
    | nil=>rw [h] at htl;cases htl
    | cons a tl=>exact ⟨a,tl,rfl⟩
   have ha:a∈fZ w rk z:=by rw [ea];exact mem_cons_self
   obtain ⟨ha1,ha2⟩:=List.mem_filter.mp ha;obtain ⟨j2,hj2,hjk2⟩:∃j2,aI rk a=some j2/\j2<k:=by
    rw [hk] at ha2
    cases h:aI rk a with
    | none=>rw [h] at ha2;cases ha2
    | some j2=>rw [h] at ha2;exact ⟨j2,rfl,of_decide_eq_true ha2⟩
   have hlen:=lenOk l I
   have dl:=dZ ok rl hzn
   refine ⟨l++[a],?_,⟨I.wg.snoc ok hz ha1,⟨a,j2,by simp,hj2⟩,?_⟩,by rw [length_append,length_singleton];omega⟩
   ·have:=vz (i:=4) (ds:=l.map rm) (Γ:=F8 w r G rk l) (p:=⟨.leaf,rm a⟩) (fa:=ak (aj 3 bI (ah (ae 0) (ah (ae 3) (ah (cA 4 (eU cC (eK (.int 1)))) ai)))) (eK (.int 0))) rfl (we (j:=0) (ds:=(fZ w rk z).map rm) (bH (aC (aA rfl) (aC (aA rfl) (aC (Er rfl hz) aq))) dl rfl rfl) bt (v7 (by rw [ea];simp)) (by rw [ea];rfl) rfl) rfl (by rw [length_map];omega)
    rw [this];simp [ay]
   ·rw [List.pairwise_append]
    refine ⟨I.pw,by simp,fun x hx b hb=>?_⟩
    rw [List.mem_singleton.mp hb];by_cases hxz:x=z
    ·exact ⟨k,j2,by rw [hxz];exact hk,hj2,hjk2⟩
    ·obtain ⟨init,rfl⟩:∃init,l=init++[z]:=List.getLast?_eq_some_iff.mp hz
     have hxi:x∈init:=by
      rcases List.mem_append.mp hx with q | q
      ·exact q
      ·exact absurd (List.mem_singleton.mp q) hxz
     obtain ⟨i,j',e1,e2,e3⟩:=(List.pairwise_append.mp I.pw).2.2 x hxi z (by simp)
     rw [hk] at e2
     cases e2;exact ⟨i,j2,e1,hj2,by omega⟩) 100 [r] i0 (by show w.n+1-1<100;omega)
 obtain ⟨z,k,hz,hk⟩:=I.z;have hzn:=I.wg.lt z (mem_of_getLast? hz)
 have el:Bt rk P=k:=by unfold Bt;rw [hz];show (aI rk z).getD 0=k;rw [hk];rfl
 have hk0:k=0:=by
  have:=of_decide_eq_false hf
  rw [el] at this;omega
 have hzG:z∈G:=Classical.byContradiction fun h=>by
  have:=(Rt.p z k hzn h hk).1
  omega
 refine ⟨P,z,?_,I.wg,hz,hzG,lenOk P I⟩
 refine aT (az (cD (bH (aC (aA rfl) (aC (vK (n:=w.n) (s:=.leaf) (by omega) (aC (EB ok rfl) aq)) (aC (aA rfl) aq))) e0 rfl rfl) rfl (by simp [aN])) (az (Γ1:=F8 w r G rk [r]) (yL (lE (s:=.leaf) (aC (aA rfl) aq) rfl rfl rfl) rfl (by simp [aN])) (az (Γ1:=F8 w r G rk P) ?_ (ba (zG (p:=⟨.lst .leaf,ay P⟩) rfl) rfl))))
 unfold nU;exact ew
end
theorem xJ {ks:List Nat} (h:0<ks.length):∃i,ox ks=some i/\i<ks.length/\∀b∈ks,ks.getD i 0<=b:=by
 cases e:ox ks with
 | some i=>
  have h1:=List.mem_range.mp (List.mem_of_find?_eq_some e)
  have h2:=List.find?_some e
  exact ⟨i,rfl,h1,fun b hb=>of_decide_eq_true (List.all_eq_true.mp h2 b hb)⟩
 | none=>
  exfalso
  have no:∀i,i<ks.length->∃b∈ks,b<ks.getD i 0:=fun i hi=>by
   have:=List.find?_eq_none.mp e i (List.mem_range.mpr hi)
   have:=mt List.all_eq_true.mpr this
   obtain ⟨b,hb⟩:=Classical.not_forall.mp this;obtain ⟨hb1,hb2⟩:=Classical.not_imp.mp hb;refine ⟨b,hb1,?_⟩
   have:¬ks.getD i 0<=b:=fun z=>hb2 (decide_eq_true z)
   omega
  have go:∀v i,i<ks.length->ks.getD i 0=v->False:=fun v=>by
   induction v using Nat.strongRecOn with
   | _ v ih=>
    intro i hi hv;obtain ⟨b,hb,hlt⟩:=no i hi;obtain ⟨j,hj,ej⟩:=getElem_of_mem hb;refine ih b (by omega) j hj ?_
    rw [getD_eq_getElem?_getD,getElem?_eq_getElem hj,ej];rfl
  exact go _ 0 h rfl
section
variable {w:Wd}
structure J8 (w:Wd) (S:List Nat):Prop where
 std:Std w.n S
 ne:S≠[]
 cl:∀x∈S,∀t∈w.stp x,t∈S
 bk:∀x∈S,∀y∈S,nL w x y
theorem Ac {n:Nat} {S:List Nat} (h:Std n S):S.Nodup:=by
 obtain ⟨q,rfl⟩:=h;exact (nodup_range).sublist filter_sublist
theorem oP (ok:w.Ok) {s:Nat} (hs:s<w.n):∃S,HH [w.enc,rm s]=.ok ⟨.leaf,ay S⟩/\J8 w S/\∃x∈S,nL w s x:=by
 have h24:=ok.h24
 obtain ⟨S0,e0,s0,i0,c0,r0⟩:=gL ok hs;have ex:∀t,∃S,t<w.n->bb [w.enc,rm t]=.ok ⟨.lst .leaf,ay S⟩/\Std w.n S/\t∈S/\(∀x∈S,∀u∈w.stp x,u∈S)/\∀x∈S,nL w t x:=fun t=>by
  by_cases ht:t<w.n
  ·obtain ⟨S,h⟩:=gL ok ht
   exact ⟨S,fun _=>h⟩
  ·exact ⟨[],fun z=>absurd z ht⟩
 let rs:Nat->List Nat:=fun t=>(ex t).choose
 have hrs:∀t,t<w.n->bb [w.enc,rm t]=.ok ⟨.lst .leaf,ay (rs t)⟩/\Std w.n (rs t)/\t∈rs t/\(∀x∈rs t,∀u∈w.stp x,u∈rs t)/\∀x∈rs t,nL w t x:=fun t=>(ex t).choose_spec
 have lt0:∀x∈S0,x<w.n:=s0.lt
 have cm:av .leaf 2 (aF (aj 2 bb (ah (ae 0) (ah (ae 1) ai)))) aG (aj 2 bb (ah (ae 0) (ah (ae 2) ai))) (aN 3 [w.enc,rm s])=.ok ⟨.lst .leaf,.list (S0.map fun t=>ay (rs t))⟩ (aN 3 [w.enc,rm s]):=
  ie rm S0 (fun t=>⟨.lst .leaf,ay (rs t)⟩) (st:=true) (bZ (s:=.lst .leaf) (bH (aC (aA rfl) (aC (aA rfl) aq)) e0 rfl rfl) rfl) (by simp [aN]) rfl (by have:=s0.len;omega) fun t ht=>⟨bH (aC (aA rfl) (aC (aA rfl) aq)) (hrs t (lt0 t ht)).1 rfl rfl,rfl⟩
 have hp:0<S0.length:=length_pos_of_mem i0
 have em:(S0.map fun t=>ay (rs t)).map oE=S0.map fun t=>(rs t).length:=by
  rw [map_map];refine List.map_congr_left fun t _=>?_
  show (List.map rm (rs t)).length=_
  rw [length_map]
 obtain ⟨i,ei,hi,hmin⟩:=xJ (ks:=S0.map fun t=>(rs t).length) (by rw [length_map];exact hp)
 rw [length_map] at hi;have hall:(S0.map fun t=>ay (rs t)).all BE=true:=List.all_eq_true.mpr fun d hd=>by
  obtain ⟨t,_,rfl⟩:=List.mem_map.mp hd;rfl
 have eM:fo (av .leaf 2 (aF (aj 2 bb (ah (ae 0) (ah (ae 1) ai)))) aG (aj 2 bb (ah (ae 0) (ah (ae 2) ai)))) (aN 3 [w.enc,rm s])=.ok ⟨.leaf,ay (rs S0[i])⟩ (aN 3 [w.enc,rm s]):=by
  unfold fo;rw [cm];simp only [Sh.isView,Bool.not_false,Bool.true_and,hall,if_true,em,ei]
  rw [getD_eq_getElem?_getD,getElem?_map,getElem?_eq_getElem hi];rfl
 have hm0:S0[i]∈S0:=getElem_mem hi
 obtain ⟨_,q1,q2,q3,q4⟩:=hrs S0[i] (lt0 _ hm0)
 refine ⟨rs S0[i],aT (ba eM rfl),⟨q1,(fun z=>by rw [z] at q2;cases q2),q3,fun x hx y hy=>?_⟩,S0[i],q2,r0 _ hm0⟩
 have hx0:x∈S0:=Gm c0 (q4 x hx) hm0
 obtain ⟨_,p1,p2,p3,p4⟩:=hrs x (lt0 x hx0);refine p4 y (Classical.byContradiction fun hn=>?_)
 have l1:(y::rs x).length<=(rs S0[i]).length:=IE (List.nodup_cons.mpr ⟨hn,Ac p1⟩) fun u hu=>by
  rcases List.mem_cons.mp hu with rfl | hu
  ·exact hy
  ·exact Gm q3 (p4 u hu) hx
 have l2:=hmin (rs x).length (List.mem_map.mpr ⟨x,hx0,rfl⟩)
 rw [getD_eq_getElem?_getD,getElem?_map,getElem?_eq_getElem hi] at l2;have l2:(rs S0[i]).length<=(rs x).length:=l2
 rw [length_cons] at l1;omega
theorem xD {R:List Nat}:dD ⟨.view,.list (R.map rm)⟩ (R.map rm)=true:=by
 unfold dD;simp [Sh.isView,bJ]
abbrev sv (w:Wd) (M:List Str) (p:Nat) (R:List Nat) (x4:Option PV):Ev:=[some ⟨.leaf,w.enc⟩,some ⟨.leaf,bX M⟩,some ⟨.leaf,rm p⟩,some ⟨.lst .leaf,ay R⟩,x4]
structure RgI (w:Wd) (S:List Nat) (p:Nat) (R:List Nat):Prop where
 wg:WgF w p R
 inS:∀x∈R,x∈S
theorem RgI.last {S:List Nat} {p:Nat} {R:List Nat} (h:RgI w S p R):∃z,R.getLast?=some z/\z∈S:=by
 cases R with
 | nil=>exact absurd h.wg.hd (by simp)
 | cons a s=>exact ⟨_,List.getLast?_eq_some_getLast (by simp),h.inS _ (List.getLast_mem _)⟩
theorem lH {z:Nat} {P:List Nat} (h:WgF w z P):∃q,P=z::q:=by
 have:=h.hd
 cases P with
 | nil=>cases this
 | cons a q=>cases this;exact ⟨q,rfl⟩
theorem vk (ok:w.Ok) {S:List Nat} (C:J8 w S) {M:List Str} (hM:∀c∈M,c∈bz) (hl:M.length<=10) (hm:∀c∈M,∀x∈S,∃y,nL w x y/\c∈w.mks y) {p:Nat} (hp:p∈S) :
  ∃R,HI [w.enc,bX M,rm p]=.ok ⟨.lst .leaf,ay R⟩/\R.head?=some p/\jc w (R++[p])/\(∀x∈R,x∈S)/\(∀c∈M,∃x∈R,c∈w.mks x)/\R.length<=300:=by
 have h24:=ok.h24
 have lt:∀x∈S,x<w.n:=C.std.lt
 obtain ⟨Γ2,e,_,R,x4,eΓ,I,hlen,hmet⟩:=EO PyData.str (i:=4) (body:=ma 3 (dS (fun k=>(some k,none)) (aj 3 vR (ah (ae 0) (ah (cA 3 (eU cC (eK (.int 1)))) (ah (aj 2 dj (ah (ae 0) (ah (ae 4) ai))) ai)))) (eK (.int 1)))) (Inv:=fun rest Γ=>(∀c∈rest,c∈M)/\∃R x4,Γ=sv w M p R x4/\RgI w S p R/\R.length+24*rest.length<=1+24*M.length/\∀c∈M,c∈rest\/∃x∈R,c∈w.mks x)
  (fun c rest Γ ⟨hsub,R,x4,e,I,hlen,hmet⟩=>by
   subst e;refine ⟨by simp,?_⟩
   have hcM:=hsub c mem_cons_self
   obtain ⟨z,hz,hzS⟩:=I.last;obtain ⟨y,hy,hyc⟩:=hm c hcM z hzS;have hyS:=Gm C.cl hy hzS
   obtain ⟨P,u,ep,Wp,hu,hug,hPl⟩:=Hl ok (G:=oy w c) (fun r hr=>(mem_mkd.mp hr).1) (by unfold oy;have:=length_filter_le (fun r=>(w.mks r).contains c) (List.range w.n);rw [length_range] at this;omega) (lt z hzS) hy (mem_mkd.mpr ⟨lt y hyS,hyc⟩)
   obtain ⟨q,rfl⟩:=lH Wp;have hS:∀x∈z::q,x∈S:=Gb C.cl hzS Wp.ch
   rw [length_cons] at hPl hlen
   have sl:T.cutD ((z::q).map rm) (some (((1:Nat):Int))) none=q.map rm:=by
    rw [wJ];rfl
   have hf:dS (fun k=>(some k,none)) (aj 3 vR (ah (ae 0) (ah (cA 3 (eU cC (eK (.int 1)))) (ah (aj 2 dj (ah (ae 0) (ah (ae 4) ai))) ai)))) (eK (.int 1)) (sv w M p R (some ⟨.leaf,.str c⟩))=.ok ⟨.lst .leaf,.list (q.map rm)⟩ (sv w M p R (some ⟨.leaf,.str c⟩)):=by
    have:=pf (g:=fun k=>(some k,none)) (fa:=aj 3 vR (ah (ae 0) (ah (cA 3 (eU cC (eK (.int 1)))) (ah (aj 2 dj (ah (ae 0) (ah (ae 4) ai))) ai)))) (fb:=eK (.int 1)) (xs:=(z::q).map rm) (bH (Γ:=sv w M p R (some ⟨.leaf,.str c⟩)) (aC (aA rfl) (aC (Er rfl hz) (aC (bH (aC (aA rfl) (aC (aA rfl) aq)) (iU ok (hM c hcM)) rfl rfl) aq))) ep rfl rfl) bt rfl
    rw [this];exact congrArg (fun l=>Out.ok (⟨.lst .leaf,.list l⟩:PV) _) sl
   refine ⟨_,zP (i:=3) (ds:=R.map rm) rfl hf rfl (by rw [length_map,length_map];omega),fun d hd=>hsub d (mem_cons_of_mem _ hd),R++q,some ⟨.leaf,.str c⟩,by rw [<-map_append];rfl,⟨⟨?_,fun x hx=>?_,qh Wp.ch I.wg.ch hz⟩,fun x hx=>?_⟩,by rw [length_append];omega,fun d hd=>?_⟩
   ·have:=I.wg.hd
    cases R with
    | nil=>cases this
    | cons a s=>exact this
   ·rcases List.mem_append.mp hx with h | h
    ·exact I.wg.lt x h
    ·exact Wp.lt x (mem_cons_of_mem _ h)
   ·rcases List.mem_append.mp hx with h | h
    ·exact I.inS x h
    ·exact hS x (mem_cons_of_mem _ h)
   ·rcases hmet d hd with h | ⟨x,hx,hxd⟩
    ·rcases List.mem_cons.mp h with rfl | h
     ·refine .inr ⟨u,?_,(mem_mkd.mp hug).2⟩
      have:=mem_of_getLast? hu
      rcases List.mem_cons.mp this with rfl | h'
      ·exact mem_append_left _ (mem_of_getLast? hz)
      ·exact mem_append_right _ h'
     ·exact .inl h
    ·exact .inr ⟨x,mem_append_left _ hx,hxd⟩) M (sv w M p [p] none) ⟨fun c hc=>hc,[p],none,rfl,⟨⟨rfl,fun x hx=>by rw [List.mem_singleton.mp hx];exact lt p hp,trivial⟩,fun x hx=>by rw [List.mem_singleton.mp hx];exact hp⟩,by simp,fun c hc=>.inl hc⟩
 subst eΓ;obtain ⟨x,hx,hxS⟩:=I.last;have hxn:=lt x hxS
 obtain ⟨y,ys,ey⟩:∃y ys,w.stp x=y::ys:=by
  cases h:w.stp x with
  | nil=>exact absurd h (ok.stp_ne hxn)
  | cons y ys=>exact ⟨y,ys,rfl⟩
 have hyx:y∈w.stp x:=by rw [ey];exact mem_cons_self
 have hyS:=C.cl x hxS y hyx
 obtain ⟨P,u,ep,Wp,hu,hug,hPl⟩:=Hl ok (G:=[p]) (fun r hr=>by rw [List.mem_singleton.mp hr];exact lt p hp) (by simp) (lt y hyS) (C.bk y hyS p hp) mem_cons_self
 have hup:u=p:=List.mem_singleton.mp hug
 subst hup;obtain ⟨init,hP⟩:=List.getLast?_eq_some_iff.mp hu
 obtain ⟨q,hPq⟩:=lH Wp;have hS:∀v∈P,v∈S:=by rw [hPq];rw [hPq] at Wp;exact Gb C.cl hyS Wp.ch
 have dl:P.dropLast=init:=by rw [hP];simp
 rw [length_nil] at hlen;have a1:ak (ak (ak (ae 0) (eK (.int 2))) (cA 3 (eU cC (eK (.int 1))))) (eK (.int 0)) (sv w M u R x4)=.ok ⟨.leaf,rm y⟩ (sv w M u R x4):=
  we (j:=0) (ds:=(w.stp x).map rm) (pz ok rfl (Er rfl hx) hxn) bt (v7 (by rw [ey];simp)) (by rw [ey];rfl) rfl
 have sl:dS (fun k=>(none,some k)) (aj 3 vR (ah (ae 0) (ah (ak (ak (ak (ae 0) (eK (.int 2))) (cA 3 (eU cC (eK (.int 1))))) (eK (.int 0))) (ah (aU .leaf (ah (ae 2) ai)) ai)))) (eU cC (eK (.int 1))) (sv w M u R x4)=.ok ⟨.lst .leaf,.list (init.map rm)⟩ (sv w M u R x4):=by
  have:=pf (g:=fun k=>(none,some k)) (fa:=aj 3 vR (ah (ae 0) (ah (ak (ak (ak (ae 0) (eK (.int 2))) (cA 3 (eU cC (eK (.int 1))))) (eK (.int 0))) (ah (aU .leaf (ah (ae 2) ai)) ai)))) (fb:=eU cC (eK (.int 1))) (xs:=P.map rm) (k:=-1) (bH (Γ:=sv w M u R x4) (aC (aA rfl) (aC a1 (aC (lE (s:=.leaf) (aC (aA rfl) aq) rfl rfl rfl) aq))) ep rfl rfl) (Fn bt rfl) rfl
  rw [this];exact congrArg (fun l=>Out.ok (⟨.lst .leaf,.list l⟩:PV) _) (by rw [<-dl];exact pB)
 have il:init.length<=24:=by
  have:=congrArg List.length hP
  rw [length_append] at this;omega
 have vc:=ph (fa:=ae 3) (s:=.view) (xs:=R.map rm) (Γ:=sv w M u R x4) (C0 rfl) sl xD rfl (by rw [length_map,length_map];omega)
 rw [<-map_append] at vc;refine ⟨R++init,aT (az (Γ1:=sv w M u [u] none) (yL (lE (s:=.leaf) (aC (aA rfl) aq) rfl rfl rfl) rfl (by simp [aN])) (az (eX (bZ (s:=.leaf) (ds:=M.map .str) (aA rfl) rfl) e) (ba vc rfl))),?_,?_,fun v hv=>?_,fun c hc=>?_,by rw [length_append];omega⟩
 ·have:=I.wg.hd
  cases R with
  | nil=>cases this
  | cons a s=>exact this
 ·rw [append_assoc,<-hP,hPq]
  rw [hPq] at Wp;exact Gv hyx Wp.ch I.wg.ch hx
 ·rcases List.mem_append.mp hv with h | h
  ·exact I.inS v h
  ·exact hS v (by rw [hP];exact mem_append_left _ h)
 ·rcases hmet c hc with h | ⟨v,hv,hvc⟩
  ·cases h
  ·exact ⟨v,mem_append_left _ hv,hvc⟩
end
theorem rL {w:Wd} (ok:w.Ok) {S:List Nat} (sS:Std w.n S) (ne:S≠[]) (cl:∀x∈S,∃t∈w.stp x,t∈S):∃(h:ly w S),oA [w.enc,ay S]=.ok ⟨.leaf,(dJ w S).enc⟩/\(dJ w S).Ok:=by
 have h24:=ok.h24
 obtain ⟨q,hq⟩:=sS;have lt:∀r∈S,r<w.n:=fun r hr=>by rw [hq] at hr;exact List.mem_range.mp (List.mem_filter.mp hr).1
 have ln:S.length<=w.n:=by
  rw [hq];have:=length_filter_le q (List.range w.n)
  rwa [length_range] at this
 have nd:S.Nodup:=by rw [hq];exact (nodup_range).sublist filter_sublist
 have h:ly w S:=⟨ok,nd,lt,by omega,fun r hr=>tu ok hr⟩
 have hp:=List.length_pos_iff.mpr ne
 have okv:(dJ w S).Ok:=A5 h hp (by omega) fun r hr=>by
  exact cl r hr
 refine ⟨h,?_,okv⟩
 have t1:dr (aQ bF (ae 1)) [some ⟨.leaf,w.enc⟩,some ⟨.leaf,ay S⟩,some ⟨.leaf,(dJ w S).enc⟩]=.ok false [some ⟨.leaf,w.enc⟩,some ⟨.leaf,ay S⟩,some ⟨.leaf,(dJ w S).enc⟩]:=by
  cases S with
  | nil=>exact absurd rfl ne
  | cons a l=>rfl
 have t2:bG false (.list []) (.list ((dJ w S).s.map ay))=some (.bool false):=by
  have hk:=okv.g.wk (b:=24) okv.h24
  have sr:=yp fun r hr=>let ⟨xs,e,q,_⟩:=hk.s r hr;⟨xs,e,Jc q⟩
  have sh:shaped (.list ((dJ w S).s.map ay))=true:=by
   have:=sr.2
   have e1:PyData.canLay0 (.list ((dJ w S).s.map ay))=true:=sr.1
   have e2:PyData.depth (.list ((dJ w S).s.map ay))<=64:=by
    show PyData.depthAll ((dJ w S).s.map ay)+1<=64
    omega
   unfold shaped;rw [e1,decide_eq_true e2];rfl
  have sn:shaped (.list [])=true:=rfl
  have an:(((dJ w S).s.map ay).any fun y=>PyData.eqv y (.list []))=false:=by
   rw [List.any_eq_false];intro y hy;obtain ⟨x,hx,rfl⟩:=List.mem_map.mp hy;have:=(okv.st x hx).1
   cases x with
   | nil=>exact absurd rfl this
   | cons a l=>simp [PyData.eqv,PyData.eqvAll]
  show (if shaped (.list [])&&shaped (.list ((dJ w S).s.map ay)) then some (PyData.bool (((dJ w S).s.map ay).any fun y=>PyData.eqv y (.list []))) else none)=_
  rw [sn,sh,an];rfl
 exact aT (az (o8 (bH (aC (aA rfl) aq) ok.check rfl rfl)) (az (o8 (bH (aC (aA rfl) (aC (aA rfl) aq)) (CW ok ⟨q,hq⟩) rfl rfl)) (az (Γ1:=[some ⟨.leaf,w.enc⟩,some ⟨.leaf,ay S⟩,some ⟨.leaf,(dJ w S).enc⟩]) (cD (bH (aC (aA rfl) (aC (aA rfl) aq)) (oO h) rfl rfl) rfl (by simp [aN])) (az (cb (t:=false) (r9 (a:=false) (b:=false) t1 (gR (s:=.leaf) (aY (g:=bG false) (lE (s:=.leaf) aq rfl rfl rfl) (h9 (j:=2) (aA rfl) bt rfl rfl rfl) t2))) nofun fun _=>rfl) (ba (aA rfl) rfl)))))
theorem rK {w:Wd} (ok:w.Ok) {R:List Nat} (hR:Std w.n R) {M:List Str} (hM:∀c∈M,c∈bz) (hr:bE [bX M]=.ok ⟨.leaf,.bool true⟩) :
  ∃rows K,bC [w.enc,ay R,bX M]=.ok ⟨.tup [.lst .leaf,.leaf],.tuple [.list rows,ay K]⟩/\bD [w.enc,ay R,bX M]=.ok ⟨.leaf,.none⟩/\Std w.n K/\Fr w.n w.stp (·∈R) M (rj w) (·∈K)/\∀X,Fr w.n w.stp (·∈R) M (rj w) X->∀r,X r->r∈K:=by
 have h24:=ok.h24
 have hl:=hR.len
 obtain ⟨p,e0,hp,hro⟩:=Gd ok hM hR;have i0:FI w R M ⟨[],R,p.d⟩:=⟨hR,fun r h=>h,by simpa using hl,fun X hX=>hX.sub,hro⟩
 obtain ⟨b,e,I,hf⟩:=Ct (c:=aQ ax (aE (bx true) (ae 5) (eK .none))) (g:=iS) (G:=vX w R M) (test:=fun b=>!o7 b.row) (Inv:=FI w R M) (meas:=fun b=>b.L.length) (fun b I=>by simp) (fun b I hb=>qa ok hM I hb) 1000 _ i0 (by show R.length<1000;omega)
 have hend:nN w M b.L:=by
  rcases I.row with ⟨_,h⟩ | ⟨off,o,h,_⟩
  ·exact h
  ·rw [h] at hf;cases hf
 have wh:nU 1000 (aQ ax (aE (bx true) (ae 5) (eK .none))) iS (vX w R M ⟨[],R,p.d⟩)=.nx (vX w R M b):=by
  unfold nU;rw [e]
 have rk:bC [w.enc,ay R,bX M]=.ok ⟨.tup [.lst .leaf,.leaf],.tuple [.list b.rows,ay b.L]⟩:=
  aT (az (yL (lE (s:=.leaf) aq rfl rfl rfl) rfl (by simp [aN])) (az (cD (Cv (ds:=R.map rm) (aA rfl) rfl) rfl (by simp [aN])) (az (cD (bH (aC (aA rfl) (aC (aA rfl) (aC (aA rfl) aq))) e0 rfl rfl) hp (by simp [aN])) (az wh (ba (et (aC (zG (p:=⟨.lst .leaf,.list b.rows⟩) rfl) (aC (aA rfl) aq)) rfl rfl) rfl)))))
 have c1:=ok.check
 have c2:=CW ok hR
 have cf:bD [w.enc,ay R,bX M]=.ok ⟨.leaf,.none⟩:=by
  refine eD (Γ:=aN 3 [w.enc,ay R,bX M]) ?_
  simp [cZ,aN,c1,c2,hr]
 exact ⟨b.rows,b.L,rk,cf,I.std,⟨I.std.lt,I.sub,hend.c,hend.a⟩,I.big⟩
theorem rD {p:List Nat}:ql (p.map rm)=some (p.map fun t:Nat=>(t:Int)):=by
 have:=iP (p.map fun t:Nat=>(t:Int))
 rw [map_map] at this;exact this
theorem mO {k:Int}:∀{ns:List Int},k∈ns->∃j,zk k ns=some j
 | n::r,h=>by
  unfold zk;by_cases e:n=k
  ·rw [if_pos e];exact ⟨0,rfl⟩
  ·rw [if_neg e]
   rcases List.mem_cons.mp h with z | z
   ·exact absurd z.symm e
   ·obtain ⟨j,hj⟩:=mO z
    exact ⟨j+1,by rw [hj];rfl⟩
theorem zR {Γ:Ev} {i:Nat} {fb:F1} {s:Sh} {p:List Nat} {t:Nat} (h:Γ[i]?=some (some ⟨.leaf,ay p⟩)) (hb:fb Γ=.ok ⟨s,rm t⟩ Γ) (ht:t∈p):∃j:Nat,oK i fb Γ=.ok ⟨.leaf,rm j⟩ Γ/\j<p.length/\fM p j=t:=by
 obtain ⟨j,hj⟩:=mO (k:=(t:Int)) (ns:=p.map fun t:Nat=>(t:Int)) (List.mem_map.mpr ⟨t,ht,rfl⟩)
 have h1:=(Gg hj).1
 rw [getElem?_map] at h1;obtain ⟨u,hu,e⟩:=Option.map_eq_some_iff.mp h1;have hlt:=(List.getElem?_eq_some_iff.mp hu).1
 refine ⟨j,?_,hlt,?_⟩
 ·unfold oK
  rw [h];simp only [mP,if_true]
  rw [hb];simp only [yJ,xO,h]
  rw [rD];simp only
  rw [hj]
 ·rw [fM,getD_eq_getElem?_getD,hu]
  exact Int.ofNat_inj.mp e
theorem t4 {v:Wd} {x t y:Nat} (ht:t∈v.stp x) (h:nL v t y):nL v x y:=by
 induction h with
 | refl=>exact .step .refl ht
 | step _ hu ih=>exact .step ih hu
theorem vv {w:Wd} {K:List Nat}:∀{l:List Nat},(∀x∈l,x<K.length)->jc (dJ w K) l->jc w (l.map (fM K))
 | [],_,_=>trivial
 | [a],_,_=>trivial
 | a::b::r,hl,h=>by
  refine ⟨?_,vv (l:=b::r) (fun x hx=>hl x (mem_cons_of_mem _ hx)) h.2⟩
  have:=h.1
  rw [uk (hl a mem_cons_self)] at this;exact (mem_plS.mp this).2
theorem nk {w:Wd} (ok:w.Ok) {R:List Nat} (hR:Std w.n R) {M:List Str} (hM:∀c∈M,c∈bz) (hml:M.length<=10) (hr:bE [bX M]=.ok ⟨.leaf,.bool true⟩) {X:Nat->Prop} (hX:Fr w.n w.stp (·∈R) M (rj w) X) {r:Nat} (hrX:X r) :
  ∃F Q,cK [w.enc,ay R,bX M,rm r]=.ok ⟨.tup [.lst .leaf,.lst .leaf],wy F Q⟩/\gQ w F Q/\(∀x∈F++Q,x∈R)/\(∀c∈M,∃x∈Q,c∈w.mks x)/\F.length+Q.length<=400:=by
 have h24:=ok.h24
 obtain ⟨rows,K,er,cf,sK,fK,big⟩:=rK ok hR hM hr;have hrK:r∈K:=big X hX r hrX
 have hrn:=sK.lt r hrK
 obtain ⟨h,ep,okv⟩:=rL ok sK (fun z=>by rw [z] at hrK;cases hrK) fun x hx=>fK.c x hx
 have aK:∀k,k<K.length->(K.map rm)[k]?=some (rm (fM K k)):=fun k hk=>by
  rw [getElem?_map,fM,getD_eq_getElem?_getD,getElem?_eq_getElem hk];rfl
 have kl:=h.len
 obtain ⟨s,es,hs,ats⟩:=zR (Γ:=[some ⟨.leaf,w.enc⟩,some ⟨.leaf,ay R⟩,some ⟨.leaf,bX M⟩,some ⟨.leaf,rm r⟩,some ⟨.leaf,ay K⟩,some ⟨.leaf,(dJ w K).enc⟩,none,none,none,none]) (i:=4) (fb:=ae 3) (s:=.leaf) (p:=K) (t:=r) rfl (aA rfl) hrK
 obtain ⟨S,eS,C,y,hyS,hy⟩:=oP okv (s:=s) hs
 obtain ⟨P,u,eP,WP,hu,huS,hPl⟩:=Hl okv (G:=S) C.std.lt (by have:=C.std.len;have:=okv.h24;omega) hs hy hyS
 have hm:∀c∈M,∀x∈S,∃y,nL (dJ w K) x y/\c∈(dJ w K).mks y:=fun c hc x hx=>by
  have hx':x<K.length:=C.std.lt x hx
  refine fK.a c hc (fun room=>∀k,k<K.length->fM K k=room->∃y,nL (dJ w K) k y/\c∈(dJ w K).mks y) (fun q _ hq k hk e=>⟨k,.refl,by rw [um hk,e];exact hq⟩) (fun q _ ⟨t,ht,htK,hS⟩ k hk e=>?_) _ (Gr hx') x hx' rfl
  obtain ⟨j,hj,ej⟩:=kd htK;obtain ⟨y,h1,h2⟩:=hS j hj ej;exact ⟨y,t4 (by rw [uk hk];exact mem_plS.mpr ⟨hj,by rw [ej,e];exact ht⟩) h1,h2⟩
 obtain ⟨Q,eQ,hQh,hQc,hQS,hQm,hQl⟩:=vk okv C hM hml hm huS;obtain ⟨init,hP⟩:=List.getLast?_eq_some_iff.mp hu
 have dl:P.dropLast=init:=by rw [hP];simp
 have ltQ:∀x∈Q,x<K.length:=fun x hx=>C.std.lt x (hQS x hx)
 have ltI:∀x∈init,x<K.length:=fun x hx=>WP.lt x (by rw [hP];exact mem_append_left _ hx)
 have il:init.length<=24:=by
  have e:=congrArg List.length hP
  rw [length_append] at e;have:=okv.h24
  omega
 obtain ⟨q,hQq⟩:∃q,Q=u::q:=by
  cases Q with
  | nil=>cases hQh
  | cons a q=>cases hQh;exact ⟨q,rfl⟩
 have hall:∀x∈init.map (fM K)++Q.map (fM K),x∈K:=fun x hx=>by
  rcases List.mem_append.mp hx with z | z
  ·obtain ⟨k,hk,rfl⟩:=List.mem_map.mp z
   exact Gr (ltI k hk)
  ·obtain ⟨k,hk,rfl⟩:=List.mem_map.mp z
   exact Gr (ltQ k hk)
 refine ⟨init.map (fM K),Q.map (fM K),?_,⟨by rw [hQq];simp,fun x hx=>sK.lt x (hall x hx),?_,by rw [length_map,length_map];omega⟩,fun x hx=>fK.sub x (hall x hx),fun c hc=>?_,by rw [length_map,length_map];omega⟩
 ·refine aT (az (o8 (bH (aC (aA rfl) (aC (aA rfl) (aC (aA rfl) aq))) cf rfl rfl)) (az (o8 (bH (aC (aA rfl) (aC (aA rfl) aq)) (eI ok hrn) rfl rfl)) ?_))
  refine az (Γ1:=[some ⟨.leaf,w.enc⟩,some ⟨.leaf,ay R⟩,some ⟨.leaf,bX M⟩,some ⟨.leaf,rm r⟩,some ⟨.leaf,ay K⟩,none,none,none,none,none]) (cD (h9 (j:=1) (bH (aC (aA rfl) (aC (aA rfl) (aC (aA rfl) aq))) er rfl rfl) bt rfl rfl rfl) rfl (by simp [aN])) ?_
  refine az (cb (t:=false) (gR (s:=.leaf) (aY (g:=bG true) (aA rfl) (aA rfl) ?_)) nofun fun _=>rfl) ?_
  ·have e:=vZ (t:=r) (r:=K)
   have sh:(shaped (rm r)&&shaped (ay K))=true:=by
    rw [Ae];rfl
   have hc:((K.map rm).any fun y=>PyData.eqv y (rm r))=true:=by
    have e2:(if shaped (rm r)&&shaped (ay K) then some (PyData.bool ((K.map rm).any fun y=>PyData.eqv y (rm r))) else none)=some (.bool (K.contains r)):=e
    rw [sh,if_pos rfl] at e2;have e3:=PyData.bool.inj (Option.some.inj e2)
    rw [e3];exact List.contains_iff_mem.mpr hrK
   show (if shaped (rm r)&&shaped (ay K) then some (PyData.bool (!(K.map rm).any fun y=>PyData.eqv y (rm r))) else none)=_
   rw [sh,hc];rfl
  refine az (Γ1:=[some ⟨.leaf,w.enc⟩,some ⟨.leaf,ay R⟩,some ⟨.leaf,bX M⟩,some ⟨.leaf,rm r⟩,some ⟨.leaf,ay K⟩,some ⟨.leaf,(dJ w K).enc⟩,none,none,none,none]) (cD (bH (aC (aA rfl) (aC (aA rfl) aq)) ep rfl rfl) rfl (by simp)) ?_
  refine az (Γ1:=[some ⟨.leaf,w.enc⟩,some ⟨.leaf,ay R⟩,some ⟨.leaf,bX M⟩,some ⟨.leaf,rm r⟩,some ⟨.leaf,ay K⟩,some ⟨.leaf,(dJ w K).enc⟩,some ⟨.leaf,rm s⟩,none,none,none]) (cD es rfl (by simp)) ?_
  refine az (Γ1:=[some ⟨.leaf,w.enc⟩,some ⟨.leaf,ay R⟩,some ⟨.leaf,bX M⟩,some ⟨.leaf,rm r⟩,some ⟨.leaf,ay K⟩,some ⟨.leaf,(dJ w K).enc⟩,some ⟨.leaf,rm s⟩,some ⟨.leaf,ay P⟩,none,none]) (cD (bH (aC (aA rfl) (aC (aA rfl) (aC (bH (aC (aA rfl) (aC (aA rfl) aq)) eS rfl rfl) aq))) eP rfl rfl) rfl (by simp)) ?_
  have lp:1<=P.length:=by
   rw [hP];simp
  refine az (Γ1:=[some ⟨.leaf,w.enc⟩,some ⟨.leaf,ay R⟩,some ⟨.leaf,bX M⟩,some ⟨.leaf,rm r⟩,some ⟨.leaf,ay K⟩,some ⟨.leaf,(dJ w K).enc⟩,some ⟨.leaf,rm s⟩,some ⟨.leaf,ay P⟩,some ⟨.leaf,ay Q⟩,none]) (cD (bH (aC (aA rfl) (aC (aA rfl) (aC (we (j:=P.length-1) (ds:=P.map rm) (aA (i:=7) rfl) (Fn bt rfl) (by rw [length_map];exact uV lp) (pU hu) rfl) aq))) eQ rfl rfl) rfl (by simp)) ?_
  generalize hΓ:([some ⟨.leaf,w.enc⟩,some ⟨.leaf,ay R⟩,some ⟨.leaf,bX M⟩,some ⟨.leaf,rm r⟩,some ⟨.leaf,ay K⟩,some ⟨.leaf,(dJ w K).enc⟩,some ⟨.leaf,rm s⟩,some ⟨.leaf,ay P⟩,some ⟨.leaf,ay Q⟩,none]:Ev)=Γ
  have g4:Γ[4]?=some (some ⟨.leaf,ay K⟩):=by rw [<-hΓ];rfl
  have g7:Γ[7]?=some (some ⟨.leaf,ay P⟩):=by rw [<-hΓ];rfl
  have g8:Γ[8]?=some (some ⟨.leaf,ay Q⟩):=by rw [<-hΓ];rfl
  have gl:Γ.length=10:=by rw [<-hΓ];rfl
  have comp:∀(fi:F1) (L:List Nat),(∃sh:Sh,sh.isView=false/\fi Γ=.ok ⟨sh,ay L⟩ Γ)->L.length<=1000->(∀x∈L,x<K.length)->av .leaf 9 (aF fi) aG (ak (ae 4) (ae 9)) Γ=.ok ⟨.lst .leaf,ay (L.map (fM K))⟩ Γ:=fun fi L ⟨sh,hv,hf⟩ hL hlt=>by
   have:=ie (s:=.leaf) (i:=9) (fi:=aF fi) (fe:=ak (ae 4) (ae 9)) rm L (fun k=>⟨.leaf,rm (fM K k)⟩) (st:=!sh.isView) (Γ:=Γ) (bZ (s:=sh) hf (by unfold dD;rw [hv];rfl)) (by omega) rfl (by omega) (fun k hk=>And.intro (we (j:=k) (ds:=K.map rm) (aA (by rw [getElem?_set_ne (by decide)];exact g4)) (aA (getElem?_set_self (by omega))) (v7 (by rw [length_map];exact hlt k hk)) (aK k (hlt k hk)) rfl) rfl)
   rw [this];have e:(L.map (fM K)).map rm=L.map fun k=>rm (fM K k):=by rw [map_map];rfl
   show Out.ok (⟨.lst .leaf,.list (L.map fun k=>rm (fM K k))⟩:PV) Γ=Out.ok (⟨.lst .leaf,.list ((L.map (fM K)).map rm)⟩:PV) Γ
   rw [e]
  have sl:=pf (g:=fun k=>(none,some k)) (fa:=ae 7) (fb:=eU cC (eK (.int 1))) (xs:=P.map rm) (k:=-1) (Γ:=Γ) (aA g7) (Fn bt rfl) rfl
  have sl2:dS (fun k=>(none,some k)) (ae 7) (eU cC (eK (.int 1))) Γ=.ok ⟨.lst .leaf,ay init⟩ Γ:=by
   rw [sl];exact congrArg (fun l=>Out.ok (⟨.lst .leaf,.list l⟩:PV) Γ) (by rw [<-dl];exact pB)
  exact ba (et (aC (comp _ init ⟨.lst .leaf,rfl,sl2⟩ (by omega) ltI) (aC (comp _ Q ⟨.leaf,rfl,aA g8⟩ (by omega) ltQ) aq)) rfl rfl) rfl
 ·have c1:jc (dJ w K) (init++(Q++[u])):=by
   rw [hQq];have hWP:=WP.ch
   rw [hP] at hWP;rw [hQq] at hQc;have:=qh (z:=u) (q:=q++[u]) hQc hWP (by simp)
   simpa [append_assoc] using this
  have c2:=vv (K:=K) (fun x hx=>by
   rcases List.mem_append.mp hx with z | z
   ·exact ltI x z
   ·rcases List.mem_append.mp z with z | z
    ·exact ltQ x z
    ·rw [List.mem_singleton.mp z]
     exact ltQ u (by rw [hQq];exact mem_cons_self)) c1
  have e:init.map (fM K)++Q.map (fM K)++(Q.map (fM K)).take 1=(init++(Q++[u])).map (fM K):=by
   rw [hQq];simp
  rw [e];exact c2
 ·obtain ⟨x,hx,hxc⟩:=hQm c hc
  exact ⟨fM K x,List.mem_map.mpr ⟨x,hx,rfl⟩,by rw [<-um (ltQ x hx)];exact hxc⟩
end KC
namespace KQ.X
open PySem PySem.Spec L2 T
open PyProof.Rows hiding St
open KC
noncomputable def d_law:FS:=(aw (aD false 1 (aj 3 m__law_world (ah (ae 0) (ah (eK (.int 0)) (ah (eK (.int 6)) ai)))))
  (aw (aD false 2 (bM bL (ah (ak (ae 1) (eK (.int 0))) ai)))
  (aw (aD false 3 (sq (ah (ae 2) ai)))
  (aw (aD false 4 (aj 3 aB (ah (aj 2 aH (ah (ae 0) (ah (eK (.int 8)) ai))) (ah (eK (.int 0)) (ah (eK (.int 2)) ai)))))
  (aw (aD false 5 (ak (eK (.str "abc")) (aj 3 aB (ah (aj 2 aH (ah (ae 0) (ah (eK (.int 8)) ai))) (ah (eK (.int 1)) (ah (eK (.int 3)) ai))))))
  (aw (aD false 6 (aj 2 cY (ah (aj 2 aH (ah (ae 0) (ah (eK (.int 7)) ai))) (ah (ae 2) ai))))
  (aw (iz [10,11] (rF (aj 3 oB (ah (ae 1) (ah (ae 4) (ah (ae 6) ai)))) (eK (.int 2))))
  (aw (aD false 7 (aj 3 fY (ah (ae 1) (ah (ae 4) (ah (ae 11) ai)))))
  (aw (dz 8 (aF (ae 10))
  (aw (cF (aQ ax (aE (bG true) (ae 8) (aj 3 bp (ah (ae 1) (ah (ae 6) (ah (aU .leaf ai) ai)))))) (aP (eK (.bool false))) aS)
  (cF (aQ ax (aE (jt true) (aj 4 aZ (ah (ae 1) (ah (ae 6) (ah (aU .leaf ai) (ah (aj 4 cK (ah (ae 7) (ah (ae 6) (ah (aU .leaf ai) (ah (ae 8) ai))))) ai))))) (eK (.bool true)))) (aP (eK (.bool false))) aS)))
  (aw (iz [12,11] (rF (aj 3 kP (ah (ae 1) (ah (ae 4) (ah (aj 2 dj (ah (ae 1) (ah (ae 5) ai))) ai)))) (eK (.int 2))))
  (aw (aD false 7 (aj 3 fY (ah (ae 1) (ah (ae 4) (ah (ae 11) ai)))))
  (aw (aD false 9 (aj 3 bp (ah (ae 1) (ah (ae 3) (ah (aU .leaf (ah (ae 5) ai)) ai)))))
  (aw (dz 8 (aF (ae 3))
  (aw (cF (gz (aQ ax (aE (bx true) (ak (ae 12) (ae 8)) (eK .none))) (aQ ax (aE (bG true) (ae 8) (ae 9)))) (aP (eK (.bool false))) aS)
  (cF (aQ ax (aE (bx true) (ak (ae 12) (ae 8)) (eK .none))) (aw (aD false 13 (aj 4 cK (ah (ae 7) (ah (ae 3) (ah (aU .leaf (ah (ae 5) ai)) (ah (ae 8) ai))))))
  (cF (aQ ax (aE (jt true) (aj 4 aZ (ah (ae 1) (ah (ae 3) (ah (aU .leaf (ah (ae 5) ai)) (ah (ae 13) ai))))) (eK (.bool true)))) (aP (eK (.bool false))) aS)) aS)))
  (aP (eK (.bool true))))))))))))))))
noncomputable def m_law:List PySem.PyData->bN:=aL 14 d_law
end KQ.X
namespace KC
open PySem PySem.Spec L2 T PySem.SeqAt
open PyProof.Rows hiding St
theorem qb {w:Wd} {p:Int} {sd:Nat->List Nat} (hsd:∀r t,r<w.n->t∈sd r->t∈w.stp r) {r t:Nat} (hr:r<w.n) (h:t∈(gd w (aM w p sd)).stp r):t∈w.stp r:=by
 rw [Gy hr,ET hr] at h
 cases ho:own w p r with
 | false=>rw [ho] at h;exact h
 | true=>
  rw [ho] at h
  cases hh:(sd r).head? with
  | none=>rw [if_pos rfl,hh] at h;exact h
  | some u=>
   rw [if_pos rfl,hh] at h;rw [List.mem_singleton.mp h];exact hsd r u hr (List.mem_of_head? hh)
theorem qf {w v:Wd} (h:∀r,r<w.n->∀t∈v.stp r,t∈w.stp r):∀{l:List Nat},(∀x∈l,x<w.n)->jc v l->jc w l
 | [],_,_=>trivial
 | [_],_,_=>trivial
 | a::b::r,hl,c=>⟨h a (hl a mem_cons_self) b c.1,qf h (fun x hx=>hl x (mem_cons_of_mem _ hx)) c.2⟩
theorem pb {w:Wd} {p:Int} {sd:Nat->List Nat} (hsd:∀r t,r<w.n->t∈sd r->t∈w.stp r) {F Q:List Nat} (h:gQ (gd w (aM w p sd)) F Q):gQ w F Q:=
 ⟨h.ne,h.lt,qf (v:=gd w (aM w p sd)) (fun r hr t ht=>qb hsd hr ht) (fun x hx=>by
  rcases List.mem_append.mp hx with z | z
  ·exact h.lt x z
  ·exact h.lt x (mem_append_right _ (List.mem_of_mem_take z))) h.ch,h.len⟩
theorem qQ {w:Wd} (ok:w.Ok) {p:Int} (hp:p=0\/p=1) {r:Nat} (hr:r<w.n):own w (1-p) r=!own w p r:=by
 obtain ⟨o,ho,_,h⟩:=ok.o_at hr;rw [h,h];rcases hp with rfl | rfl<;>rcases ho with rfl | rfl<;>rfl
theorem xN {w:Wd} (ok:w.Ok) {p:Int} (hp:p=0\/p=1) {R:List Nat} {rk:List (Option Nat)} (Rk:RightG w.n w.stp (own w (1-p)) (List.range w.n) ((List.range w.n).filter fun t=>!R.contains t) rk) :
  Fr w.n (gd w (aM w p (df w (cU w.n rk)))).stp (·∈R) ([]:List Str) (rj w) (·∈cU w.n rk):=by
 have sub:∀r,r∈cU w.n rk->r∈R:=fun r hr=>Classical.byContradiction fun z=>by
  obtain ⟨h1,h2⟩:=mem_noR.mp hr;exact (Rk.z r h1 h2).1 (List.mem_filter.mpr ⟨List.mem_range.mpr h1,by
   cases e:R.contains r with
   | false=>rfl
   | true=>exact absurd (List.contains_iff_mem.mp e) z⟩)
 refine ⟨fun r hr=>(mem_noR.mp hr).1,sub,fun r hr=>?_,fun m hm=>nomatch hm⟩
 obtain ⟨h1,h2⟩:=mem_noR.mp hr;have hz:=(Rk.z r h1 h2).2
 have hz:¬led (own w (1-p) r) (w.stp r) fun t=>aI rk t≠none:=hz.resolve_left fun z=>z (List.mem_range.mpr h1)
 rw [qQ ok hp h1] at hz;rw [Gy h1,ET h1]
 cases ho:own w p r with
 | true=>
  rw [ho] at hz;have hz:=mt led_f.mpr hz
  obtain ⟨t,ht⟩:=Classical.not_forall.mp hz;obtain ⟨ht1,ht2⟩:=Classical.not_imp.mp ht;have hk:t∈cU w.n rk:=mem_noR.mpr ⟨ok.stp_lt ht1,Classical.not_not.mp ht2⟩
  have hw:t∈df w (cU w.n rk) r:=List.mem_filter.mpr ⟨ht1,by rw [List.contains_iff_mem.mpr hr,List.contains_iff_mem.mpr hk];rfl⟩
  cases e:df w (cU w.n rk) r with
  | nil=>rw [e] at hw;cases hw
  | cons a l=>
   have ha:a∈df w (cU w.n rk) r:=by rw [e];exact mem_cons_self
   have ha2:=(List.mem_filter.mp ha).2
   rw [Bool.and_eq_true,contains_iff_mem,contains_iff_mem] at ha2;exact ⟨a,List.mem_singleton.mpr rfl,ha2.2⟩
 | false=>
  rw [ho] at hz;have hz:=mt led_t.mpr hz
  obtain ⟨t,ht⟩:=exists_mem_of_ne_nil _ (ok.stp_ne h1);exact ⟨t,ht,mem_noR.mpr ⟨ok.stp_lt ht,Classical.byContradiction fun z=>hz ⟨t,ht,z⟩⟩⟩
theorem DM {w:Wd} {p:Int} {sd:Nat->List Nat} (hsd:∀r t,r<w.n->t∈sd r->t∈w.stp r) {R X:Nat->Prop} (h:Fr w.n (gd w (aM w p sd)).stp R ([]:List Str) (rj w) X):Fr w.n w.stp R ([]:List Str) (rj w) X:=
 ⟨h.lt,h.sub,fun r hr=>by
  obtain ⟨t,ht,hx⟩:=h.c r hr;exact ⟨t,qb hsd (h.lt r hr) ht,hx⟩,fun m hm=>nomatch hm⟩
theorem vB {w:Wd} (ok:w.Ok) {p:Int} {c:Str} {tn:List (Option (Nat×Nat))} {L:List Nat} {rk:List (Option Nat)} (A:sf w p (oy w c) tn L) (R:RightG w.n (inn w.stp L) (own w p) L (gl (oy w c) L) rk) (okv:(gd w (aM w p (fG w rk))).Ok) :
  Fr w.n (gd w (aM w p (fG w rk))).stp (·∈List.range w.n) [c] (rj w) (·∈L):=by
 have hL:=Hv ok A R
 refine ⟨A.std.lt,fun r hr=>List.mem_range.mpr (A.std.lt r hr),fun r hr=>?_,fun m hm S h1 h2 r hr=>?_⟩
 ·obtain ⟨t,ht⟩:=exists_mem_of_ne_nil _ (okv.stp_ne (r:=r) (A.std.lt r hr))
  exact ⟨t,ht,(lG ok A R hr ht).1⟩
 ·have hm:m=c:=by simpa using hm
  subst hm;have go:∀k r,r∈L->aI rk r=some k->S r:=by
   intro k;induction k using Nat.strongRecOn with
   | ind k ih=>
    intro r hr hk;have hrn:=A.std.lt r hr
    by_cases hg:r∈gl (oy w m) L
    ·have:=(List.mem_filter.mp hg).2
     simp only [contains_iff_mem,mem_mkd] at this
     exact h1 r hr this.2
    ·have hk0:=(R.p r k hrn hg hk).1
     cases k with
     | zero=>omega
     | succ k=>
      obtain ⟨t,ht⟩:=exists_mem_of_ne_nil _ (okv.stp_ne (r:=r) hrn)
      obtain ⟨q1,q2⟩:=lG ok A R hr ht;obtain ⟨i,hi,hlt⟩:=q2 k hk;exact h2 r hr ⟨t,ht,q1,ih i hlt t q1 hi⟩
  obtain ⟨k,hk⟩:=Option.ne_none_iff_exists'.mp (by rw [<-hL] at hr;exact (mem_hasR.mp hr).2)
  exact go k r hr hk
end KC
namespace KQ.X
open PySem PySem.Spec L2 T PySem.SeqAt
open PyProof.Rows hiding St
open KC
theorem oN {c:Int} {n:Nat} (hn:n<=24):∃R,cY [.int c,.int (n:Int)]=.ok ⟨.lst .leaf,ay R⟩/\Std n R:=by
 refine ⟨(List.range n).filter fun r:Nat=>decide (0<fH c (r:Int) 3),?_,Std.of _⟩
 have e:av .leaf 2 (gk (ah (ae 1) ai)) (aQ ax (aE mT (aj 3 aB (ah (ae 0) (ah (ae 2) (ah (eK (.int 3)) ai)))) (eK (.int 0)))) (ae 2) (aN 3 [.int c,.int (n:Int)])=.ok ⟨.lst .leaf,.list (((List.range n).filter fun r:Nat=>decide (0<fH c (r:Int) 3)).map fun r=>rm r)⟩ (aN 3 [.int c,.int (n:Int)]):=by
  refine nR rm (List.range n) (fun r:Nat=>decide (0<fH c (r:Int) 3)) (fun r=>⟨.leaf,rm r⟩) (st:=true) ?_ (by simp [aN]) rfl (by simp;omega) (fun r hr=>?_) (fun r hr _=>?_)
  ·exact vG (s:=.leaf) (n:=n) (by omega) (by simp [aN])
  ·have:=List.mem_range.mp hr
   have d:=zJ (c:=c) (k:=(r:Int)) (b:=3) (by omega) (by omega) (by omega) (by omega)
   simp [aN,d]
  ·simp [aN]
 exact aT (ba e rfl)
noncomputable abbrev GX (xs:List D) (w:Wd) (p:Int) (mc:Nat) (R:List Nat) (x7 x8 x9 x10 x11 x12 x13:Option PV):Ev:=[some ⟨.leaf,.list xs⟩,some ⟨.leaf,w.enc⟩,some ⟨.leaf,.int (w.n:Int)⟩,some ⟨.leaf,ay (List.range w.n)⟩,some ⟨.leaf,.int p⟩,some ⟨.leaf,.str ⟨#[mc]⟩⟩,some ⟨.leaf,ay R⟩,x7,x8,x9,x10,x11,x12,x13]
theorem qc {w:Wd} {R:List Nat} {M:List Str} {F Q:List Nat} (h1:∀x∈F++Q,x∈R) (h2:∀c∈M,∃x∈Q,c∈w.mks x):FQ w R M F Q=true:=by
 unfold FQ;rw [Bool.and_eq_true,all_eq_true,all_eq_true];refine ⟨fun x hx=>List.contains_iff_mem.mpr (h1 x hx),fun c hc=>?_⟩
 obtain ⟨x,hx,hxc⟩:=h2 c hc;exact List.any_eq_true.mpr ⟨x,hx,List.contains_iff_mem.mpr hxc⟩
theorem yg {xs:List D} (hx:hZ xs):m_law [.list xs]=.ok ⟨.leaf,.bool true⟩:=by
 obtain ⟨n,os,ms,ss,e0,g,h1,h6⟩:=rH hx (at':=0) (lim:=6) (by omega) (by omega) (by omega)
 obtain ⟨w,ok,ew,en⟩:=C2 g h1 (by omega)
 rw [<-ew] at e0;have h24:=ok.h24
 obtain ⟨c,hc⟩:=EF hx (k:=8) (by omega)
 obtain ⟨c7,hc7⟩:=EF hx (k:=7) (by omega)
 have dp:=zJ (c:=c) (k:=0) (b:=2) (by omega) (by omega) (by omega) (by omega)
 have dm:=zJ (c:=c) (k:=1) (b:=3) (by omega) (by omega) (by omega) (by omega)
 have hp:=IZ (c:=c) (k:=0) (by omega) (by omega)
 have d3:=Ei (c:=c) (k:=1) (b:=3) (by omega) (by omega) (by omega) (by omega)
 obtain ⟨mc,em,hmc⟩:=vD d3.1 d3.2;generalize fH c 0 2=p at dp hp
 obtain ⟨R,er,sR⟩:=oN (c:=c7) (n:=w.n) h24
 obtain ⟨rk2,ek,Rk⟩:=vn ok hp sR;have wsub:∀r t,r<w.n->t∈df w (cU w.n rk2) r->t∈w.stp r:=fun r t _ h=>(List.mem_filter.mp h).1
 have po:=jO (w:=w) (p:=p) (sd:=df w (cU w.n rk2)) wsub
 have f1:=iW ok hp po
 have ok1:=vf ok po
 have kf:=xN ok hp Rk
 have M0:MkOk ([]:List Str):=⟨(fun _ h=>nomatch h),rfl,by simp⟩
 obtain ⟨K,ef,sK,fK,bK⟩:=nq ok (R:=R) sR (M:=[]) M0.l M0.are
 have mm:=iU ok hmc
 have sT:Std w.n (oy w ⟨#[mc]⟩):=Std.of _
 obtain ⟨rk,tn,L,ea,A,Ra⟩:=rO ok hp sT;have po2:=jO (w:=w) (p:=p) (sd:=fG w rk) uF
 have f2:=iW ok hp po2
 have ok2:=vf ok po2
 have M1:MkOk [(⟨#[mc]⟩:Str)]:=⟨(fun d hd=>by rw [List.mem_singleton.mp hd];exact hmc),rfl,by simp⟩
 obtain ⟨K2,ef2,sK2,fK2,bK2⟩:=nq ok (R:=List.range w.n) Std.range (M:=[⟨#[mc]⟩]) M1.l M1.are
 have af:=vB ok A Ra ok2
 have hL:=Hv ok A Ra
 have rl:rk.length=w.n:=Ra.len
 refine aT ?_
 refine az (cD (bH (aC (aA rfl) (aC bt (aC bt aq))) e0 rfl rfl) rfl (by simp [aN])) ?_
 refine az (cD (EB ok rfl) rfl (by simp [aN])) ?_
 refine az (cD (vK (s:=.leaf) (n:=w.n) (by omega) (aC (aA rfl) aq)) rfl (by simp [aN])) ?_
 refine az (cD (bH (aC (bH (aC (aA rfl) (aC bt aq)) hc rfl rfl) (aC bt (aC bt aq))) dp rfl rfl) rfl (by simp [aN])) ?_
 refine az (cD (zS bt (bH (aC (bH (aC (aA rfl) (aC bt aq)) hc rfl rfl) (aC bt (aC bt aq))) dm rfl rfl) yy em) rfl (by simp [aN])) ?_
 refine az (Γ1:=GX xs w p mc R none none none none none none none) (cD (bH (aC (bH (aC (aA rfl) (aC bt aq)) hc7 rfl rfl) (aC (aA rfl) aq)) er rfl rfl) rfl (by simp [aN])) ?_
 refine az (Γ1:=GX xs w p mc R none none none (some ⟨.leaf,ay (cU w.n rk2)⟩) (some ⟨.leaf,bj (aM w p (df w (cU w.n rk2)))⟩) none none) (sI (ps:=[⟨.leaf,ay (cU w.n rk2)⟩,⟨.leaf,bj (aM w p (df w (cU w.n rk2)))⟩]) (yV (k:=2) (bH (aC (aA rfl) (aC (aA rfl) (aC (aA rfl) aq))) ek rfl rfl) bt rfl (by simp)) rfl rfl rfl) ?_
 refine az (Γ1:=GX xs w p mc R (some ⟨.leaf,(gd w (aM w p (df w (cU w.n rk2)))).enc⟩) none none (some ⟨.leaf,ay (cU w.n rk2)⟩) (some ⟨.leaf,bj (aM w p (df w (cU w.n rk2)))⟩) none none) (cD (bH (aC (aA rfl) (aC (aA rfl) (aC (aA rfl) aq))) f1 rfl rfl) rfl (by simp)) ?_
 obtain ⟨Γ2,e1,_,x8,hΓ⟩:=EO rm (i:=8) (body:=(aw (cF (aQ ax (aE (bG true) (ae 8) (aj 3 bp (ah (ae 1) (ah (ae 6) (ah (aU .leaf ai) ai)))))) (aP (eK (.bool false))) aS)
  (cF (aQ ax (aE (jt true) (aj 4 aZ (ah (ae 1) (ah (ae 6) (ah (aU .leaf ai) (ah (aj 4 cK (ah (ae 7) (ah (ae 6) (ah (aU .leaf ai) (ah (ae 8) ai))))) ai))))) (eK (.bool true)))) (aP (eK (.bool false))) aS)))
  (Inv:=fun rest Γ=>(∀a∈rest,a∈cU w.n rk2)/\∃x8,Γ=GX xs w p mc R (some ⟨.leaf,(gd w (aM w p (df w (cU w.n rk2)))).enc⟩) x8 none (some ⟨.leaf,ay (cU w.n rk2)⟩) (some ⟨.leaf,bj (aM w p (df w (cU w.n rk2)))⟩) none none)
  (fun a rest Γ ⟨hr,x8,e⟩=>by
   subst e;refine ⟨by simp,GX xs w p mc R (some ⟨.leaf,(gd w (aM w p (df w (cU w.n rk2)))).enc⟩) (some ⟨.leaf,rm a⟩) none (some ⟨.leaf,ay (cU w.n rk2)⟩) (some ⟨.leaf,bj (aM w p (df w (cU w.n rk2)))⟩) none none,?_,fun b hb=>hr b (mem_cons_of_mem _ hb),_,rfl⟩
   have ha:=hr a mem_cons_self
   have haK:a∈K:=bK _ (DM wsub kf) a ha
   obtain ⟨F,Q,ewy,hw,hin,_,hln⟩:=nk ok1 (R:=R) sR (M:=[]) M0.l (by simp) M0.are (X:=(·∈cU w.n rk2)) kf ha
   have hwy:gQ w F Q:=pb wsub hw
   have efa:=jZ ok sR M0 hwy (by omega)
   rw [qc (w:=w) (M:=[]) hin (fun c hc=>by cases hc)] at efa
   refine az (cb (t:=false) (gR (s:=.leaf) (aY (g:=bG true) (aA rfl) (bH (aC (aA rfl) (aC (aA rfl) (aC (lE (s:=.leaf) aq rfl rfl rfl) aq))) ef rfl rfl) ?_)) nofun fun _=>rfl) ?_
   ·show bG true (rm a) (ay K)=_
    rw [ER,List.contains_iff_mem.mpr haK];rfl
   exact cb (t:=false) (gR (s:=.leaf) (aY (g:=jt true) (bH (aC (aA rfl) (aC (aA rfl) (aC (lE (s:=.leaf) aq rfl rfl rfl) (aC (bH (aC (aA rfl) (aC (aA rfl) (aC (lE (s:=.leaf) aq rfl rfl rfl) (aC (aA rfl) aq)))) ewy rfl rfl) aq)))) efa rfl rfl) bt rfl)) nofun fun _=>rfl) (cU w.n rk2) (GX xs w p mc R (some ⟨.leaf,(gd w (aM w p (df w (cU w.n rk2)))).enc⟩) none none (some ⟨.leaf,ay (cU w.n rk2)⟩) (some ⟨.leaf,bj (aM w p (df w (cU w.n rk2)))⟩) none none) ⟨fun a ha=>ha,none,rfl⟩
 subst hΓ;refine az (eX (bZ (s:=.leaf) (aA rfl) rfl) e1) ?_
 refine az (Γ1:=GX xs w p mc R (some ⟨.leaf,(gd w (aM w p (df w (cU w.n rk2)))).enc⟩) x8 none (some ⟨.leaf,ay (cU w.n rk2)⟩) (some ⟨.leaf,bj (aM w p (fG w rk))⟩) (some ⟨.leaf,bj rk⟩) none) (sI (ps:=[⟨.leaf,bj rk⟩,⟨.leaf,bj (aM w p (fG w rk))⟩]) (yV (k:=2) (bH (aC (aA rfl) (aC (aA rfl) (aC (bH (aC (aA rfl) (aC (aA rfl) aq)) mm rfl rfl) aq))) ea rfl rfl) bt rfl (by simp)) rfl rfl rfl) ?_
 refine az (Γ1:=GX xs w p mc R (some ⟨.leaf,(gd w (aM w p (fG w rk))).enc⟩) x8 none (some ⟨.leaf,ay (cU w.n rk2)⟩) (some ⟨.leaf,bj (aM w p (fG w rk))⟩) (some ⟨.leaf,bj rk⟩) none) (cD (bH (aC (aA rfl) (aC (aA rfl) (aC (aA rfl) aq))) f2 rfl rfl) rfl (by simp)) ?_
 refine az (Γ1:=GX xs w p mc R (some ⟨.leaf,(gd w (aM w p (fG w rk))).enc⟩) x8 (some ⟨.leaf,ay K2⟩) (some ⟨.leaf,ay (cU w.n rk2)⟩) (some ⟨.leaf,bj (aM w p (fG w rk))⟩) (some ⟨.leaf,bj rk⟩) none) (cD (bH (aC (aA rfl) (aC (aA rfl) (aC (lE (s:=.leaf) (aC (aA rfl) aq) rfl rfl rfl) aq))) ef2 rfl rfl) rfl (by simp)) ?_
 obtain ⟨Γ3,e3,_,y8,y13,hΓ⟩:=EO rm (i:=8) (body:=(aw (cF (gz (aQ ax (aE (bx true) (ak (ae 12) (ae 8)) (eK .none))) (aQ ax (aE (bG true) (ae 8) (ae 9)))) (aP (eK (.bool false))) aS)
  (cF (aQ ax (aE (bx true) (ak (ae 12) (ae 8)) (eK .none))) (aw (aD false 13 (aj 4 cK (ah (ae 7) (ah (ae 3) (ah (aU .leaf (ah (ae 5) ai)) (ah (ae 8) ai))))))
  (cF (aQ ax (aE (jt true) (aj 4 aZ (ah (ae 1) (ah (ae 3) (ah (aU .leaf (ah (ae 5) ai)) (ah (ae 13) ai))))) (eK (.bool true)))) (aP (eK (.bool false))) aS)) aS)))
  (Inv:=fun rest Γ=>(∀a∈rest,a<w.n)/\∃x8 x13,Γ=GX xs w p mc R (some ⟨.leaf,(gd w (aM w p (fG w rk))).enc⟩) x8 (some ⟨.leaf,ay K2⟩) (some ⟨.leaf,ay (cU w.n rk2)⟩) (some ⟨.leaf,bj (aM w p (fG w rk))⟩) (some ⟨.leaf,bj rk⟩) x13)
  (fun a rest Γ ⟨hr,x8,x13,e⟩=>by
   subst e;have ha:=hr a mem_cons_self
   have at1:(rk.map oD)[a]?=some (oD (aI rk a)):=by
    rw [getElem?_map,getElem?_eq_getElem (by omega),aI,getD_eq_getElem?_getD,getElem?_eq_getElem (by omega)]
    rfl
   have t1:=gR (s:=.leaf) (aY (g:=bx true) (d:=.bool (!(aI rk a).isNone)) (we (j:=a) (aA (i:=12) (Γ:=GX xs w p mc R (some ⟨.leaf,(gd w (aM w p (fG w rk))).enc⟩) (some ⟨.leaf,rm a⟩) (some ⟨.leaf,ay K2⟩) (some ⟨.leaf,ay (cU w.n rk2)⟩) (some ⟨.leaf,bj (aM w p (fG w rk))⟩) (some ⟨.leaf,bj rk⟩) x13) rfl) (aA (i:=8) rfl) (v7 (by rw [length_map];omega)) at1 rfl) (bt (d:=.none)) (by rw [AK,xG]))
   have t2:=gR (s:=.leaf) (aY (g:=bG true) (d:=.bool (!K2.contains a)) (aA (i:=8) (Γ:=GX xs w p mc R (some ⟨.leaf,(gd w (aM w p (fG w rk))).enc⟩) (some ⟨.leaf,rm a⟩) (some ⟨.leaf,ay K2⟩) (some ⟨.leaf,ay (cU w.n rk2)⟩) (some ⟨.leaf,bj (aM w p (fG w rk))⟩) (some ⟨.leaf,bj rk⟩) x13) rfl) (aA (i:=9) rfl) ER)
   have t12:=zy t1 t2
   refine ⟨by simp,?_⟩
   cases hk:aI rk a with
   | none=>
    rw [hk] at t1 t12
    exact ⟨GX xs w p mc R (some ⟨.leaf,(gd w (aM w p (fG w rk))).enc⟩) (some ⟨.leaf,rm a⟩) (some ⟨.leaf,ay K2⟩) (some ⟨.leaf,ay (cU w.n rk2)⟩) (some ⟨.leaf,bj (aM w p (fG w rk))⟩) (some ⟨.leaf,bj rk⟩) x13,az (cb (t:=false) t12 nofun fun _=>rfl) (cb (t:=false) t1 nofun fun _=>rfl),fun b hb=>hr b (mem_cons_of_mem _ hb),_,_,rfl⟩
   | some k=>
    have hal:a∈L:=by rw [<-hL];exact mem_hasR.mpr ⟨ha,by rw [hk];simp⟩
    have haK:a∈K2:=bK2 _ (sM ok A) a hal
    rw [hk] at t1 t12
    rw [List.contains_iff_mem.mpr haK] at t12;obtain ⟨F,Q,ewy,hw,hin,hmk,hln⟩:=nk ok2 (R:=List.range w.n) Std.range (M:=[⟨#[mc]⟩]) M1.l (by simp) M1.are (X:=(·∈L)) af hal
    have hwy:gQ w F Q:=pb uF hw
    have efa:=jZ ok Std.range M1 hwy (by omega)
    rw [qc (w:=w) hin hmk] at efa;refine ⟨GX xs w p mc R (some ⟨.leaf,(gd w (aM w p (fG w rk))).enc⟩) (some ⟨.leaf,rm a⟩) (some ⟨.leaf,ay K2⟩) (some ⟨.leaf,ay (cU w.n rk2)⟩) (some ⟨.leaf,bj (aM w p (fG w rk))⟩) (some ⟨.leaf,bj rk⟩) (some ⟨.leaf,wy F Q⟩),?_,fun b hb=>hr b (mem_cons_of_mem _ hb),_,_,rfl⟩
    refine az (cb (t:=false) t12 nofun fun _=>rfl) (cb (t:=true) t1 (fun _=>?_) nofun)
    refine az (cD (bH (aC (aA rfl) (aC (aA rfl) (aC (lE (s:=.leaf) (aC (aA rfl) aq) rfl rfl rfl) (aC (aA rfl) aq)))) ewy rfl rfl) rfl (by simp)) ?_
    exact cb (t:=false) (gR (s:=.leaf) (aY (g:=jt true) (bH (aC (aA rfl) (aC (aA rfl) (aC (lE (s:=.leaf) (aC (aA rfl) aq) rfl rfl rfl) (aC (aA rfl) aq)))) efa rfl rfl) bt rfl)) nofun fun _=>rfl) (List.range w.n) (GX xs w p mc R (some ⟨.leaf,(gd w (aM w p (fG w rk))).enc⟩) x8 (some ⟨.leaf,ay K2⟩) (some ⟨.leaf,ay (cU w.n rk2)⟩) (some ⟨.leaf,bj (aM w p (fG w rk))⟩) (some ⟨.leaf,bj rk⟩) none) ⟨fun a ha=>List.mem_range.mp ha,x8,none,rfl⟩
 subst hΓ;exact az (eX (bZ (s:=.leaf) (aA rfl) rfl) e3) (ba bt rfl)
theorem law_true (ns:List Int) (hl:ns.length<=63):m_law [.list (ns.map .int)]=.ok ⟨.leaf,.bool true⟩:=yg Cu
end KQ.X
namespace KQ.X
open PySem PySem.Spec L2 T TQ
open PyProof.Rows hiding St
open KC
noncomputable def cM (n:Nat):Stmt:=(PySem.Challenge.pw_foreseehall_k92_whole_from_keeping_to_fa.main.body)[n]!
noncomputable def lU:Stmt:=cM 12
noncomputable def lY:Stmt:=cM 13
noncomputable def lX:Stmt:=cM 14
noncomputable def lW:Stmt:=cM 15
noncomputable def oi:Stmt:=cM 16
noncomputable def jl:Stmt:=cM 17
noncomputable def ix:Stmt:=cM 18
noncomputable def kA:Stmt:=cM 19
noncomputable def ky:Stmt:=cM 20
noncomputable def jm:Stmt:=cM 21
noncomputable def tJ:Stmt:=cM 23
noncomputable def Ah:Stmt:=cM 27
noncomputable def tK:Stmt:=cM 29
noncomputable def oj:Stmt:=cM 30
noncomputable def jj:Stmt:=cM 31
noncomputable def jh:Stmt:=cM 32
noncomputable def og:Stmt:=cM 33
noncomputable def oe:Stmt:=cM 34
noncomputable def kB:Stmt:=cM 36
noncomputable def gS:Stmt:=cM 37
noncomputable def qy:Stmt:=cM 38
noncomputable def gT:Stmt:=cM 39
noncomputable def ku:Stmt:=cM 40
noncomputable def qA:Stmt:=cM 41
noncomputable def iw:Stmt:=cM 42
noncomputable def gW:Stmt:=cM 43
noncomputable def om:Stmt:=cM 44
noncomputable def ji:Stmt:=cM 46
noncomputable def qB:Stmt:=cM 48
noncomputable def lV:Stmt:=cM 49
noncomputable def iu:Stmt:=cM 51
noncomputable def kr:Stmt:=cM 52
noncomputable def kz:Stmt:=cM 53
noncomputable def tL:Stmt:=cM 54
noncomputable def qz:Stmt:=cM 55
noncomputable def kx:Stmt:=cM 57
noncomputable def qC:Stmt:=cM 58
noncomputable def jk:Stmt:=cM 60
noncomputable def jg:Stmt:=cM 61
noncomputable def ko:Stmt:=cM 62
noncomputable def gr:Stmt:=cM 63
noncomputable def oh:Stmt:=cM 64
noncomputable def kq:Stmt:=cM 65
noncomputable def wN:Stmt:=cM 66
noncomputable def jf:Stmt:=cM 68
noncomputable def gU:Stmt:=cM 70
noncomputable def ir:Stmt:=cM 71
noncomputable def Ai:Stmt:=cM 72
noncomputable def iy:Stmt:=cM 74
noncomputable def lZ:Stmt:=cM 75
noncomputable def kC:Stmt:=cM 76
noncomputable def kD:Stmt:=cM 77
noncomputable def De:Stmt:=cM 78
structure Gl (K:Fg) (mg:Str->Option Value):Prop where
 n0:mg "len"=none
 n1:mg "range"=none
 n2:mg "all"=none
 n3:mg "sorted"=none
 n4:mg "enumerate"=none
 n5:mg "list"=none
 n6:mg "any"=none
 n7:mg "min"=none
 n8:mg "int"=none
 h0:o5 K mg "LETTERS" bV
 h1:o5 K mg "MOST_ROOMS" dR
 h2:o5 K mg "PLAYERS" bU
structure Al (K:Fg) (mg:Str->Option Value):Prop where
 g:Gl K mg
 f0:Ft K mg "is_rising" lU
 f1:Ft K mg "are_marks" lY
 f2:Ft K mg "are_rooms" lX
 f3:Ft K mg "are_steps" lW
 f4:Ft K mg "is_world" oi
 f5:Ft K mg "check_world" jl
 f6:Ft K mg "check_player" ix
 f7:Ft K mg "check_mark" kA
 f8:Ft K mg "check_room" ky
 f9:Ft K mg "check_rooms" jm
 f10:Ft K mg "reached" s_reached
 f11:Ft K mg "marked" tJ
 f12:Ft K mg "places_of" cN
 f13:Ft K mg "placed" eu
 f14:Ft K mg "part" Ah
 f15:Ft K mg "is_led" tK
 f16:Ft K mg "is_lower" oj
 f17:Ft K mg "lower_steps" jj
 f18:Ft K mg "ranked_next" jh
 f19:Ft K mg "ranks_to" og
 f20:Ft K mg "steps_to" oe
 f21:Ft K mg "check_fair" kB
 f22:Ft K mg "steps_to_mark" gS
 f23:Ft K mg "row_off" qy
 f24:Ft K mg "rows_and_kept" gT
 f25:Ft K mg "fair_rooms" ku
 f26:Ft K mg "path_to" qA
 f27:Ft K mg "closed_rooms" iw
 f28:Ft K mg "ring_by_marks" gW
 f29:Ft K mg "fair_way" om
 f30:Ft K mg "other_rooms" ji
 f31:Ft K mg "goes_on" qB
 f32:Ft K mg "check_way" lV
 f33:Ft K mg "other_player" iu
 f34:Ft K mg "is_plan_of" kr
 f35:Ft K mg "check_plan" kz
 f36:Ft K mg "follow" tL
 f37:Ft K mg "plan_of" qz
 f38:Ft K mg "check_told" kx
 f39:Ft K mg "brought" qC
 f40:Ft K mg "inner_world" jk
 f41:Ft K mg "ranks_among" jg
 f42:Ft K mg "lost_rooms" ko
 f43:Ft K mg "turns_and_left" gr
 f44:Ft K mg "leads_on" oh
 f45:Ft K mg "leads_down" kq
 f46:Ft K mg "again" wN
 f47:Ft K mg "way_is_fair" jf
 f48:Ft K mg "rooms_without" gU
 f49:Ft K mg "steps_within" ir
 f50:Ft K mg "keep" Ai
 f51:Ft K mg "_law_cell_at" iy
 f52:Ft K mg "_law_draw" lZ
 f53:Ft K mg "_law_world" kC
 f54:Ft K mg "_law_rooms" kD
 f55:Ft K mg "law" De
section
variable {P:Program} {w:World} {K:Fg} {mg:Str->Option Value} {base:Heap} (A:Al K mg)
include A
theorem gG:DefOk P w K mg base 1 "is_rising" 1 dv:=mk A.f0 A.g ["entries"] zw ["k"] ["len", "range", "all"] [0] [0] [0,1,2] fun X S I hp=>
 (cg (sg S 2 rfl rfl I.e.n2 (aR (d7 [0,1] [0] [] S 1 (yT S 1 rfl rfl I.e.n1 (aO w_de_int (aR (lB S 0 I.e.n0 (aR (ao S 0))))) (lT rfl rfl) (dC rfl)) (fun _ _ _=>w_df_nil) (fun Y1 S1 F1=>have I:=F1.i I;(ik (kF I.r) (bq (ao S1 0) (Hu (ao S1 1) w_de_int)) (bq (ao S1 0) (ao S1 1)))))) (dE rfl) rfl))
theorem gJ:DefOk P w K mg base 2 "are_marks" 1 bE:=mk A.f1 A.g ["entries"] zw ["entry"] ["LETTERS", "all", "is_rising"] [0] [] [1,2] fun X S I hp=>
 (cg (yO (sg S 1 rfl rfl I.e.n2 (aR (d7 [1] [] [0] S 1 (w_di_seq (ao S 0)) (fun _ _ _=>w_df_nil) (fun Y1 S1 F1=>have I:=F1.i I;(ik (fS I.r) (ao S1 1) (sV S1 0 rfl rfl I.e.h0))))) (dE rfl) rfl) (yP (bu S 2 (I.c (gG A)) (aR (ao S 0))))))
theorem gH:DefOk P w K mg base 2 "are_rooms" 2 cO:=mk A.f2 A.g ["entries", "size"] lD ["entry"] ["all", "is_rising"] [0,1] [1] [0,1] fun X S I hp=>
 (cg (yO (sg S 0 rfl rfl I.e.n2 (aR (d7 [1,2] [1] [] S 2 (w_di_seq (ao S 0)) (fun _ _ _=>w_df_nil) (fun Y1 S1 F1=>have I:=F1.i I;(yU (AV I.r) (kF I.r) w_de_int (ao S1 2) (ao S1 1) (by with_unfolding_all rfl))))) (dE rfl) rfl) (yP (bu S 1 (I.c (gG A)) (aR (ao S 0))))))
theorem mD:DefOk P w K mg base 3 "are_steps" 2 dw:=mk A.f3 A.g ["entries", "size"] lD [] ["len", "are_rooms"] [0,1] [] [0,1] fun X S I hp=>
 (cg (yO (ik (ue I.r) (lB S 0 I.e.n0 (aR (ao S 0))) w_de_int) (yP (bu S 1 (I.c (gH A)) (aO (ao S 0) (aR (ao S 1)))))))
theorem ou:DefOk P w K mg base 4 "is_world" 3 dN:=mk A.f4 A.g ["owners", "marks", "steps"] ib ["size", "owner", "row"] ["len", "MOST_ROOMS", "PLAYERS", "all", "are_marks", "are_steps"] [0,1,2,3] [3] [0,1,3] fun X S I hp=>
 (bg (cE S false 3 (lB S 0 I.e.n0 (aR (ao S 0)))) (bg (fN (yR (Cr (du (kF I.r) (ao S 3) w_de_int) (Cr (du (ue I.r) (ao S 3) (sV S 1 rfl rfl I.e.h1)) (Cr (du (uc I.r) (lB S 0 I.e.n0 (aR (ao S 1))) (ao S 3)) (EL (du (uc I.r) (lB S 0 I.e.n0 (aR (ao S 2))) (ao S 3))))))) (cg o9) fO) (bg (fN (sj (jd (sg S 3 rfl rfl I.e.n2 (aR (d7 [4] [] [2] S 4 (w_di_seq (ao S 0)) (fun _ _ _=>w_df_nil) (fun Y1 S1 F1=>have I:=F1.i I;(ik (fS I.r) (ao S1 4) (sV S1 2 rfl rfl I.e.h2))))) (dE rfl) rfl) (fun _=>rfl))) (cg o9) fO) (cg (yO (sg S 3 rfl rfl I.e.n2 (aR (d7 [5] [] [4] S 5 (w_di_seq (ao S 1)) (fun _ _ _=>w_df_nil) (fun Y2 S2 F2=>have I:=F2.i I;(bu S2 4 (I.c (gJ A)) (aR (ao S2 5)))))) (dE rfl) rfl) (yP (sg S 3 rfl rfl I.e.n2 (aR (d7 [3,5] [3] [5] S 5 (w_di_seq (ao S 2)) (fun _ _ _=>w_df_nil) (fun Y3 S3 F3=>have I:=F3.i I;(bu S3 5 (I.c (mD A)) (aO (ao S3 5) (aR (ao S3 3))))))) (dE rfl) rfl)))))))
theorem CA:DefOk P w K mg base 5 "check_world" 1 aJ:=mk A.f5 A.g ["world"] zw [] ["is_world"] [0] [] [0] fun X S I hp=>
 (d5 (fN (sj (jd (bu S 0 (I.c (ou A)) (aO (bq (ao S 0) w_de_int) (aO (bq (ao S 0) w_de_int) (aR (bq (ao S 0) w_de_int))))) (fun _=>rfl))) (d5 vP) fO))
theorem eC:DefOk P w K mg base 1 "check_player" 1 cy:=mk A.f6 A.g ["player"] zw [] ["PLAYERS"] [0] [] [0] fun X S I hp=>
 (d5 (fN (du (zK I.r) (ao S 0) (sV S 0 rfl rfl I.e.h2)) (d5 vP) fO))
theorem kL:DefOk P w K mg base 1 "check_mark" 1 dQ:=mk A.f7 A.g ["mark"] zw [] ["LETTERS"] [0] [] [0] fun X S I hp=>
 (d5 (fN (du (zK I.r) (ao S 0) (sV S 0 rfl rfl I.e.h0)) (d5 vP) fO))
theorem fW:DefOk P w K mg base 1 "check_room" 2 aX:=mk A.f8 A.g ["world", "room"] lD [] ["len"] [0,1] [] [0] fun X S I hp=>
 (d5 (fN (sj (CZ (AV I.r) (kF I.r) w_de_int (ao S 1) (lB S 0 I.e.n0 (aR (bq (ao S 0) w_de_int))) (by with_unfolding_all rfl))) (d5 vP) fO))
theorem HG:DefOk P w K mg base 3 "check_rooms" 2 b7:=mk A.f9 A.g ["world", "rooms"] lD [] ["len", "are_rooms"] [0,1] [] [0,1] fun X S I hp=>
 (d5 (fN (sj (jd (bu S 1 (I.c (gH A)) (aO (ao S 1) (aR (lB S 0 I.e.n0 (aR (bq (ao S 0) w_de_int)))))) (fun _=>rfl))) (d5 vP) fO))
theorem jR:DefOk P w K mg base 6 "reached" 2 bb:=match A.f10 with | ⟨_,_,hm,F⟩=>oq F hm (Eh F lD) A.g.n3 (CA A) (fW A) rfl rfl
theorem mz:DefOk P w K mg base 6 "marked" 2 dj:=mk A.f11 A.g ["world", "mark"] lD ["room", "row"] ["check_world", "check_mark", "enumerate"] [0,1] [1] [0,1,2] fun X S I hp=>
 (bg (ki (bu S 0 (I.c (CA A)) (aR (ao S 0))) rfl) (bg (ki (bu S 1 (I.c (kL A)) (aR (ao S 1))) rfl) (cg (sU (vs':=[1,2,3]) (cs':=[1]) (lo':=[]) (gs':=[]) S .leaf 2 3 2 rfl rfl rfl rfl rfl I.e.n4 (by kernel_rfl) (by kernel_rfl) (bq (ao S 0) w_de_int) (dC rfl) (fun Y1 S1 F1=>have I:=F1.i I;kh (du (fS I.r) (ao S1 1) (ao S1 3))) (fun Y1 S1 F1=>have I:=F1.i I;(ao S1 2)) (fun _=>rfl)))))
theorem my:vH P w K mg base 1:=match A.f12 with | ⟨_,_,hm,F⟩=>kH F hm (Eh F lD) A.g.n3
theorem uI:DefOk P w K mg base 2 "placed" 2 cn:=match A.f13 with | ⟨_,_,hm,F⟩=>qU F hm (Eh F lD) A.g.n4 A.g.n5 (my A) rfl
theorem Bn:DefOk P w K mg base 6 "part" 2 oA:=mk A.f14 A.g ["world", "rooms"] lD ["told"] ["check_world", "check_rooms", "placed"] [0,1,2] [] [0,1,2] fun X S I hp=>
 (bg (ki (bu S 0 (I.c (CA A)) (aR (ao S 0))) rfl) (bg (ki (bu S 1 (I.c (HG A)) (aO (ao S 0) (aR (ao S 1)))) rfl) (bg (cE S false 2 (bu S 2 (I.c (uI A)) (aO (ao S 0) (aR (ao S 1))))) (bg (fN (yR (Cr (sj (jd (ao S 1) (fun _=>rfl))) (EL (du (fS I.r) (lA .leaf sE) (bq (ao S 2) w_de_int))))) (d5 vP) fO) (cg (ao S 2))))))
theorem uJ:DefOk P w K mg base 1 "is_led" 2 dF:=mk A.f15 A.g ["is_chosen", "by_steps"] lD [] ["any", "all"] [0,1] [] [0,1] fun X S I hp=>
 (cg (EC (jd (ao S 0) (fun _=>rfl)) (Hi S 0 rfl rfl I.e.n6 (aR (ao S 1)) (dE rfl) rfl) (sg S 1 rfl rfl I.e.n2 (aR (ao S 1)) (dE rfl) rfl)))
theorem iE:DefOk P w K mg base 1 "is_lower" 2 dk:=mk A.f16 A.g ["rank", "other"] lD [] [] [0,1] [] [] fun X S I hp=>
 (cg (yO (ik (wm I.r) (ao S 0) ja) (yO (ik (wm I.r) (ao S 1) ja) (yP (ik (kF I.r) (ao S 0) (ao S 1))))))
theorem e9:DefOk P w K mg base 2 "lower_steps" 3 bI:=mk A.f17 A.g ["world", "ranks", "room"] ib ["there"] ["is_lower"] [0,1,2] [1,2] [] fun X S I hp=>
 (cg (d7 [1,2,3] [1,2] [0] S 3 (w_di_seq (bq (bq (ao S 0) w_de_int) (ao S 2))) (fun Y1 S1 F1=>have I:=F1.i I;kh (jd (bu S1 0 (I.c (iE A)) (aO (bq (ao S1 1) (ao S1 3)) (aR (bq (ao S1 1) (ao S1 2))))) (fun _=>rfl))) (fun Y1 S1 F1=>have I:=F1.i I;(ao S1 3))))
theorem jq:DefOk P w K mg base 2 "ranked_next" 4 b6:=mk A.f18 A.g ["world", "chosen", "through", "ranks"] CD ["found", "room", "there"] ["is_led"] [0,1,2,3,4,5] [3] [0] fun X S I hp=>
 (bg (cE S true 4 (lA .leaf sE)) (bg (wo S 5 rfl rfl hp (w_di_seq (ao S 2)) (d5 (fN (yR (EK (du (mj I.r) (bq (ao S 3) (ao S 5)) ja) (EV (jd (bu S 0 (I.c (uJ A)) (aO (bq (ao S 1) (ao S 5)) (aR (d7 [3,6] [3] [] S 6 (w_di_seq (bq (bq (ao S 0) w_de_int) (ao S 5))) (fun _ _ _=>w_df_nil) (fun Y1 S1 F1=>have I:=F1.i I;(ik (wm I.r) (bq (ao S1 3) (ao S1 6)) ja)))))) (fun _=>rfl))))) (d5 (Cy S 4 rfl rfl (ao S 5) (dC rfl) rfl rfl rfl rfl)) fO)) (fun _=>rfl)) (cg (lM S 4 rfl rfl))))
theorem EY:DefOk P w K mg base 3 "ranks_to" 4 bT:=mk A.f19 A.g ["world", "chosen", "through", "goal"] CD ["ranks", "rank", "fresh", "room", "owner"] ["ranked_next"] [0,1,2,3,4,5,6,7] [] [0] fun X S I hp=>
 (bg (zO (vs':=[8]) (cs':=[]) (lo':=[]) (gs':=[]) S true 4 .leaf 8 rfl rfl rfl rfl (by kernel_rfl) (by kernel_rfl) (by kernel_rfl) (w_di_seq (bq (ao S 0) w_de_int)) (fun _ _ _=>w_df_nil) (fun Y1 S1 F1=>ja) (fun _=>rfl)) (bg (cE S false 5 w_de_int) (bg (cE S false 6 (ao S 3)) (bg (Ff 1000 hp (jd (ao S 6) (fun _=>rfl)) (bg (wo S 7 rfl rfl hp (w_di_seq (ao S 6)) (d5 (jG S 4 rfl rfl (ao S 5) (ao S 7) rfl rfl rfl (fun _=>rfl))) (fun _=>rfl)) (bg (lL S 5 rfl rfl w_de_int) (d5 (cE S false 6 (zQ S 0 rfl rfl (I.c (jq A)) (aO (ao S 0) (aO (ao S 1) (aO (ao S 2) (aR (ao S 4))))) (dE rfl) rfl)))))) (cg (lM S 4 rfl rfl))))))
theorem iD:DefOk P w K mg base 4 "steps_to" 3 di:=mk A.f20 A.g ["world", "through", "goal"] ib ["owner"] ["ranks_to"] [0,1,2] [] [0] fun X S I hp=>
 (cg (bu S 0 (I.c (EY A)) (aO (ao S 0) (aO (d7 [3] [] [] S 3 (w_di_seq (bq (ao S 0) w_de_int)) (fun _ _ _=>w_df_nil) (fun Y1 S1 F1=>o9)) (aO (ao S 1) (aR (ao S 2)))))))
theorem HJ:DefOk P w K mg base 6 "check_fair" 3 bD:=mk A.f21 A.g ["world", "rooms", "marks"] ib [] ["check_world", "are_marks", "check_rooms"] [0,1,2] [] [0,1,2] fun X S I hp=>
 (bg (ki (bu S 0 (I.c (CA A)) (aR (ao S 0))) rfl) (bg (fN (sj (jd (bu S 1 (I.c (gJ A)) (aR (ao S 2))) (fun _=>rfl))) (d5 vP) fO) (d5 (ki (bu S 2 (I.c (HG A)) (aO (ao S 0) (aR (ao S 1)))) rfl))))
theorem gY:DefOk P w K mg base 5 "steps_to_mark" 3 bP:=mk A.f22 A.g ["world", "rooms", "mark"] ib ["room"] ["steps_to"] [0,1,2] [0,2] [0] fun X S I hp=>
 (cg (bu S 0 (I.c (iD A)) (aO (ao S 0) (aO (ao S 1) (aR (d7 [0,2,3] [0,2] [] S 3 (w_di_seq (ao S 1)) (fun Y1 S1 F1=>have I:=F1.i I;kh (du (fS I.r) (ao S1 2) (bq (bq (ao S1 0) w_de_int) (ao S1 3)))) (fun Y1 S1 F1=>have I:=F1.i I;(ao S1 3))))))))
theorem jQ:DefOk P w K mg base 6 "row_off" 3 cJ:=mk A.f23 A.g ["world", "left", "marks"] ib ["ended", "mark", "ranks", "lost", "room", "there"] ["any", "steps_to_mark"] [0,1,2,3,4,5,6] [0,1,5] [1] fun X S I hp=>
 (bg (zO (vs':=[0,1,7]) (cs':=[0,1]) (lo':=[]) (gs':=[0]) S false 3 .leaf 7 rfl rfl rfl rfl (by kernel_rfl) (by kernel_rfl) (by kernel_rfl) (w_di_seq (ao S 1)) (fun Y1 S1 F1=>have I:=F1.i I;kh (sj (jd (Hi S1 0 rfl rfl I.e.n6 (aR (d7 [1,8] [1] [] S1 8 (w_di_seq (bq (bq (ao S1 0) w_de_int) (ao S1 7))) (fun _ _ _=>w_df_nil) (fun Y2 S2 F2=>have I:=F2.i I;(ik (fS I.r) (ao S2 8) (ao S2 1))))) (dE rfl) rfl) (fun _=>rfl)))) (fun Y1 S1 F1=>have I:=F1.i I;(ao S1 7)) (fun _=>rfl)) (bg (fN (jd (ao S 3) (fun _=>rfl)) (cg (si (aO (ao S 3) (aR ja)))) fO) (bg (wo S 4 rfl rfl hp (w_di_seq (ao S 2)) (bg (cE S false 5 (bu S 1 (I.c (gY A)) (aO (ao S 0) (aO (ao S 1) (aR (ao S 4)))))) (bg (zO (vs':=[5,7]) (cs':=[5]) (lo':=[]) (gs':=[]) S false 6 .leaf 7 rfl rfl rfl rfl (by kernel_rfl) (by kernel_rfl) (by kernel_rfl) (w_di_seq (ao S 1)) (fun Y3 S3 F3=>have I:=F3.i I;kh (du (mj I.r) (bq (ao S3 5) (ao S3 7)) ja)) (fun Y3 S3 F3=>have I:=F3.i I;(ao S3 7)) (fun _=>rfl)) (d5 (fN (jd (ao S 6) (fun _=>rfl)) (cg (si (aO (ao S 6) (aR (ao S 4))))) fO)))) (fun _=>rfl)) (cg ja))))
theorem dY:DefOk P w K mg base 7 "rows_and_kept" 3 bC:=mk A.f24 A.g ["world", "rooms", "marks"] ib ["rows", "left", "row", "room"] ["list", "row_off"] [0,1,2,3,4,5] [5] [0,1] fun X S I hp=>
 (bg (cE S true 3 (lA .leaf sE)) (bg (cE S false 4 (w_cb_list S 0 rfl rfl I.e.n5 (ao S 1) (dC rfl))) (bg (cE S false 5 (bu S 1 (I.c (jQ A)) (aO (ao S 0) (aO (ao S 4) (aR (ao S 2)))))) (bg (Ff 1000 hp (du (wm I.r) (ao S 5) ja) (bg (Cy S 3 rfl rfl (ao S 5) (dC rfl) rfl rfl rfl rfl) (bg (zO (vs':=[5,6]) (cs':=[5]) (lo':=[]) (gs':=[]) S false 4 .leaf 6 rfl rfl rfl rfl (by kernel_rfl) (by kernel_rfl) (by kernel_rfl) (w_di_seq (ao S 4)) (fun Y1 S1 F1=>have I:=F1.i I;kh (du (zK I.r) (ao S1 6) (bq (ao S1 5) w_de_int))) (fun Y1 S1 F1=>have I:=F1.i I;(ao S1 6)) (fun _=>rfl)) (d5 (cE S false 5 (bu S 1 (I.c (jQ A)) (aO (ao S 0) (aO (ao S 4) (aR (ao S 2)))))))))) (cg (si (aO (lM S 3 rfl rfl) (aR (ao S 4)))))))))
theorem fU:DefOk P w K mg base 8 "fair_rooms" 3 bp:=mk A.f25 A.g ["world", "rooms", "marks"] ib [] ["check_fair", "rows_and_kept"] [0,1,2] [] [0,1] fun X S I hp=>
 (bg (ki (bu S 0 (I.c (HJ A)) (aO (ao S 0) (aO (ao S 1) (aR (ao S 2))))) rfl) (cg (bq (bu S 1 (I.c (dY A)) (aO (ao S 0) (aO (ao S 1) (aR (ao S 2))))) w_de_int)))
theorem Hs:DefOk P w K mg base 5 "path_to" 3 vR:=mk A.f26 A.g ["world", "room", "goal"] ib ["ranks", "path"] ["len", "list", "range", "steps_to", "lower_steps"] [0,1,2,3,4] [] [0,1,2,3,4] fun X S I hp=>
 (bg (cE S false 3 (bu S 3 (I.c (iD A)) (aO (ao S 0) (aO (Fh S 1 2 rfl rfl I.e.n5 rfl rfl I.e.n1 (aR (lB S 0 I.e.n0 (aR (bq (ao S 0) w_de_int)))) (dC rfl) (dC rfl)) (aR (ao S 2)))))) (bg (cE S true 4 (lA .leaf (aR (ao S 1)))) (bg (Ff 100 hp (du (ue I.r) (bq (ao S 3) (EU S 4 rfl rfl (zL w_de_int) (fun _ _=>rfl))) w_de_int) (d5 (Cy S 4 rfl rfl (bq (bu S 4 (I.c (e9 A)) (aO (ao S 0) (aO (ao S 3) (aR (EU S 4 rfl rfl (zL w_de_int) (fun _ _=>rfl)))))) w_de_int) (dC rfl) rfl rfl rfl rfl))) (cg (lM S 4 rfl rfl)))))
theorem iG:DefOk P w K mg base 7 "closed_rooms" 2 HH:=mk A.f27 A.g ["world", "room"] lD ["there"] ["reached", "min", "len"] [0,1] [0] [0,1,2] fun X S I hp=>
 (cg (qr S 1 2 rfl rfl I.e.n7 rfl rfl I.e.n0 (d7 [0,2] [0] [0] S 2 (w_di_seq (bu S 0 (I.c (jR A)) (aO (ao S 0) (aR (ao S 1))))) (fun _ _ _=>w_df_nil) (fun Y1 S1 F1=>have I:=F1.i I;(bu S1 0 (I.c (jR A)) (aO (ao S1 0) (aR (ao S1 2)))))) (dC rfl)))
theorem g0:DefOk P w K mg base 7 "ring_by_marks" 3 HI:=mk A.f28 A.g ["world", "marks", "room"] ib ["ring", "mark"] ["marked", "path_to"] [0,1,2,3,4] [] [0,1] fun X S I hp=>
 (bg (cE S true 3 (lA .leaf (aR (ao S 2)))) (bg (wo S 4 rfl rfl hp (w_di_seq (ao S 1)) (d5 (lK S 3 rfl rfl (lO (bu S 1 (I.c (Hs A)) (aO (ao S 0) (aO (EU S 3 rfl rfl (zL w_de_int) (fun _ _=>rfl)) (aR (bu S 0 (I.c (mz A)) (aO (ao S 0) (aR (ao S 4)))))))) w_de_int) (dC rfl) rfl rfl rfl rfl)) (fun _=>rfl)) (cg (EJ (ao S 3) (Ht (bu S 1 (I.c (Hs A)) (aO (ao S 0) (aO (bq (bq (bq (ao S 0) w_de_int) (EU S 3 rfl rfl (zL w_de_int) (fun _ _=>rfl))) w_de_int) (aR (lA .leaf (aR (ao S 2))))))) (zL w_de_int))))))
theorem iF:DefOk P w K mg base 8 "fair_way" 4 cK:=mk A.f29 A.g ["world", "rooms", "marks", "room"] CD ["kept", "inner", "start", "path", "ring", "number"] ["check_fair", "check_room", "rows_and_kept", "part", "closed_rooms", "path_to", "ring_by_marks"] [0,1,2,3,4,5,6,7,8] [4] [0,1,2,3,4,5,6] fun X S I hp=>
 (bg (ki (bu S 0 (I.c (HJ A)) (aO (ao S 0) (aO (ao S 1) (aR (ao S 2))))) rfl) (bg (ki (bu S 1 (I.c (fW A)) (aO (ao S 0) (aR (ao S 3)))) rfl) (bg (cE S false 4 (bq (bu S 2 (I.c (dY A)) (aO (ao S 0) (aO (ao S 1) (aR (ao S 2))))) w_de_int)) (bg (fN (du (zK I.r) (ao S 3) (ao S 4)) (d5 vP) fO) (bg (cE S false 5 (bu S 3 (I.c (Bn A)) (aO (ao S 0) (aR (ao S 4))))) (bg (cE S false 6 (sW S 4 rfl rfl (ao S 3) rfl (dC rfl) rfl)) (bg (cE S false 7 (bu S 5 (I.c (Hs A)) (aO (ao S 5) (aO (ao S 6) (aR (bu S 4 (I.c (iG A)) (aO (ao S 5) (aR (ao S 6))))))))) (bg (cE S false 8 (bu S 6 (I.c (g0 A)) (aO (ao S 5) (aO (ao S 2) (aR (bq (ao S 7) (zL w_de_int))))))) (cg (si (aO (d7 [4,9] [4] [] S 9 (w_di_seq (Ht (ao S 7) (zL w_de_int))) (fun _ _ _=>w_df_nil) (fun Y1 S1 F1=>(bq (ao S1 4) (ao S1 9)))) (aR (d7 [4,9] [4] [] S 9 (w_di_seq (ao S 8)) (fun _ _ _=>w_df_nil) (fun Y2 S2 F2=>(bq (ao S2 4) (ao S2 9))))))))))))))))
theorem jr:DefOk P w K mg base 1 "other_rooms" 2 dA:=mk A.f30 A.g ["world", "rooms"] lD ["room"] ["len", "range"] [0,1] [1] [0,1] fun X S I hp=>
 (cg (d7 [1,2] [1] [] S 2 (ig S 1 rfl rfl I.e.n1 (aR (lB S 0 I.e.n0 (aR (bq (ao S 0) w_de_int)))) (dC rfl)) (fun Y1 S1 F1=>have I:=F1.i I;kh (du (zK I.r) (ao S1 2) (ao S1 1))) (fun Y1 S1 F1=>have I:=F1.i I;(ao S1 2))))
theorem qW:DefOk P w K mg base 1 "goes_on" 2 gv:=mk A.f31 A.g ["world", "way"] lD ["rooms", "k", "room"] ["len", "all", "range"] [0,1,2] [0,2] [0,1,2] fun X S I hp=>
 (bg (cE S false 2 (EJ (EJ (bq (ao S 1) w_de_int) (bq (ao S 1) w_de_int)) (Ht (bq (ao S 1) w_de_int) w_de_int))) (bg (fN (yR (Cr (sj (jd (bq (ao S 1) w_de_int) (fun _=>rfl))) (EL (sj (jd (sg S 1 rfl rfl I.e.n2 (aR (d7 [0,4] [0] [0] S 4 (w_di_seq (ao S 2)) (fun _ _ _=>w_df_nil) (fun Y1 S1 F1=>have I:=F1.i I;(yU (AV I.r) (kF I.r) w_de_int (ao S1 4) (lB S1 0 I.e.n0 (aR (bq (ao S1 0) w_de_int))) (by with_unfolding_all rfl))))) (dE rfl) rfl) (fun _=>rfl)))))) (cg o9) fO) (cg (sg S 1 rfl rfl I.e.n2 (aR (d7 [0,2,3] [0,2] [] S 3 (yT S 2 rfl rfl I.e.n1 (aO w_de_int (aR (lB S 0 I.e.n0 (aR (ao S 2))))) (lT rfl rfl) (dC rfl)) (fun _ _ _=>w_df_nil) (fun Y2 S2 F2=>have I:=F2.i I;(ik (fS I.r) (bq (ao S2 2) (ao S2 3)) (bq (bq (ao S2 0) w_de_int) (bq (ao S2 2) (Hu (ao S2 3) w_de_int))))))) (dE rfl) rfl))))
theorem mC:DefOk P w K mg base 2 "check_way" 2 eE:=mk A.f32 A.g ["world", "way"] lD [] ["goes_on"] [0,1] [] [0] fun X S I hp=>
 (d5 (fN (sj (jd (bu S 0 (I.c (qW A)) (aO (ao S 0) (aR (ao S 1)))) (fun _=>rfl))) (d5 vP) fO))
theorem eB:DefOk P w K mg base 1 "other_player" 1 cu:=mk A.f33 A.g ["player"] zw [] [] [0] [] [] fun X S I hp=>
 (cg (Hu w_de_int (ao S 0)))
theorem kJ:DefOk P w K mg base 1 "is_plan_of" 3 dO:=mk A.f34 A.g ["world", "player", "plan"] ib ["chosen", "room", "there"] ["len", "enumerate", "all"] [0,1,2,3] [0,1,2] [0,1,2] fun X S I hp=>
 (bg (fN (du (uc I.r) (lB S 0 I.e.n0 (aR (ao S 2))) (lB S 0 I.e.n0 (aR (bq (ao S 0) w_de_int)))) (cg o9) fO) (bg (Fm (vs':=[4,5]) (cs':=[]) (lo':=[]) (gs':=[]) S false 3 .leaf 4 5 rfl rfl rfl rfl rfl 1 rfl rfl I.e.n4 rfl (by kernel_rfl) (by kernel_rfl) (by kernel_rfl) (ao S 2) (dC rfl) (fun Y1 S1 F1=>have I:=F1.i I;kh (du (wm I.r) (ao S1 5) ja)) (fun Y1 S1 F1=>have I:=F1.i I;(ao S1 4)) (fun _=>rfl)) (cg (sg S 2 rfl rfl I.e.n2 (aR (d7 [0,1,2,4] [0,1,2] [] S 4 (w_di_seq (ao S 3)) (fun _ _ _=>w_df_nil) (fun Y2 S2 F2=>have I:=F2.i I;(yO (ik (jo I.r) (bq (bq (ao S2 0) w_de_int) (ao S2 4)) (ao S2 1)) (yP (ik (fS I.r) (bq (ao S2 2) (ao S2 4)) (bq (bq (ao S2 0) w_de_int) (ao S2 4)))))))) (dE rfl) rfl))))
theorem kK:DefOk P w K mg base 2 "check_plan" 3 dP:=mk A.f35 A.g ["world", "player", "plan"] ib [] ["is_plan_of"] [0,1,2] [] [0] fun X S I hp=>
 (d5 (fN (sj (jd (bu S 0 (I.c (kJ A)) (aO (ao S 0) (aO (ao S 1) (aR (ao S 2))))) (fun _=>rfl))) (d5 vP) fO))
theorem mB:DefOk P w K mg base 6 "follow" 3 fY:=mk A.f36 A.g ["world", "player", "plan"] ib ["steps", "room", "row"] ["check_world", "check_player", "check_plan", "enumerate", "list"] [0,1,2,3] [2] [0,1,2,3,4] fun X S I hp=>
 (bg (ki (bu S 0 (I.c (CA A)) (aR (ao S 0))) rfl) (bg (ki (bu S 1 (I.c (eC A)) (aR (ao S 1))) rfl) (bg (ki (bu S 2 (I.c (kK A)) (aO (ao S 0) (aO (ao S 1) (aR (ao S 2))))) rfl) (bg (Fm (vs':=[2,4,5]) (cs':=[2]) (lo':=[]) (gs':=[4]) S false 3 .leaf 4 5 rfl rfl rfl rfl rfl 3 rfl rfl I.e.n4 rfl (by kernel_rfl) (by kernel_rfl) (by kernel_rfl) (bq (ao S 0) w_de_int) (dC rfl) (fun _ _ _=>w_df_nil) (fun Y1 S1 F1=>have I:=F1.i I;(EC (du (mj I.r) (bq (ao S1 2) (ao S1 4)) ja) (w_cb_list S1 4 rfl rfl I.e.n5 (ao S1 5) (dC rfl)) (lA .leaf (aR (bq (ao S1 2) (ao S1 4)))))) (fun _=>rfl)) (cg (si (aO (w_cb_list S 4 rfl rfl I.e.n5 (bq (ao S 0) w_de_int) (dC rfl)) (aO (d7 [5] [] [4] S 5 (w_di_seq (bq (ao S 0) w_de_int)) (fun _ _ _=>w_df_nil) (fun Y2 S2 F2=>have I:=F2.i I;(w_cb_list S2 4 rfl rfl I.e.n5 (ao S2 5) (dC rfl)))) (aR (ao S 3))))))))))
theorem ES:DefOk P w K mg base 1 "plan_of" 3 da:=mk A.f37 A.g ["world", "player", "will_do"] ib ["room", "steps"] ["enumerate"] [0,1,2] [0,1] [0] fun X S I hp=>
 (cg (sU (vs':=[0,1,3,4]) (cs':=[0,1]) (lo':=[]) (gs':=[]) S .leaf 3 4 0 rfl rfl rfl rfl rfl I.e.n4 (by kernel_rfl) (by kernel_rfl) (ao S 2) (dC rfl) (fun _ _ _=>w_df_nil) (fun Y1 S1 F1=>have I:=F1.i I;(EC (yR (EK (jd (ao S1 4) (fun _=>rfl)) (EV (du (jo I.r) (bq (bq (ao S1 0) w_de_int) (ao S1 3)) (ao S1 1))))) (bq (ao S1 4) w_de_int) ja)) (fun _=>rfl)))
theorem fV:DefOk P w K mg base 6 "check_told" 3 cX:=mk A.f38 A.g ["world", "player", "rooms"] ib [] ["check_world", "check_player", "check_rooms"] [0,1,2] [] [0,1,2] fun X S I hp=>
 (bg (ki (bu S 0 (I.c (CA A)) (aR (ao S 0))) rfl) (bg (ki (bu S 1 (I.c (eC A)) (aR (ao S 1))) rfl) (d5 (ki (bu S 2 (I.c (HG A)) (aO (ao S 0) (aR (ao S 2)))) rfl))))
theorem qX:DefOk P w K mg base 4 "brought" 3 gw:=mk A.f39 A.g ["world", "player", "rooms"] ib ["size", "ranks", "owner", "room"] ["len", "list", "range", "ranks_to", "lower_steps", "plan_of"] [0,1,2,3,4] [0,1,4] [0,1,2,3,5] fun X S I hp=>
 (bg (cE S false 3 (lB S 0 I.e.n0 (aR (bq (ao S 0) w_de_int)))) (bg (cE S false 4 (bu S 3 (I.c (EY A)) (aO (ao S 0) (aO (d7 [1,5] [1] [] S 5 (w_di_seq (bq (ao S 0) w_de_int)) (fun _ _ _=>w_df_nil) (fun Y1 S1 F1=>have I:=F1.i I;(ik (jo I.r) (ao S1 5) (ao S1 1)))) (aO (Fh S 1 2 rfl rfl I.e.n5 rfl rfl I.e.n1 (aR (ao S 3)) (dC rfl) (dC rfl)) (aR (ao S 2))))))) (cg (si (aO (ao S 4) (aR (bu S 5 (I.c (ES A)) (aO (ao S 0) (aO (ao S 1) (aR (d7 [0,4,6] [0,4] [4] S 6 (ig S 2 rfl rfl I.e.n1 (aR (ao S 3)) (dC rfl)) (fun _ _ _=>w_df_nil) (fun Y2 S2 F2=>have I:=F2.i I;(bu S2 4 (I.c (e9 A)) (aO (ao S2 0) (aO (ao S2 4) (aR (ao S2 6)))))))))))))))))
theorem ff:DefOk P w K mg base 1 "inner_world" 2 bS:=mk A.f40 A.g ["world", "rooms"] lD ["row", "there"] [] [0,1] [1] [] fun X S I hp=>
 (cg (si (aO (bq (ao S 0) w_de_int) (aO (bq (ao S 0) w_de_int) (aR (d7 [1,2] [1] [] S 2 (w_di_seq (bq (ao S 0) w_de_int)) (fun _ _ _=>w_df_nil) (fun Y1 S1 F1=>have I:=F1.i I;(d7 [1,3] [1] [] S1 3 (w_di_seq (ao S1 2)) (fun Y2 S2 F2=>have I:=F2.i I;kh (du (fS I.r) (ao S2 3) (ao S2 1))) (fun Y2 S2 F2=>have I:=F2.i I;(ao S2 3))))))))))
theorem e8:DefOk P w K mg base 4 "ranks_among" 4 cL:=mk A.f41 A.g ["world", "player", "rooms", "left"] CD ["goal", "room", "owner"] ["inner_world", "ranks_to"] [0,1,2,3,4] [1,2] [0,1] fun X S I hp=>
 (bg (zO (vs':=[2,5]) (cs':=[2]) (lo':=[]) (gs':=[]) S false 4 .leaf 5 rfl rfl rfl rfl (by kernel_rfl) (by kernel_rfl) (by kernel_rfl) (w_di_seq (ao S 3)) (fun Y1 S1 F1=>have I:=F1.i I;kh (du (fS I.r) (ao S1 5) (ao S1 2))) (fun Y1 S1 F1=>have I:=F1.i I;(ao S1 5)) (fun _=>rfl)) (cg (bu S 1 (I.c (EY A)) (aO (bu S 0 (I.c (ff A)) (aO (ao S 0) (aR (ao S 3)))) (aO (d7 [1,6] [1] [] S 6 (w_di_seq (bq (ao S 0) w_de_int)) (fun _ _ _=>w_df_nil) (fun Y2 S2 F2=>have I:=F2.i I;(ik (jo I.r) (ao S2 6) (ao S2 1)))) (aO (ao S 3) (aR (ao S 4))))))))
theorem fT:DefOk P w K mg base 5 "lost_rooms" 4 cx:=mk A.f42 A.g ["world", "player", "rooms", "left"] CD ["ranks", "room"] ["ranks_among"] [0,1,2,3,4] [4] [0] fun X S I hp=>
 (bg (cE S false 4 (bu S 0 (I.c (e8 A)) (aO (ao S 0) (aO (ao S 1) (aO (ao S 2) (aR (ao S 3))))))) (cg (d7 [4,5] [4] [] S 5 (w_di_seq (ao S 3)) (fun Y1 S1 F1=>have I:=F1.i I;kh (du (mj I.r) (bq (ao S1 4) (ao S1 5)) ja)) (fun Y1 S1 F1=>have I:=F1.i I;(ao S1 5)))))
theorem gu:DefOk P w K mg base 6 "turns_and_left" 3 cI:=mk A.f43 A.g ["world", "player", "rooms"] ib ["turns", "left", "turn", "lost", "ranks", "room", "owner"] ["len", "list", "range", "lost_rooms", "inner_world", "ranks_to"] [0,1,2,3,4,5,6,7,8] [1,3] [0,1,2,3,4,5] fun X S I hp=>
 (bg (lJ S true 3 rfl rfl (lR (S.cel 3 _ rfl rfl)) (d7 [9] [] [] S 9 (w_di_seq (bq (ao S 0) w_de_int)) (fun _ _ _=>w_df_nil) (fun Y1 S1 F1=>ja))) (bg (cE S false 4 (Fh S 1 2 rfl rfl I.e.n5 rfl rfl I.e.n1 (aR (lB S 0 I.e.n0 (aR (bq (ao S 0) w_de_int)))) (dC rfl) (dC rfl))) (bg (cE S false 5 w_de_int) (bg (cE S false 6 (bu S 3 (I.c (fT A)) (aO (ao S 0) (aO (ao S 1) (aO (ao S 2) (aR (ao S 4))))))) (bg (Ff 1000 hp (jd (ao S 6) (fun _=>rfl)) (bg (cE S false 7 (bu S 5 (I.c (EY A)) (aO (bu S 4 (I.c (ff A)) (aO (ao S 0) (aR (ao S 4)))) (aO (d7 [1,9] [1] [] S 9 (w_di_seq (bq (ao S 0) w_de_int)) (fun _ _ _=>w_df_nil) (fun Y2 S2 F2=>have I:=F2.i I;(ik (uc I.r) (ao S2 9) (ao S2 1)))) (aO (ao S 4) (aR (ao S 6))))))) (bg (wo S 8 rfl rfl hp (w_di_seq (ao S 4)) (d5 (fN (du (wm I.r) (bq (ao S 7) (ao S 8)) ja) (d5 (jG S 3 rfl rfl (si (aO (ao S 5) (aR (bq (ao S 7) (ao S 8))))) (ao S 8) rfl rfl rfl (fun _=>rfl))) fO)) (fun _=>rfl)) (bg (lL S 5 rfl rfl w_de_int) (bg (zO (vs':=[3,8]) (cs':=[3]) (lo':=[]) (gs':=[]) S false 4 .leaf 8 rfl rfl rfl rfl (by kernel_rfl) (by kernel_rfl) (by kernel_rfl) (w_di_seq (ao S 4)) (fun Y3 S3 F3=>have I:=F3.i I;kh (du (mj I.r) (bq (ao S3 3) (ao S3 8)) ja)) (fun Y3 S3 F3=>have I:=F3.i I;(ao S3 8)) (fun _=>rfl)) (d5 (cE S false 6 (bu S 3 (I.c (fT A)) (aO (ao S 0) (aO (ao S 1) (aO (ao S 2) (aR (ao S 4))))))))))))) (cg (si (aO (lM S 3 rfl rfl) (aR (ao S 4))))))))))
theorem ot:DefOk P w K mg base 2 "leads_on" 3 dM:=mk A.f44 A.g ["ranks", "here", "there"] ib [] ["is_lower"] [0,1,2] [] [0] fun X S I hp=>
 (cg (EC (du (jo I.r) (bq (ao S 0) (ao S 1)) w_de_int) (ik (wm I.r) (bq (ao S 0) (ao S 2)) ja) (bu S 0 (I.c (iE A)) (aO (bq (ao S 0) (ao S 2)) (aR (bq (ao S 0) (ao S 1)))))))
theorem kI:DefOk P w K mg base 1 "leads_down" 3 cW:=mk A.f45 A.g ["turns", "here", "there"] ib ["one", "other"] [] [0,1,2,3,4] [] [] fun X S I hp=>
 (bg (cE S false 3 (bq (ao S 0) (ao S 1))) (bg (cE S false 4 (bq (ao S 0) (ao S 2))) (bg (fN (yR (Cr (du (mj I.r) (ao S 3) ja) (EL (du (mj I.r) (ao S 4) ja)))) (cg o9) fO) (bg (fN (du (uc I.r) (bq (ao S 3) w_de_int) (bq (ao S 4) w_de_int)) (cg (ik (kF I.r) (bq (ao S 4) w_de_int) (bq (ao S 3) w_de_int))) fO) (cg (wt (ik (kF I.r) (bq (ao S 4) w_de_int) (bq (ao S 3) w_de_int)) (yP (yO (ik (jo I.r) (bq (ao S 3) w_de_int) w_de_int) (yP (ik (jo I.r) (bq (ao S 4) w_de_int) w_de_int))))))))))
theorem xF:DefOk P w K mg base 7 "again" 3 kP:=mk A.f46 A.g ["world", "player", "rooms"] ib ["both", "turns", "ranks", "onward", "downward", "there", "room", "row"] ["check_told", "turns_and_left", "ranks_among", "enumerate", "leads_on", "leads_down", "plan_of", "other_player"] [0,1,2,3,4,5,6,7] [4,5] [0,1,2,3,6,7] fun X S I hp=>
 (bg (ki (bu S 0 (I.c (fV A)) (aO (ao S 0) (aO (ao S 1) (aR (ao S 2))))) rfl) (bg (cE S false 3 (bu S 1 (I.c (gu A)) (aO (ao S 0) (aO (ao S 1) (aR (ao S 2)))))) (bg (cE S false 4 (bq (ao S 3) w_de_int)) (bg (cE S false 5 (bu S 2 (I.c (e8 A)) (aO (ao S 0) (aO (ao S 1) (aO (ao S 2) (aR (bq (ao S 3) w_de_int))))))) (bg (Fm (vs':=[5,9,10]) (cs':=[5,9]) (lo':=[]) (gs':=[]) S false 6 .leaf 9 10 rfl rfl rfl rfl rfl 3 rfl rfl I.e.n4 rfl (by kernel_rfl) (by kernel_rfl) (by kernel_rfl) (bq (ao S 0) w_de_int) (dC rfl) (fun _ _ _=>w_df_nil) (fun Y1 S1 F1=>have I:=F1.i I;(d7 [5,8,9] [5,9] [4] S1 8 (w_di_seq (ao S1 10)) (fun Y2 S2 F2=>have I:=F2.i I;kh (jd (bu S2 4 (I.c (ot A)) (aO (ao S2 5) (aO (ao S2 9) (aR (ao S2 8))))) (fun _=>rfl))) (fun Y2 S2 F2=>have I:=F2.i I;(ao S2 8)))) (fun _=>rfl)) (bg (Fm (vs':=[4,9,10]) (cs':=[4,9]) (lo':=[]) (gs':=[]) S false 7 .leaf 9 10 rfl rfl rfl rfl rfl 3 rfl rfl I.e.n4 rfl (by kernel_rfl) (by kernel_rfl) (by kernel_rfl) (bq (ao S 0) w_de_int) (dC rfl) (fun _ _ _=>w_df_nil) (fun Y3 S3 F3=>have I:=F3.i I;(d7 [4,8,9] [4,9] [5] S3 8 (w_di_seq (ao S3 10)) (fun Y4 S4 F4=>have I:=F4.i I;kh (jd (bu S4 5 (I.c (kI A)) (aO (ao S4 4) (aO (ao S4 9) (aR (ao S4 8))))) (fun _=>rfl))) (fun Y4 S4 F4=>have I:=F4.i I;(ao S4 8)))) (fun _=>rfl)) (cg (si (aO (ao S 5) (aO (bu S 6 (I.c (ES A)) (aO (ao S 0) (aO (ao S 1) (aR (ao S 6))))) (aO (ao S 4) (aR (bu S 6 (I.c (ES A)) (aO (ao S 0) (aO (bu S 7 (I.c (eB A)) (aR (ao S 1))) (aR (ao S 7)))))))))))))))))
theorem e7:DefOk P w K mg base 7 "way_is_fair" 4 aZ:=mk A.f47 A.g ["world", "rooms", "marks", "way"] CD ["mark", "room"] ["check_fair", "check_way", "all", "any"] [0,1,2,3] [0,1,3] [0,1,2] fun X S I hp=>
 (bg (ki (bu S 0 (I.c (HJ A)) (aO (ao S 0) (aO (ao S 1) (aR (ao S 2))))) rfl) (bg (ki (bu S 1 (I.c (mC A)) (aO (ao S 0) (aR (ao S 3)))) rfl) (bg (fN (sj (jd (sg S 2 rfl rfl I.e.n2 (aR (d7 [1,5] [1] [] S 5 (w_di_seq (EJ (bq (ao S 3) w_de_int) (bq (ao S 3) w_de_int))) (fun _ _ _=>w_df_nil) (fun Y1 S1 F1=>have I:=F1.i I;(ik (fS I.r) (ao S1 5) (ao S1 1))))) (dE rfl) rfl) (fun _=>rfl))) (cg o9) fO) (cg (sg S 2 rfl rfl I.e.n2 (aR (d7 [0,3,4] [0,3,4] [3] S 4 (w_di_seq (ao S 2)) (fun _ _ _=>w_df_nil) (fun Y2 S2 F2=>have I:=F2.i I;(Hi S2 3 rfl rfl I.e.n6 (aR (d7 [0,4,5] [0,4] [] S2 5 (w_di_seq (bq (ao S2 3) w_de_int)) (fun _ _ _=>w_df_nil) (fun Y3 S3 F3=>have I:=F3.i I;(ik (fS I.r) (ao S3 4) (bq (bq (ao S3 0) w_de_int) (ao S3 5)))))) (dE rfl) rfl)))) (dE rfl) rfl)))))
theorem gZ:DefOk P w K mg base 1 "rooms_without" 1 cT:=mk A.f48 A.g ["ranks"] zw ["room", "rank"] ["enumerate"] [0] [] [0] fun X S I hp=>
 (cg (sU (vs':=[1,2]) (cs':=[]) (lo':=[]) (gs':=[]) S .leaf 1 2 0 rfl rfl rfl rfl rfl I.e.n4 (by kernel_rfl) (by kernel_rfl) (ao S 0) (dC rfl) (fun Y1 S1 F1=>have I:=F1.i I;kh (du (mj I.r) (ao S1 2) ja)) (fun Y1 S1 F1=>have I:=F1.i I;(ao S1 1)) (fun _=>rfl)))
theorem iC:DefOk P w K mg base 1 "steps_within" 3 ck:=mk A.f49 A.g ["world", "rooms", "room"] ib ["there"] [] [0,1,2] [1,2] [] fun X S I hp=>
 (cg (d7 [1,2,3] [1,2] [] S 3 (w_di_seq (bq (bq (ao S 0) w_de_int) (ao S 2))) (fun Y1 S1 F1=>have I:=F1.i I;kh (yR (EK (du (fS I.r) (ao S1 2) (ao S1 1)) (EV (du (fS I.r) (ao S1 3) (ao S1 1)))))) (fun Y1 S1 F1=>have I:=F1.i I;(ao S1 3))))
theorem Bo:DefOk P w K mg base 7 "keep" 3 oB:=mk A.f50 A.g ["world", "player", "rooms"] ib ["both", "kept", "plan", "room"] ["check_told", "other_player", "other_rooms", "brought", "rooms_without", "len", "range", "steps_within", "plan_of"] [0,1,2,3,4,5] [0,4] [0,1,2,3,4,5,6,8] fun X S I hp=>
 (bg (ki (bu S 0 (I.c (fV A)) (aO (ao S 0) (aO (ao S 1) (aR (ao S 2))))) rfl) (bg (cE S false 3 (bu S 3 (I.c (qX A)) (aO (ao S 0) (aO (bu S 1 (I.c (eB A)) (aR (ao S 1))) (aR (bu S 2 (I.c (jr A)) (aO (ao S 0) (aR (ao S 2))))))))) (bg (cE S false 4 (bu S 4 (I.c (gZ A)) (aR (bq (ao S 3) w_de_int)))) (bg (cE S false 5 (bu S 8 (I.c (ES A)) (aO (ao S 0) (aO (ao S 1) (aR (d7 [0,4,6] [0,4] [7] S 6 (ig S 6 rfl rfl I.e.n1 (aR (lB S 5 I.e.n0 (aR (bq (ao S 0) w_de_int)))) (dC rfl)) (fun _ _ _=>w_df_nil) (fun Y1 S1 F1=>have I:=F1.i I;(bu S1 7 (I.c (iC A)) (aO (ao S1 0) (aO (ao S1 4) (aR (ao S1 6)))))))))))) (cg (si (aO (ao S 4) (aO (ao S 5) (aO (bq (ao S 3) w_de_int) (aR (bq (ao S 3) w_de_int)))))))))))
theorem CV:DefOk P w K mg base 1 "_law_cell_at" 2 aH:=mk A.f51 A.g ["script", "k"] lD [] ["len"] [0,1] [] [0] fun X S I hp=>
 (bg (fN (du (kF I.r) (ao S 1) (lB S 0 I.e.n0 (aR (ao S 0)))) (cg (bq (ao S 0) (ao S 1))) fO) (cg w_de_int))
theorem zN:DefOk P w K mg base 1 "_law_draw" 3 aB:=mk A.f52 A.g ["cell", "k", "bound"] ib ["stir", "left", "j"] ["range"] [0,1,2,3,4,5] [] [0] fun X S I hp=>
 (bg (fN (du (IB I.r) (ao S 0) (sQ w_de_int w_de_int)) (bg (cE S false 4 (ao S 0)) (bg (wo S 5 rfl rfl hp (ig S 0 rfl rfl I.e.n1 (aR (ao S 1)) (dC rfl)) (d5 (cE S false 4 (lI (ao S 4) (ao S 2)))) (fun _=>rfl)) (cg (zM (ao S 4) (ao S 2))))) fO) (bg (cE S false 3 (zM (CS (sG (sG (zM (ao S 0) w_de_int) (CS w_de_int (ao S 1))) w_de_int) w_de_int) w_de_int)) (bg (cE S false 3 (zM (sG (sG (CS (ao S 3) (ao S 3)) (CS w_de_int (ao S 1))) w_de_int) w_de_int)) (cg (zM (lI (zM (CS (ao S 3) w_de_int) w_de_int) w_de_int) (ao S 2))))))
theorem kM:DefOk P w K mg base 2 "_law_world" 3 m__law_world:=mk A.f53 A.g ["script", "at", "most"] ib ["many", "owners", "marks", "steps", "room", "cell", "row", "there", "mark"] ["_law_cell_at", "range", "_law_draw", "int"] [0,1,2,3,4,5,6,7,8,9] [3,8] [0,1,2] fun X S I hp=>
 (bg (cE S false 3 (sG w_de_int (zM (bu S 0 (I.c (CV A)) (aO (ao S 0) (aR (ao S 1)))) (ao S 2)))) (bg (cE S true 4 (lA .leaf sE)) (bg (cE S true 5 (lA .leaf sE)) (bg (cE S true 6 (lA .leaf sE)) (bg (wo S 7 rfl rfl hp (ig S 1 rfl rfl I.e.n1 (aR (ao S 3)) (dC rfl)) (bg (cE S false 8 (bu S 0 (I.c (CV A)) (aO (ao S 0) (aR (sG (sG (ao S 1) w_de_int) (ao S 7)))))) (bg (Cy S 4 rfl rfl (bu S 2 (I.c (zN A)) (aO (ao S 8) (aO w_de_int (aR w_de_int)))) (dC rfl) rfl rfl rfl rfl) (bg (Cy S 5 rfl rfl (d7 [8,11] [8] [2] S 11 (qp (by kernel_rfl)) (fun Y1 S1 F1=>have I:=F1.i I;kh (du (jo I.r) (bu S1 2 (I.c (zN A)) (aO (ao S1 8) (aO (sG w_de_int (qq (ao S1 11) (dC rfl) rfl)) (aR w_de_int)))) w_de_int)) (fun Y1 S1 F1=>have I:=F1.i I;(ao S1 11))) (dC rfl) rfl rfl rfl rfl) (bg (zO (vs':=[3,8,10]) (cs':=[3,8]) (lo':=[]) (gs':=[2,3]) S false 9 .leaf 10 rfl rfl rfl rfl (by kernel_rfl) (by kernel_rfl) (by kernel_rfl) (ig S 1 rfl rfl I.e.n1 (aR (ao S 3)) (dC rfl)) (fun Y2 S2 F2=>have I:=F2.i I;kh (du (jo I.r) (bu S2 2 (I.c (zN A)) (aO (ao S2 8) (aO (sG w_de_int (ao S2 10)) (aR (sG w_de_int (sY S2 3 rfl rfl I.e.n8 (aR (ik (ue I.r) (ao S2 3) w_de_int)) (dE rfl) rfl)))))) w_de_int)) (fun Y2 S2 F2=>have I:=F2.i I;(ao S2 10)) (fun _=>rfl)) (bg (fN (du (jo I.r) (ao S 9) (lA .leaf sE)) (d5 (cE S false 9 (lA .leaf (aR (bu S 2 (I.c (zN A)) (aO (ao S 8) (aO (sG w_de_int (ao S 3)) (aR (ao S 3))))))))) fO) (d5 (Cy S 6 rfl rfl (ao S 9) (dC rfl) rfl rfl rfl rfl))))))) (fun _=>rfl)) (cg (si (aO (lM S 4 rfl rfl) (aO (lM S 5 rfl rfl) (aR (lM S 6 rfl rfl)))))))))))
theorem kN:DefOk P w K mg base 2 "_law_rooms" 2 cY:=mk A.f54 A.g ["cell", "many"] lD ["room"] ["range", "_law_draw"] [0,1] [0] [0] fun X S I hp=>
 (cg (d7 [0,2] [0] [1] S 2 (ig S 0 rfl rfl I.e.n1 (aR (ao S 1)) (dC rfl)) (fun Y1 S1 F1=>have I:=F1.i I;kh (du (ue I.r) (bu S1 1 (I.c (zN A)) (aO (ao S1 0) (aO (ao S1 2) (aR w_de_int)))) w_de_int)) (fun Y1 S1 F1=>have I:=F1.i I;(ao S1 2))))
theorem o_law {fa:Addr} (hfa:mg "law"=some (.ref fa)):∃fd:FuncData,(∀(s:Shared) (v:Value),BindsTo s fd ⟨[v],[]⟩ [("script",v)])/\∀base:Heap,K.In base->base.Ns mainGlobals mg->eR P w K mg base nP 9 fa fd ["script"] (sm K 1 m_law):=Ke A.f55 A.g "script" zw hfa ["world", "many", "every", "player", "mark", "rooms", "hall", "room", "fair", "kept", "plan", "ranks", "way"] ["_law_world", "len", "list", "range", "_law_cell_at", "_law_draw", "_law_rooms", "keep", "follow", "fair_rooms", "fair_way", "way_is_fair", "marked", "again"] [0,1,2,3,4,5,6,7,8,9,10,11,12,13] [] [0,1,2,3,4,5,6,7,8,9,10,11,12,13] fun base X S I hp=>
 (bg (cE S false 1 (bu S 0 (I.c (kM A)) (aO (ao S 0) (aO w_de_int (aR w_de_int))))) (bg (cE S false 2 (lB S 1 I.e.n0 (aR (bq (ao S 1) w_de_int)))) (bg (cE S false 3 (Fh S 2 3 rfl rfl I.e.n5 rfl rfl I.e.n1 (aR (ao S 2)) (dC rfl) (dC rfl))) (bg (cE S false 4 (bu S 5 (I.c (zN A)) (aO (bu S 4 (I.c (CV A)) (aO (ao S 0) (aR w_de_int))) (aO w_de_int (aR w_de_int))))) (bg (cE S false 5 (bq sP (bu S 5 (I.c (zN A)) (aO (bu S 4 (I.c (CV A)) (aO (ao S 0) (aR w_de_int))) (aO w_de_int (aR w_de_int)))))) (bg (cE S false 6 (bu S 6 (I.c (kN A)) (aO (bu S 4 (I.c (CV A)) (aO (ao S 0) (aR w_de_int))) (aR (ao S 2))))) (bg (jF S 10 11 rfl rfl rfl rfl (lN (bu S 7 (I.c (Bo A)) (aO (ao S 1) (aO (ao S 4) (aR (ao S 6))))) w_de_int) rfl rfl) (bg (cE S false 7 (bu S 8 (I.c (mB A)) (aO (ao S 1) (aO (ao S 4) (aR (ao S 11)))))) (bg (wo S 8 rfl rfl hp (w_di_seq (ao S 10)) (bg (fN (du (zK I.r) (ao S 8) (bu S 9 (I.c (fU A)) (aO (ao S 1) (aO (ao S 6) (aR (lA .leaf sE)))))) (cg o9) fO) (d5 (fN (du (ud I.r) (bu S 11 (I.c (e7 A)) (aO (ao S 1) (aO (ao S 6) (aO (lA .leaf sE) (aR (bu S 10 (I.c (iF A)) (aO (ao S 7) (aO (ao S 6) (aO (lA .leaf sE) (aR (ao S 8))))))))))) o9) (cg o9) fO))) (fun _=>rfl)) (bg (jF S 12 11 rfl rfl rfl rfl (lN (bu S 13 (I.c (xF A)) (aO (ao S 1) (aO (ao S 4) (aR (bu S 12 (I.c (mz A)) (aO (ao S 1) (aR (ao S 5)))))))) w_de_int) rfl rfl) (bg (cE S false 7 (bu S 8 (I.c (mB A)) (aO (ao S 1) (aO (ao S 4) (aR (ao S 11)))))) (bg (cE S false 9 (bu S 9 (I.c (fU A)) (aO (ao S 1) (aO (ao S 3) (aR (lA .leaf (aR (ao S 5)))))))) (bg (wo S 8 rfl rfl hp (w_di_seq (ao S 3)) (bg (fN (yR (EK (du (wm I.r) (bq (ao S 12) (ao S 8)) ja) (EV (du (zK I.r) (ao S 8) (ao S 9))))) (cg o9) fO) (d5 (fN (du (wm I.r) (bq (ao S 12) (ao S 8)) ja) (bg (cE S false 13 (bu S 10 (I.c (iF A)) (aO (ao S 7) (aO (ao S 3) (aO (lA .leaf (aR (ao S 5))) (aR (ao S 8))))))) (d5 (fN (du (ud I.r) (bu S 11 (I.c (e7 A)) (aO (ao S 1) (aO (ao S 3) (aO (lA .leaf (aR (ao S 5))) (aR (ao S 13)))))) o9) (cg o9) fO))) fO))) (fun _=>rfl)) (cg o9))))))))))))))
end
end KQ.X
open PySem PySem.W PyProof.Rows
def PySem.W.Fast.tw12177057329087761217:=0
def PySem.W.Fast.tw8663757372362918210:=0
def PySem.W.Fast.tw15429327468286423076:=0
def PySem.W.Fast.tw2281682196625465060:=0
def PySem.W.Fast.tw11634599685349031110:=0
def PySem.W.Fast.tw10512538369993412327:=0
def PySem.W.Fast.tw3568844755396266032:=0
def PySem.W.Fast.tw10744170000205848945:=0
def PySem.W.Fast.tw7105315225996867153:=0
def PySem.W.Fast.tw4770962159719356309:=0
def PySem.W.Fast.tw2835651883243083415:=0
def PySem.W.Fast.tw11824509241652645402:=0
def PySem.W.Fast.tw11073438267952410555:=0
def PySem.W.Fast.tw1758257813998330556:=0
def PySem.W.Fast.tw18403120915071497917:=0
def PySem.W.Fast.tw15700504657063171775:=0
set_option maxRecDepth 100000 in
set_option maxHeartbeats 0 in
theorem PySem.Challenge.cw_foreseehall_k92_whole_from_keeping_to_fa_holds : PySem.Challenge.rw_foreseehall_k92_whole_from_keeping_to_fa.Holds := by
 w_on;o_law;k_head;(case hw=>w_witness2)
 k_fill
 refine T.walkG (j:=9) (l:=PySem.Challenge.rw_foreseehall_k92_whole_from_keeping_to_fa) KQ.X.law_true ⟨rfl,by decide,by decide⟩ rfl rfl (fun w h Y=>PySem.W.kIn_of Y) ?F
 case F=>
  intro w mg fa h KX G hmg;refine' KQ.X.o_law (.mk (.mk (T.gn KX G ?z0) (T.gn KX G ?z1) (T.gn KX G ?z2) (T.gn KX G ?z3) (T.gn KX G ?z4) (T.gn KX G ?z5) (T.gn KX G ?z6) (T.gn KX G ?z7) (T.gn KX G ?z8) (T.gt KX G ?e0 ?q0 ?v0) (T.gi KX G ?e1) (T.gt KX G ?e2 ?q2 ?v2)) (T.ft KX G ?a0 ?l0 ?c0 ?k0) (T.ft KX G ?a1 ?l1 ?c1 ?k1) (T.ft KX G ?a2 ?l2 ?c2 ?k2) (T.ft KX G ?a3 ?l3 ?c3 ?k3) (T.ft KX G ?a4 ?l4 ?c4 ?k4) (T.ft KX G ?a5 ?l5 ?c5 ?k5) (T.ft KX G ?a6 ?l6 ?c6 ?k6) (T.ft KX G ?a7 ?l7 ?c7 ?k7) (T.ft KX G ?a8 ?l8 ?c8 ?k8) (T.ft KX G ?a9 ?l9 ?c9 ?k9) (T.ft KX G ?a10 ?l10 ?c10 ?k10) (T.ft KX G ?a11 ?l11 ?c11 ?k11) (T.ft KX G ?a12 ?l12 ?c12 ?k12) (T.ft KX G ?a13 ?l13 ?c13 ?k13) (T.ft KX G ?a14 ?l14 ?c14 ?k14) (T.ft KX G ?a15 ?l15 ?c15 ?k15) (T.ft KX G ?a16 ?l16 ?c16 ?k16) (T.ft KX G ?a17 ?l17 ?c17 ?k17) (T.ft KX G ?a18 ?l18 ?c18 ?k18) (T.ft KX G ?a19 ?l19 ?c19 ?k19) (T.ft KX G ?a20 ?l20 ?c20 ?k20) (T.ft KX G ?a21 ?l21 ?c21 ?k21) (T.ft KX G ?a22 ?l22 ?c22 ?k22) (T.ft KX G ?a23 ?l23 ?c23 ?k23) (T.ft KX G ?a24 ?l24 ?c24 ?k24) (T.ft KX G ?a25 ?l25 ?c25 ?k25) (T.ft KX G ?a26 ?l26 ?c26 ?k26) (T.ft KX G ?a27 ?l27 ?c27 ?k27) (T.ft KX G ?a28 ?l28 ?c28 ?k28) (T.ft KX G ?a29 ?l29 ?c29 ?k29) (T.ft KX G ?a30 ?l30 ?c30 ?k30) (T.ft KX G ?a31 ?l31 ?c31 ?k31) (T.ft KX G ?a32 ?l32 ?c32 ?k32) (T.ft KX G ?a33 ?l33 ?c33 ?k33) (T.ft KX G ?a34 ?l34 ?c34 ?k34) (T.ft KX G ?a35 ?l35 ?c35 ?k35) (T.ft KX G ?a36 ?l36 ?c36 ?k36) (T.ft KX G ?a37 ?l37 ?c37 ?k37) (T.ft KX G ?a38 ?l38 ?c38 ?k38) (T.ft KX G ?a39 ?l39 ?c39 ?k39) (T.ft KX G ?a40 ?l40 ?c40 ?k40) (T.ft KX G ?a41 ?l41 ?c41 ?k41) (T.ft KX G ?a42 ?l42 ?c42 ?k42) (T.ft KX G ?a43 ?l43 ?c43 ?k43) (T.ft KX G ?a44 ?l44 ?c44 ?k44) (T.ft KX G ?a45 ?l45 ?c45 ?k45) (T.ft KX G ?a46 ?l46 ?c46 ?k46) (T.ft KX G ?a47 ?l47 ?c47 ?k47) (T.ft KX G ?a48 ?l48 ?c48 ?k48) (T.ft KX G ?a49 ?l49 ?c49 ?k49) (T.ft KX G ?a50 ?l50 ?c50 ?k50) (T.ft KX G ?a51 ?l51 ?c51 ?k51) (T.ft KX G ?a52 ?l52 ?c52 ?k52) (T.ft KX G ?a53 ?l53 ?c53 ?k53) (T.ft KX G ?a54 ?l54 ?c54 ?k54) (T.ft KX G ?a55 ?l55 ?c55 ?k55)) hmg
  case a0|l0|c0|k0|a1|l1|c1|k1|a2|l2|c2|k2|a3|l3|c3|k3|a4|l4|c4|k4|a5|l5|c5|k5|a6|l6|c6|k6|a7|l7|c7|k7|a8|l8|c8|k8|a9|l9|c9|k9|a10|l10|c10|k10|a11|l11|c11|k11|a12|l12|c12|k12|a13|l13|c13|k13|a14|l14|c14|k14|a15|l15|c15|k15|a16|l16|c16|k16|a17|l17|c17|k17|a18|l18|c18|k18|a19|l19|c19|k19|a20|l20|c20|k20|a21|l21|c21|k21|a22|l22|c22|k22|a23|l23|c23|k23|a24|l24|c24|k24|a25|l25|c25|k25|a26|l26|c26|k26|a27|l27|c27|k27|a28|l28|c28|k28|a29|l29|c29|k29|a30|l30|c30|k30|a31|l31|c31|k31|a32|l32|c32|k32|a33|l33|c33|k33|a34|l34|c34|k34|a35|l35|c35|k35|a36|l36|c36|k36|a37|l37|c37|k37|a38|l38|c38|k38|a39|l39|c39|k39|a40|l40|c40|k40|a41|l41|c41|k41|a42|l42|c42|k42|a43|l43|c43|k43|a44|l44|c44|k44|a45|l45|c45|k45|a46|l46|c46|k46|a47|l47|c47|k47|a48|l48|c48|k48|a49|l49|c49|k49|a50|l50|c50|k50|a51|l51|c51|k51|a52|l52|c52|k52|a53|l53|c53|k53|a54|l54|c54|k54|a55|l55|c55|k55|z0|z1|z2|z3|z4|z5|z6|z7|z8|e0|q0=>k_is
  case v0=>kernel_rfl
  case e1|e2|q2=>k_is
  case v2=>kernel_rfl
