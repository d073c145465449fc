import PyProof.Rows.All
import Wide.All
import OpenK.AllK
import Wide.FinOn
import PyProof.EqAt
import PyProof.EqKinds
import PyProof.TupleCall
import PyProof.StrBlockH
import PyProof.StrWalks
import PyProof.StrCalls
import PyProof.SetRoads
import Lean
import PySem.Challenge.RW_foreseehall_k66_whole_no_way_gets_by_a_p
open List (mem_append_right mem_append_left getElem?_eq_getElem length_set append_assoc length_map getD_eq_getElem?_getD mem_cons_of_mem getElem?_map mem_cons_self size_toArray getElem?_set_ne mem_of_getElem? map_cons set_set length_append getElem?_set_self getElem?_append_left mem_cons not_mem_nil getElem?_append_right nodup_nil lookup_cons length_cons getElem_mem nil_append map_map all_eq_true contains_iff_mem append_nil length_singleton flatten_cons any_eq_true getElem?_eq_none length_filter_le drop_eq_getElem_cons pairwise_map length_take perm_append_comm getElem?_toArray mem_map exists_mem_of_ne_nil drop_eq_nil_of_le ext_getElem? getElem?_cons_succ getElem?_replicate length_drop getElem?_set mem_range length_range filter_cons getElem?_range take_of_length_le)
set_option Elab.async false
set_option linter.all false
set_option maxRecDepth 100000
set_option maxHeartbeats 4000000
set_option maxRecDepth 10000
abbrev Fg:=PySem.W.Frag
abbrev sTm (i:Nat):PySem.Stmt:=(PySem.Challenge.pw_foreseehall_k66_whole_no_way_gets_by_a_p.main.body)[i]!
namespace L2
open PySem PySem.Spec PyProof.Rows
abbrev Key:=Sum Int Str
def keyIs:Key->Value->Bool
 | .inl k,v=>Value.isInt k v
 | .inr x,v=>Value.isStrOf x v
def keyH (w:World):Key->Int
 | .inl k=>hashInt k
 | .inr x=>hashStr w x
theorem zBL:∀{k:Key} {v:Value},keyIs k v=true->(∃i t,k=Sum.inl i/\v=Value.int i t)\/(∃x t,k=Sum.inr x/\v=Value.str x t)
 | .inl i,v,h=>by
  obtain ⟨t,e⟩:=Value.isInt_shape (k:=i) (v:=v) h
  exact .inl ⟨i,t,rfl,e⟩
 | .inr x,v,h=>by
  obtain ⟨t,e⟩:=Value.isStrOf_shape (x:=x) (v:=v) h
  exact .inr ⟨x,t,rfl,e⟩
theorem key_ll (a b:Int):decide ((Sum.inl a:Key)=Sum.inl b)=(a==b):=by
 by_cases e:a=b
 ·subst e;simp
 ·have h:¬(Sum.inl a:Key)=Sum.inl b:=fun q=>e (Sum.inl.inj q)
  rw [decide_eq_false h]
  exact (beq_eq_false_iff_ne.mpr e).symm
theorem key_rr (a b:Str):decide ((Sum.inr a:Key)=Sum.inr b)=decide (a=b):=by
 by_cases e:a=b
 ·subst e;simp
 ·have h:¬(Sum.inr a:Key)=Sum.inr b:=fun q=>e (Sum.inr.inj q)
  rw [decide_eq_false h,decide_eq_false e]
theorem key_lr (a:Int) (b:Str):decide ((Sum.inl a:Key)=Sum.inr b)=false:=decide_eq_false (fun q=>nomatch q)
theorem key_rl (a:Str) (b:Int):decide ((Sum.inr a:Key)=Sum.inl b)=false:=decide_eq_false (fun q=>nomatch q)
def zJX (prog:Program) (w:World):PySem.KeyKind prog w Key where
 is:=keyIs
 hash:=keyH w
 inj:=fun v a b ha hb=>by
  rcases zBL ha with ⟨i,t,rfl,rfl⟩ | ⟨x,t,rfl,rfl⟩
  ·rcases zBL hb with ⟨j,u,rfl,e⟩ | ⟨y,u,rfl,e⟩
   ·injection e with e1 _;rw [e1]
   ·exact nomatch e
  ·rcases zBL hb with ⟨j,u,rfl,e⟩ | ⟨y,u,rfl,e⟩
   ·exact nomatch e
   ·injection e with e1 _;rw [e1]
 byValue:=fun k v h=>by
  rcases zBL h with ⟨i,t,rfl,rfl⟩ | ⟨x,t,rfl,rfl⟩<;>rfl
 pyHash:=fun hv h=>by
  rcases zBL hv with ⟨i,t,rfl,rfl⟩ | ⟨x,t,rfl,rfl⟩
  ·exact wpAny_pyHash_int h
  ·exact wpAny_pyHash_str h
 eqBool:=fun hu hv h=>by
  rcases zBL hu with ⟨i,t,rfl,rfl⟩ | ⟨x,t,rfl,rfl⟩
  ·rcases zBL hv with ⟨j,u,rfl,rfl⟩ | ⟨y,u,rfl,rfl⟩
   ·rw [key_ll] at h;exact wpAny_eqBool_int h
   ·rw [key_lr] at h;exact SeqAt.EqAt.int_str i t y u _ _ _ _ h
  ·rcases zBL hv with ⟨j,u,rfl,rfl⟩ | ⟨y,u,rfl,rfl⟩
   ·rw [key_rl] at h;exact SeqAt.EqAt.str_int x t j u _ _ _ _ h
   ·rw [key_rr] at h;exact wpAny_eqBool_str h
 «strs»:=fun k x t v h=>by
  rcases zBL h with ⟨i,u,rfl,e⟩ | ⟨y,u,rfl,e⟩
  ·exact nomatch e
  ·injection e with e1 _
   subst e1
   cases v<;>rfl
inductive V where
 | non | bl (b:Bool) | int (i:Int) | str (x:Str) | byt (b:Array UInt8) | flt (b:UInt64) | ref (a:Addr) | ty (n:String)
 deriving DecidableEq
def RelV:V->Value->Prop
 | .non,u=>u=Value.none
 | .bl b,u=>u=Value.bool b
 | .int i,u=>∃t,u=Value.int i t
 | .str x,u=>∃t,u=Value.str x t
 | .byt b,u=>∃t,u=Value.bytes b t
 | .flt b,u=>∃t,u=Value.float b t
 | .ref a,u=>u=Value.ref a
 | .ty n,u=>u=Value.type n
abbrev Vals:List V->List Value->Prop:=Paired RelV
theorem Vals.length {xs:List V} {us:List Value} (r:Vals xs us):xs.length=us.length:=Paired.length r
theorem Vals.get:∀{xs:List V} {us:List Value} {i:Nat} {x:V},Vals xs us->xs[i]?=some x->∃u,us[i]?=some u/\RelV x u
 | _,_,_,_,.nil,e=>by simp at e
 | _,_,0,_,.cons r _,e=>by simp at e;subst e;exact ⟨_,rfl,r⟩
 | _,_,i+1,x,.cons _ t,e=>by
  obtain ⟨u,h1,h2⟩:=Vals.get (i:=i) (x:=x) t (by simpa using e)
  exact ⟨u,by simpa using h1,h2⟩
theorem Vals.set {x:V} {u:Value} (r:RelV x u):∀{xs:List V} {us:List Value} (i:Nat),Vals xs us->Vals (xs.set i x) (us.set i u)
 | _,_,_,.nil=>.nil
 | _,_,0,.cons _ t=>.cons r t
 | _,_,i+1,.cons q t=>.cons q (Vals.set r i t)
theorem Vals.append:∀{xs ys:List V} {us ws:List Value},Vals xs us->Vals ys ws->Vals (xs++ys) (us++ws)
 | _,_,_,_,.nil,s=>s
 | _,_,_,_,.cons r t,s=>.cons r (Vals.append t s)
theorem Vals.take:∀{xs:List V} {us:List Value} (n:Nat),Vals xs us->Vals (xs.take n) (us.take n)
 | _,_,0,_=>.nil
 | _,_,_+1,.nil=>.nil
 | _,_,n+1,.cons r t=>.cons r (Vals.take n t)
theorem Vals.drop:∀{xs:List V} {us:List Value} (n:Nat),Vals xs us->Vals (xs.drop n) (us.drop n)
 | _,_,0,r=>r
 | _,_,_+1,.nil=>.nil
 | _,_,n+1,.cons _ t=>Vals.drop n t
def RelO:Option V->Option Value->Prop
 | some v,some u=>RelV v u
 | none,none=>True
 | _,_=>False
def KV {κ:Type}:List (κ×V)->List (κ×Value)->Prop:=Paired fun (p:κ×V) (q:κ×Value)=>p.1=q.1/\RelV p.2 q.2
def kV:Key->V
 | .inl i=>.int i
 | .inr x=>.str x
inductive HO where
 | lst (xs:List V)
 | tup (xs:List V)
 | dK (kvs:List (Key×V)) | dT (kvs:List (List Key×V))
 | set (S:Int->Bool) (n:Nat)
 | ins (C dx:Addr) (fs:List (Str×V))
 | own (x:Addr)
 | xd (fs:List (Str×V))
 | met (f x:Addr)
 | rng (lo hi:Int)
 | frz (o:Obj) (u:HO)
 | tbl (ps:Array Value)
 | ext (φ:Heap->Prop)
abbrev Hp:=Addr->Option HO
def upd (H:Hp) (a:Addr) (o:HO):Hp:=fun b=>if b=a then some o else H b
theorem zAU {H:Hp} {a:Addr} {o:HO}:upd H a o a=some o:=by unfold upd;rw [if_pos rfl]
theorem zA6 {H:Hp} {a b:Addr} {o:HO} (h:b≠a):upd H a o b=H b:=by unfold upd;rw [if_neg h]
theorem zBF {H:Hp} {a b:Addr} {o:HO} (h:H a=some o) (h':H b=none):a≠b:=by
 intro e;subst e;rw [h] at h';cases h'
section
variable (P:Program) (w:World)
def ObjOk (H:Hp) (h:Heap) (a:Addr):HO->Prop
 | .lst xs=>xs.length<=sizeLine/\∃(its:List Value) (n:Nat),Vals xs its/\h.get? a=some { cls:=.type "list",data:=.seq its.toArray n }
 | .tup xs=>xs.length<=sizeLine/\∃its:List Value,Vals xs its/\IsTup h a its.toArray
 | .dK kvs=>kvs.length<=sizeLine/\(a==sysModules)=false/\∃vs,KV kvs vs/\h.DictOf (zJX P w) a vs
 | .dT kvs=>kvs.length<=sizeLine/\(a==sysModules)=false/\∃xs:List (List Key×Addr×Value),
   Paired (fun (p:List Key×V) (q:List Key×Addr×Value)=>p.1=q.1/\H q.2.1=some (.tup (p.1.map kV))/\RelV p.2 q.2.2) kvs xs /\
   ∃o es ep,h.get? a=some o/\o.ExactDict/\o.data=.dict es ep/\es.toList=xs.map (entryOfKey (tupleKind (zJX P w)))/\(xs.map (·.1)).Nodup
 | .set S n=>h.SetOf (intKind P w) a S n
 | .ins C dx fs=>H dx=some (.own a)/\fs.length<=1000/\dx≠a/\h.get? a=some (PySem.W.instObj C dx) /\
   ∃mA,h.Ns1 dx mA/\(∀f,RelO (fs.lookup f) (mA f))/\PySem.Within mA (fs.map (·.1))
 | .own _=>∃o,h.get? a=some o
 | .xd fs=>∃mA,h.Ns1 a mA/\∀f,RelO (fs.lookup f) (mA f)
 | .rng lo hi=>∃t u v,h.get? a=some { cls:=.type "range",data:=.fields #[.int lo t,.int hi u,.int 1 v] }
 | .frz o u=>h.get? a=some o/\ObjOk H h a u
 | .tbl ps=>h.get? a=some { cls:=.none,data:=.fields ps }
 | .met f x=>h.get? a=some (PySem.W.methodObj (.ref f) (.ref x))
 | .ext φ=>φ h/\(∃o,h.get? a=some o)/\∀h1 h2:Heap,φ h1->(∀o,h1.get? a=some o->h2.get? a=some o)->φ h2
def HOk (H:Hp) (h:Heap):Prop:=∀a o,H a=some o->ObjOk P w H h a o
end
section
variable {P:Program} {w:World} {H H':Hp} {h h':Heap} {a:Addr} {o:HO}
theorem ObjOk.lt (x:ObjOk P w H h a o):a<h.objs.size:=by
 cases o with
 | lst xs=>obtain ⟨_,_,_,_,e⟩:=x;exact Heap.lt_size e
 | tup xs=>obtain ⟨_,_,_,p⟩:=x;exact p.lt
 | dK kvs=>obtain ⟨_,_,_,_,o,_,_,e,_⟩:=x;exact Heap.lt_size e
 | dT kvs=>obtain ⟨_,_,_,_,o,_,_,e,_⟩:=x;exact Heap.lt_size e
 | set S n=>obtain ⟨o,_,_,_,e,_⟩:=x;exact Heap.lt_size e
 | ins C dx fs=>obtain ⟨_,_,_,e,_⟩:=x;exact Heap.lt_size e
 | own y=>obtain ⟨_,e⟩:=x;exact Heap.lt_size e
 | xd fs=>obtain ⟨_,⟨_,_,_,e,_⟩,_⟩:=x;exact Heap.lt_size e
 | rng lo hi=>obtain ⟨_,_,_,e⟩:=x;exact Heap.lt_size e
 | frz ob u=>obtain ⟨e,_⟩:=x;exact Heap.lt_size e
 | tbl ps=>exact Heap.lt_size (show h.get? a=some _ from x)
 | met f y=>exact Heap.lt_size (show h.get? a=some _ from x)
 | ext φ=>obtain ⟨_,⟨_,e⟩,_⟩:=x;exact Heap.lt_size e
theorem Paired.mapP {α β:Type} {F G:α->β->Prop}:∀{l₁:List α} {l₂:List β},Paired F l₁ l₂->(∀a b,F a b->G a b)->Paired G l₁ l₂
 | _,_,.nil,_=>.nil
 | _,_,.cons r t,f=>.cons (f _ _ r) (Paired.mapP t f)
theorem ObjOk.stay (x:ObjOk P w H h a o) (k:∀b u,(b=a\/H b=some (.own a))->h.get? b=some u->h'.get? b=some u)
  (ho:∀b,H b=some (.own a)->H' b=some (.own a)) (ht:∀b xs,H b=some (.tup xs)->H' b=some (.tup xs)):ObjOk P w H' h' a o:=by
 induction o with
 | lst xs=>obtain ⟨z,its,n,r,e⟩:=x;exact ⟨z,its,n,r,k _ _ (.inl rfl) e⟩
 | tup xs=>obtain ⟨z,its,r,ob,e,c⟩:=x;exact ⟨z,its,r,ob,k _ _ (.inl rfl) e,c⟩
 | dK kvs=>obtain ⟨z,y,vs,r,ob,es,ep,e,c⟩:=x;exact ⟨z,y,vs,r,ob,es,ep,k _ _ (.inl rfl) e,c⟩
 | dT kvs=>
  obtain ⟨z,y,xs,r,ob,es,ep,e,c⟩:=x
  exact ⟨z,y,xs,Paired.mapP r fun p q z=>⟨z.1,ht _ _ z.2.1,z.2.2⟩,ob,es,ep,k _ _ (.inl rfl) e,c⟩
 | set S n=>obtain ⟨ob,es,ep,t,e,c⟩:=x;exact ⟨ob,es,ep,t,k _ _ (.inl rfl) e,c⟩
 | ins C dx fs=>
  obtain ⟨d,z,ne,e,mA,⟨od,es,ep,e2,c⟩,r⟩:=x
  exact ⟨ho _ d,z,ne,k _ _ (.inl rfl) e,mA,⟨od,es,ep,k _ _ (.inr d) e2,c⟩,r⟩
 | own y=>obtain ⟨ob,e⟩:=x;exact ⟨ob,k _ _ (.inl rfl) e⟩
 | xd fs=>obtain ⟨mA,⟨od,es,ep,e,c⟩,r⟩:=x;exact ⟨mA,⟨od,es,ep,k _ _ (.inl rfl) e,c⟩,r⟩
 | rng lo hi=>obtain ⟨t,u,v,e⟩:=x;exact ⟨t,u,v,k _ _ (.inl rfl) e⟩
 | frz ob u ih=>obtain ⟨e,q⟩:=x;exact ⟨k _ _ (.inl rfl) e,ih q⟩
 | tbl ps=>
  have e:h.get? a=some { cls:=.none,data:=.fields ps }:=x
  show h'.get? a=some { cls:=.none,data:=.fields ps }
  exact k a _ (.inl rfl) e
 | met f y=>
  have e:h.get? a=some (PySem.W.methodObj (.ref f) (.ref y)):=x
  show h'.get? a=some (PySem.W.methodObj (.ref f) (.ref y))
  exact k a _ (.inl rfl) e
 | ext φ=>obtain ⟨p,⟨o,e⟩,st⟩:=x;exact ⟨st _ _ p fun o q=>k _ _ (.inl rfl) q,⟨o,k _ _ (.inl rfl) e⟩,st⟩
theorem HOk.lt (x:HOk P w H h) (e:H a=some o):a<h.objs.size:=(x a o e).lt
theorem HOk.fresh (x:HOk P w H h) (e:h.objs.size<=a):H a=none:=by
 cases q:H a with
 | none=>rfl
 | some u=>exact absurd (Nat.lt_of_lt_of_le (x.lt q) e) (Nat.lt_irrefl _)
theorem HOk.kept (x:HOk P w H h) (k:∀b u,h.get? b=some u->h'.get? b=some u):HOk P w H h':=fun a o e=>
 (x a o e).stay (fun b u _ q=>k b u q) (fun _ q=>q) fun _ _ q=>q
theorem HOk.laid (x:HOk P w H h) (k:∀b u,h.get? b=some u->h'.get? b=some u) (hp:h.objs.size<=a) (new:ObjOk P w (upd H a o) h' a o):HOk P w (upd H a o) h':=fun b u e=>by
 have hn:=x.fresh hp
 by_cases hb:b=a
 ·subst hb;rw [zAU] at e;cases e;exact new
 ·rw [zA6 hb] at e
  exact (x b u e).stay (fun c v _ q=>k c v q) (fun c q=>by rw [zA6 (zBF q hn)];exact q) fun c xs q=>by rw [zA6 (zBF q hn)];exact q
end
def Rd (H:Hp) (a:Addr) (u:HO):Prop:=H a=some u\/∃o,H a=some (.frz o u)
theorem Rd.ok {P:Program} {w:World} {H:Hp} {h:Heap} {a:Addr} {u:HO} (r:Rd H a u) (x:HOk P w H h):ObjOk P w H h a u:=by
 rcases r with r | ⟨o,r⟩
 ·exact x a u r
 ·obtain ⟨_,q⟩:=x a _ r
  exact q
def Mut:Option HO->Prop
 | some (.lst _)=>True
 | some (.dK _)=>True
 | some (.dT _)=>True
 | some (.set _ _)=>True
 | some (.ins _ _ _)=>True
 | some (.ext _)=>True
 | _=>False
section
variable {P:Program} {w:World} {H:Hp} {h h':Heap} {x e:Addr} {o':HO}
theorem HOk.write (ok:HOk P w H h) (mu:Mut (H x)) (he:e=x\/H e=some (.own x)) (k:∀b u,b≠e->h.get? b=some u->h'.get? b=some u) (heo:∃u,h'.get? e=some u)
  (new:ObjOk P w (upd H x o') h' x o'):HOk P w (upd H x o') h':=fun b u q=>by
 have nown:∀c y,H c=some (.own y)->c≠x:=fun c y r z=>by subst z;rw [r] at mu;exact mu
 have ntup:∀c xs,H c=some (.tup xs)->c≠x:=fun c xs r z=>by subst z;rw [r] at mu;exact mu
 by_cases hb:b=x
 ·subst hb;rw [zAU] at q;cases q;exact new
 ·rw [zA6 hb] at q
  by_cases hbe:b=e
  ·have q':H b=some (.own x):=by
    rcases he with z | z
    ·exact absurd (hbe.trans z) hb
    ·rw [hbe];exact z
   rw [q] at q';cases q'
   obtain ⟨v,hv⟩:=heo
   exact ⟨v,by rw [hbe];exact hv⟩
  ·refine (ok b u q).stay (fun c v hc r=>k c v ?_ r) (fun c r=>by rw [zA6 (nown c b r)];exact r) fun c xs r=>by rw [zA6 (ntup c xs r)];exact r
   rcases hc with rfl | hc
   ·exact hbe
   ·rintro rfl
    rcases he with z | z
    ·exact nown c b hc z
    ·rw [hc] at z;cases z;exact hb rfl
end
structure Un (fs ex:List Addr) (H H':Hp) (h h':Heap):Prop where
 keep:∀b o,h.get? b=some o->H b=none->b∉fs->b∉ex->h'.get? b=some o
 slot:∀b o,h.get? b=some o->H b=none->b∈fs->b∉ex->∃sl,h'.get? b=some { o with slots:=sl }
 free:∀b o,h.get? b=some o->H b=none->b∉ex->H' b=none
 there:∀b o,h.get? b=some o->b∉ex->∃o',h'.get? b=some o'
 tups:∀b xs,H b=some (.tup xs)->H' b=some (.tup xs)
 frzs:∀b o u,H b=some (.frz o u)->H' b=some (.frz o u)
 tbls:∀b ps,H b=some (.tbl ps)->∃more,H' b=some (.tbl (ps++more))
section
variable {fs fs' ex ex':List Addr} {H H1 H2:Hp} {h h1 h2 h':Heap} {a x e:Addr} {o:HO}
theorem Un.any (u:Un fs ex H H1 h h1) {b:Addr} {ob:Obj} (q:h.get? b=some ob) (n:H b=none) (hx:b∉ex):∃sl,h1.get? b=some { ob with slots:=sl }:=by
 by_cases hb:b∈fs
 ·exact u.slot b ob q n hb hx
 ·exact ⟨ob.slots,u.keep b ob q n hb hx⟩
theorem Un.kept (k:∀b u,h.get? b=some u->h'.get? b=some u):Un fs ex H H h h':=
 ⟨fun b ob q _ _ _=>k b ob q,fun b ob q _ _ _=>⟨ob.slots,k b ob q⟩,fun _ _ _ n _=>n,fun b ob q _=>⟨ob,k b ob q⟩,fun _ _ q=>q,fun _ _ _ q=>q,fun _ ps q=>⟨#[],by rw [q];simp⟩⟩
theorem Un.refl:Un fs ex H H h h:=Un.kept fun _ _ q=>q
theorem Un.laid (k:∀b u,h.get? b=some u->h'.get? b=some u) (hp:h.objs.size<=a) (hn:H a=none):Un fs ex H (upd H a o) h h' where
 keep:=fun b u q _ _ _=>k b u q
 slot:=fun b u q _ _ _=>⟨u.slots,k b u q⟩
 free:=fun b u q n _=>by rw [zA6 (Nat.ne_of_lt (Nat.lt_of_lt_of_le (Heap.lt_size q) hp))];exact n
 there:=fun b u q _=>⟨u,k b u q⟩
 tups:=fun b xs q=>by rw [zA6 (zBF q hn)];exact q
 frzs:=fun b u xs q=>by rw [zA6 (zBF q hn)];exact q
 tbls:=fun b ps q=>⟨#[],by rw [zA6 (zBF q hn),q];simp⟩
theorem Un.write (mu:Mut (H x)) (he:e=x\/H e=some (.own x)) (k:∀b u,b≠e->h.get? b=some u->h'.get? b=some u) (heo:∃u,h'.get? e=some u):Un fs ex H (upd H x o) h h':=by
 have hx:∀b,H b=none->b≠x:=fun b n z=>by subst z;rw [n] at mu;exact mu
 have hb:∀b,H b=none->b≠e:=fun b n z=>by
  subst z
  rcases he with r | r
  ·exact hx b n r
  ·rw [n] at r;cases r
 have hm:∀b u,H b=some u->¬Mut (some u)->b≠x:=fun b u q nm z=>by subst z;rw [q] at mu;exact nm mu
 refine ⟨fun b u q n _ _=>k b u (hb b n) q,fun b u q n _ _=>⟨u.slots,k b u (hb b n) q⟩,fun b u q n _=>by rw [zA6 (hx b n)];exact n,fun b u q _=>?_,
  fun b xs q=>by rw [zA6 (hm b _ q fun z=>z)];exact q,fun b u xs q=>by rw [zA6 (hm b _ q fun z=>z)];exact q,fun b ps q=>⟨#[],by rw [zA6 (hm b _ q fun z=>z),q];simp⟩⟩
 by_cases hbe:b=e
 ·subst hbe;exact heo
 ·exact ⟨u,k b u hbe q⟩
end
def trk (h:Heap) (H:Hp):List Addr:=(List.range h.objs.size).filter fun a=>(H a).isSome
def hidT (h:Heap) (H:Hp):Heap:=PySem.W.hideAll h (trk h H)
theorem hidT_size (h:Heap) (H:Hp):(hidT h H).objs.size=h.objs.size:=PySem.W.hideAll_size _ _
theorem hidT_get {h:Heap} {H:Hp} {b:Addr} {o:Obj} (e:h.get? b=some o) (n:H b=none):(hidT h H).get? b=some o:=
 PySem.W.hideAll_get _ e fun hm=>by
  have q:(H b).isSome=true:=(List.mem_filter.mp hm).2
  rw [n] at q;simp at q
theorem of_hidT {h:Heap} {H:Hp} {b:Addr} {o:Obj} (e:(hidT h H).get? b=some o):h.get? b=some o/\H b=none:=by
 have e':h.get? b=some o:=PySem.W.of_hideAll (trk h H) e
 refine ⟨e',?_⟩
 cases q:H b with
 | none=>rfl
 | some x=>
  have hm:b∈trk h H:=List.mem_filter.mpr ⟨List.mem_range.mpr (Heap.lt_size e'),by simp [q]⟩
  have z:(hidT h H).get? b=none:=PySem.W.hideAll_none (trk h H) hm
  rw [z] at e;cases e
def allNews (g h:Heap) (L:Addr):List (Addr×Obj):=(List.range h.objs.size).filterMap fun a=>if a=L\/(g.get? a).isSome=true then none else (h.get? a).map fun o=>(a,o)
def rest (g h:Heap) (L d:Addr):List (Addr×Obj):=(allNews g h L).filter fun p=>decide (p.1≠d)
structure Mod (K:Fg) (mg:Str->Option Value) (base:Heap):Prop where
 kin:K.In base
 glob:base.Ns mainGlobals mg
 blt:∃mb,base.Ns builtinsNs mb/\∀x:Str,x ≠ "__name__"->mb x=bootBuiltins x
 nolimit:base.NoLimit
structure Cx where
 prog:Program
 w:World
 K:Fg
 mg:Str->Option Value
 base:Heap
 A:Around
 N:List Str
 s₀:Shared
 H₀:Hp
 env:Env
 outer:List Env
 stack:List Env
 ex:List Addr
 fn:Str->Bool
 calm:Bool
 pn:List (Addr×Obj)
 xe:Value->Shared->Prop
def frs (l:List Env):List Addr:=l.filterMap (·.frame)
abbrev Cx.fs (X:Cx):List Addr:=frs X.outer
def Vis (sc:Scope) (x:Str):Prop:=sc.names.lookup x=some .local\/sc.names.lookup x=some .cell\/sc.names.lookup x=some .free
def Loc (sc:Scope) (x:Str):Prop:=sc.names.lookup x=some .local\/sc.names.lookup x=some .cell
def Look (env:Env) (h:Heap) (m:Str->Option Value) (x:Str) (u:Value):Prop:=
 (env.kindOf x=some .local/\m x=some u)\/((env.kindOf x=some .cell\/env.kindOf x=some .free)/\∃c,env.cells.lookup x=some c/\h.IsCell c (some u))
structure Cx.Ok (X:Cx):Prop where
 mod:Mod X.K X.mg X.base
 kind:X.env.scope.kind=.function
 glob:X.env.globals=mainGlobals
 blt:X.env.builtins=builtinsNs
 above:X.s₀.heap.objs.size<=X.env.locals
 inj:∀x y c,X.env.cells.lookup x=some c->X.env.cells.lookup y=some c->x=y
 has:∀x,(X.env.kindOf x=some .cell\/X.env.kindOf x=some .free)->∃c,X.env.cells.lookup x=some c
 cab:∀x c,X.fn x=true->X.env.cells.lookup x=some c->X.s₀.heap.objs.size<=c
 hd:X.calm=true->X.A.handled=none
 frames:X.A.frames=some X.stack
 stk:X.stack=X.outer\/(X.stack=X.env::X.outer/\X.env.frame=some X.env.locals)
 exf:∀b∈X.ex,b≠X.env.locals/\∀x c,X.env.cells.lookup x=some c->c≠b
 bs:∀b o,X.base.get? b=some o->X.s₀.heap.get? b=some o/\X.H₀ b=none
 bsz:X.base.objs.size<=X.s₀.heap.objs.size
 noex:∀b o,X.base.get? b=some o->b∉X.ex
 exfs:∀b∈X.ex,b∉X.fs
 funs:X.s₀.heap.FunFrames X.base X.outer
 frf:∀b∈X.fs,X.H₀ b=none
structure Inv (X:Cx) (pins:List (Addr×Obj)) (σ:List (Option V)) (H:Hp) (s:Shared):Prop where
 ok:X.Ok
 os:s.os=X.s₀.os
 bare:AllBare s.gens
 base:Un X.fs X.ex X.H₀ H X.s₀.heap s.heap
 loc:∃m,s.heap.Ns X.env.locals m/\∀(i:Nat) (x:Str) (v:V),X.N[i]?=some x->σ[i]?=some (some v)->Vis X.env.scope x->∃u,RelV v u/\Look X.env s.heap m x u
 cell:∀x c,X.env.cells.lookup x=some c->∃v,s.heap.IsCell c v
 free:H X.env.locals=none
 freeC:∀x c,X.env.cells.lookup x=some c->H c=none
 pin:∀p∈X.pn++pins,s.heap.get? p.1=some p.2/\H p.1=none/\p.1≠X.env.locals/\p.1∉X.fs/\∀v,p.2.data≠.cell v
 hok:HOk X.prog X.w H s.heap
 len:σ.length=X.N.length
section
variable {X:Cx} {pins:List (Addr×Obj)} {σ:List (Option V)} {H H':Hp} {s:Shared} {h':Heap}
theorem Cx.Ok.nofr (ok:X.Ok) {b:Addr} {o:Obj} (e:X.base.get? b=some o):b∉X.fs:=fun hb=>by
 have:=(ok.funs.mem hb).1
 rw [e] at this;cases this
theorem Inv.bs (I:Inv X pins σ H s):∀b o,X.base.get? b=some o->s.heap.get? b=some o/\H b=none:=fun b o e=>
 ⟨I.base.keep b o (I.ok.bs b o e).1 (I.ok.bs b o e).2 (I.ok.nofr e) (I.ok.noex b o e),I.base.free b o (I.ok.bs b o e).1 (I.ok.bs b o e).2 (I.ok.noex b o e)⟩
theorem Inv.bk (I:Inv X pins σ H s):∀b o,X.base.get? b=some o->s.heap.get? b=some o:=fun b o e=>(I.bs b o e).1
theorem Inv.mod (I:Inv X pins σ H s):Mod X.K X.mg X.base:=I.ok.mod
theorem Inv.kIn (I:Inv X pins σ H s):X.K.In s.heap:=I.ok.mod.kin.keeps I.bk
theorem Inv.lt (I:Inv X pins σ H s):X.env.locals<s.heap.objs.size:=let ⟨_,hn,_⟩:=I.loc;hn.lt
theorem Inv.sz (I:Inv X pins σ H s):X.s₀.heap.objs.size<=s.heap.objs.size:=Nat.le_trans I.ok.above (Nat.le_of_lt I.lt)
theorem Inv.nofs (I:Inv X pins σ H s) {a:Addr} (h:s.heap.objs.size<=a):a∉X.fs:=fun hb=>by
 obtain ⟨_,o,ho,_⟩:=I.ok.funs.mem hb
 exact absurd (Nat.lt_of_lt_of_le (Heap.lt_size ho) (Nat.le_trans I.sz h)) (Nat.lt_irrefl _)
theorem Inv.cne (I:Inv X pins σ H s):∀x c,X.env.cells.lookup x=some c->c≠X.env.locals:=fun x c e z=>by
 obtain ⟨v,o,ho,hd⟩:=I.cell x c e
 obtain ⟨m,⟨o',es,ep,ho',hd',_⟩,_⟩:=I.loc
 rw [z,ho'] at ho;cases ho;rw [hd'] at hd;cases hd
theorem Inv.funs (I:Inv X pins σ H s):s.heap.FunFrames X.base X.outer:=by
 have all:∀(l:List Env),(∀b∈frs l,b∈X.fs)->X.s₀.heap.FunFrames X.base l->s.heap.FunFrames X.base l:=by
  intro l
  induction l with
  | nil=>intro _ _;trivial
  | cons env r ih=>
   intro hs hl
   obtain ⟨hk,⟨L,o,hf,hn,ho,hd⟩,hr⟩:=hl
   have hL:L∈X.fs:=hs L (by unfold frs;rw [List.filterMap_cons,hf];exact mem_cons_self)
   obtain ⟨sl,e⟩:=I.base.slot L o ho (I.ok.frf L hL) hL fun z=>I.ok.exfs L z hL
   exact ⟨hk,⟨L,_,hf,hn,e,hd⟩,ih (fun b hb=>hs b (by unfold frs;rw [List.filterMap_cons,hf];exact mem_cons_of_mem _ hb)) hr⟩
 exact all X.outer (fun _ hb=>hb) I.ok.funs
theorem Inv.stack (I:Inv X pins σ H s):s.heap.FunFrames X.base X.stack:=by
 rcases I.ok.stk with e | ⟨e,hf⟩
 ·rw [e];exact I.funs
 ·rw [e]
  obtain ⟨m,hn,_⟩:=I.loc
  refine .cons (by rw [I.ok.kind];decide) hf hn ?_ I.funs
  exact Heap.get?_none_of_le (Nat.le_trans I.ok.bsz I.ok.above)
theorem Inv.stkSub (I:Inv X pins σ H s):∀b∈frs X.stack,b∈X.env.locals::X.fs:=fun b hb=>by
 rcases I.ok.stk with e | ⟨e,hf⟩
 ·rw [e] at hb;exact mem_cons_of_mem _ hb
 ·rw [e] at hb
  unfold frs at hb
  rw [List.filterMap_cons,hf] at hb
  exact hb
theorem Inv.stkFree (I:Inv X pins σ H s):∀b∈frs X.stack,H b=none:=fun b hb=>by
 rcases List.mem_cons.mp (I.stkSub b hb) with e | hb
 ·rw [e];exact I.free
 ·obtain ⟨_,o,ho,_⟩:=I.ok.funs.mem hb
  exact I.base.free b o ho (I.ok.frf b hb) fun z=>I.ok.exfs b z hb
theorem Inv.step {g':Array GenState} {t':Nat} {d':Drawn} {ch:List Addr} (I:Inv X pins σ H s)
  (hch:∀b∈ch,(b∈X.ex\/X.s₀.heap.objs.size<=b)/\b≠X.env.locals/\(∀x c,X.env.cells.lookup x=some c->c≠b)/\∀p∈X.pn++pins,p.1≠b)
  (keep:∀b o,b≠X.env.locals->b∉X.fs->b∉ch->s.heap.get? b=some o->H b=none->h'.get? b=some o)
  (slot:∀b o,b≠X.env.locals->b∈X.fs->b∉ch->s.heap.get? b=some o->H b=none->∃sl,h'.get? b=some { o with slots:=sl }) (free:∀b o,b∉ch->s.heap.get? b=some o->H b=none->H' b=none)
  (there:∀b o,b∉ch->s.heap.get? b=some o->∃o',h'.get? b=some o')
  (tups:∀b xs,H b=some (.tup xs)->H' b=some (.tup xs)) (frzs:∀b o u,H b=some (.frz o u)->H' b=some (.frz o u)) (tbls:∀b ps,H b=some (.tbl ps)->∃more,H' b=some (.tbl (ps++more)))
  (ns:∀m,s.heap.Ns X.env.locals m->h'.Ns X.env.locals m) (hok:HOk X.prog X.w H' h') (hg:AllBare g') :
  Inv X pins σ H' { s with heap:=h',gens:=g',drawn:=d',toks:=t' }:=by
 have neL:∀b o,X.s₀.heap.get? b=some o->b≠X.env.locals:=fun b o e=>Nat.ne_of_lt (Nat.lt_of_lt_of_le (Heap.lt_size e) I.ok.above)
 have neC:∀b o,X.s₀.heap.get? b=some o->b∉X.ex->b∉ch:=fun b o e hx hb=>by
  rcases (hch b hb).1 with z | z
  ·exact hx z
  ·exact absurd (Nat.lt_of_lt_of_le (Heap.lt_size e) z) (Nat.lt_irrefl _)
 have cellK:∀x c,X.env.cells.lookup x=some c->∀v,s.heap.IsCell c v->h'.IsCell c v:=fun x c e v ⟨o,ho,hd⟩=>by
  have nch:c∉ch:=fun z=>(hch c z).2.2.1 x c e rfl
  by_cases hc:c∈X.fs
  ·obtain ⟨sl,q⟩:=slot c o (I.cne x c e) hc nch ho (I.freeC x c e)
   exact ⟨_,q,hd⟩
  ·exact ⟨o,keep c o (I.cne x c e) hc nch ho (I.freeC x c e),hd⟩
 refine ⟨I.ok,I.os,hg,⟨fun b o e n hb hx=>?_,fun b o e n hb hx=>?_,fun b o e n hx=>?_,fun b o e hx=>?_,fun b xs e=>tups b xs (I.base.tups b xs e),fun b o xs e=>frzs b o xs (I.base.frzs b o xs e),fun b ps e=>?_⟩,?_,fun x c e=>?_,?_,fun x c e=>?_,fun p hp=>?_,hok,I.len⟩
 ·exact keep b o (neL b o e) hb (neC b o e hx) (I.base.keep b o e n hb hx) (I.base.free b o e n hx)
 ·obtain ⟨sl,e1⟩:=I.base.slot b o e n hb hx
  obtain ⟨sl',e2⟩:=slot b _ (neL b o e) hb (neC b o e hx) e1 (I.base.free b o e n hx)
  exact ⟨sl',e2⟩
 ·obtain ⟨o',e1⟩:=I.base.there b o e hx
  exact free b o' (neC b o e hx) e1 (I.base.free b o e n hx)
 ·obtain ⟨o',e1⟩:=I.base.there b o e hx
  exact there b o' (neC b o e hx) e1
 ·obtain ⟨m1,e1⟩:=I.base.tbls b ps e
  obtain ⟨m2,e2⟩:=tbls b _ e1
  exact ⟨m1++m2,by rw [e2,Array.append_assoc]⟩
 ·obtain ⟨m,hn,hl⟩:=I.loc
  refine ⟨m,ns m hn,fun i x v e1 e2 e3=>?_⟩
  obtain ⟨u,r,l⟩:=hl i x v e1 e2 e3
  refine ⟨u,r,?_⟩
  rcases l with l | ⟨k,c,e,z⟩
  ·exact .inl l
  ·exact .inr ⟨k,c,e,cellK x c e _ z⟩
 ·obtain ⟨v,z⟩:=I.cell x c e
  exact ⟨v,cellK x c e v z⟩
 ·obtain ⟨m,⟨o,_,_,ho,_⟩,_⟩:=I.loc
  exact free _ o (fun z=>(hch _ z).2.1 rfl) ho I.free
 ·obtain ⟨v,o,ho,hd⟩:=I.cell x c e
  exact free c o (fun z=>(hch c z).2.2.1 x c e rfl) ho (I.freeC x c e)
 ·obtain ⟨e,n,ne,nf,d⟩:=I.pin p hp
  have nch:p.1∉ch:=fun z=>(hch p.1 z).2.2.2 p hp rfl
  exact ⟨keep p.1 p.2 ne nf nch e n,free p.1 p.2 nch e n,ne,nf,d⟩
theorem Inv.un {t':Nat} (I:Inv X pins σ H s) (u:Un X.fs [] H H' s.heap h') (hok:HOk X.prog X.w H' h'):Inv X pins σ H' { s with heap:=h',toks:=t' }:=by
 obtain ⟨m,⟨o,es,ep,ho,r⟩,_⟩:=id I.loc
 obtain ⟨sl,hL⟩:=u.any ho I.free (by simp)
 exact I.step (g':=s.gens) (d':=s.drawn) (ch:=[]) (fun _ z=>nomatch z) (fun b o _ hb _ e n=>u.keep b o e n hb (by simp)) (fun b o _ hb _ e n=>u.slot b o e n hb (by simp)) (fun b o _ e n=>u.free b o e n (by simp)) (fun b o _ e=>u.there b o e (by simp)) u.tups u.frzs u.tbls (fun m' hm=>by
  obtain ⟨o',es',ep',ho',r'⟩:=hm
  rw [ho] at ho';cases ho'
  exact ⟨_,es',ep',hL,r'⟩) hok I.bare
theorem Inv.call {g':Array GenState} {t':Nat} {d':Drawn} {ch:List Addr} (I:Inv X pins σ H s) (u:Un (frs X.stack) ch H H' s.heap h') (hok:HOk X.prog X.w H' h') (hg:AllBare g')
  (hch:∀b∈ch,(b∈X.ex\/X.s₀.heap.objs.size<=b)/\b≠X.env.locals/\(∀x c,X.env.cells.lookup x=some c->c≠b)/\∀p∈X.pn++pins,p.1≠b) :
  Inv X pins σ H' { s with heap:=h',gens:=g',drawn:=d',toks:=t' }:=by
 obtain ⟨m,⟨o,es,ep,ho,r⟩,_⟩:=id I.loc
 obtain ⟨sl,hL⟩:=u.any ho I.free fun z=>(hch _ z).2.1 rfl
 exact I.step (ch:=ch) hch (fun b o hL hb hc e n=>u.keep b o e n (fun z=>(List.mem_cons.mp (I.stkSub b z)).elim hL hb) hc) (fun b o _ _ hc e n=>u.any e n hc) (fun b o hc e n=>u.free b o e n hc) (fun b o hc e=>u.there b o e hc) u.tups u.frzs u.tbls (fun m' hm=>by
  obtain ⟨o',es',ep',ho',r'⟩:=hm
  rw [ho] at ho';cases ho'
  exact ⟨_,es',ep',hL,r'⟩) hok hg
theorem Inv.turned {t':Nat} {it:Addr} (I:Inv X pins σ H s) (k:∀b o,b≠it->s.heap.get? b=some o->h'.get? b=some o) (hn:H it=none) (hL:it≠X.env.locals)
  (h1:it∈X.ex\/X.s₀.heap.objs.size<=it) (h2:∀x c,X.env.cells.lookup x=some c->c≠it) (h3:∀p∈X.pn++pins,p.1≠it):Inv X pins σ H { s with heap:=h',toks:=t' }:=by
 have nit:∀b u,H b=some u->b≠it:=fun b u e z=>by rw [z,hn] at e;cases e
 refine I.step (g':=s.gens) (d':=s.drawn) (ch:=[it]) (fun b hb=>?_) (fun b o _ _ hc e _=>k b o (fun z=>hc (by simp [z])) e) (fun b o _ _ hc e _=>⟨o.slots,k b o (fun z=>hc (by simp [z])) e⟩) (fun _ _ _ _ n=>n)
  (fun b o hc e=>⟨o,k b o (fun z=>hc (by simp [z])) e⟩) (fun _ _ e=>e) (fun _ _ _ e=>e) (fun b ps e=>⟨#[],by rw [e];simp⟩) (fun m hm=>?_) (fun b u e=>?_) I.bare
 ·have e:b=it:=by simpa using hb
  subst e
  exact ⟨h1,hL,h2,h3⟩
 ·obtain ⟨o,es,ep,ho,r⟩:=hm
  exact ⟨o,es,ep,k _ o (Ne.symm hL) ho,r⟩
 ·refine (I.hok b u e).stay (fun c v hc q=>k c v ?_ q) (fun _ q=>q) fun _ _ q=>q
  rcases hc with z | z
  ·rw [z];exact nit b u e
  ·exact nit c _ z
theorem Inv.tok (I:Inv X pins σ H s) (t:Nat):Inv X pins σ H { s with toks:=t }:=I.un (h':=s.heap) (t':=t) Un.refl I.hok
theorem Inv.kept {t':Nat} (I:Inv X pins σ H s) (k:∀b u,s.heap.get? b=some u->h'.get? b=some u):Inv X pins σ H { s with heap:=h',toks:=t' }:=I.un (Un.kept k) (I.hok.kept k)
theorem Inv.laid {a:Addr} {o:HO} {t':Nat} (I:Inv X pins σ H s) (k:∀b u,s.heap.get? b=some u->h'.get? b=some u) (hp:s.heap.objs.size<=a) (new:ObjOk X.prog X.w (upd H a o) h' a o) :
  Inv X pins σ (upd H a o) { s with heap:=h',toks:=t' }:=I.un (Un.laid k hp (I.hok.fresh hp)) (I.hok.laid k hp new)
theorem Inv.write {x e:Addr} {o:HO} {t':Nat} (I:Inv X pins σ H s) (mu:Mut (H x)) (he:e=x\/H e=some (.own x)) (k:∀b u,b≠e->s.heap.get? b=some u->h'.get? b=some u) (heo:∃u,h'.get? e=some u)
  (new:ObjOk X.prog X.w (upd H x o) h' x o):Inv X pins σ (upd H x o) { s with heap:=h',toks:=t' }:=I.un (Un.write mu he k heo) (I.hok.write mu he k heo new)
theorem Inv.weak {σ':List (Option V)} (I:Inv X pins σ H s) (hl:σ'.length=σ.length) (w:∀(i:Nat) v,σ'[i]?=some (some v)->σ[i]?=some (some v)):Inv X pins σ' H s:=
 ⟨I.ok,I.os,I.bare,I.base,let ⟨m,hn,hl'⟩:=I.loc;⟨m,hn,fun i x v e1 e2 e3=>hl' i x v e1 (w i v e2) e3⟩,I.cell,I.free,I.freeC,I.pin,I.hok,hl.trans I.len⟩
theorem Inv.pins_of {pins':List (Addr×Obj)} (I:Inv X pins σ H s) (h:∀p∈pins',s.heap.get? p.1=some p.2/\H p.1=none/\p.1≠X.env.locals/\p.1∉X.fs/\∀v,p.2.data≠.cell v):Inv X pins' σ H s:=
 ⟨I.ok,I.os,I.bare,I.base,I.loc,I.cell,I.free,I.freeC,fun p hp=>(List.mem_append.mp hp).elim (fun z=>I.pin p (mem_append_left _ z)) (h p),I.hok,I.len⟩
theorem nodup_ix {N:List Str} (hN:N.Nodup) {i j:Nat} {x:Str} (a:N[i]?=some x) (b:N[j]?=some x):i=j:=by
 obtain ⟨h1,e1⟩:=List.getElem?_eq_some_iff.mp a
 obtain ⟨h2,e2⟩:=List.getElem?_eq_some_iff.mp b
 exact (List.getElem_inj hN).mp (e1.trans e2.symm)
theorem store_ok2 {M:Model} {A:Around} {E:Value->Shared->Prop} {i:Nat} {x:Str} {v:V} {u:Value} {Q:Unit->Shared->Prop} (I:Inv X pins σ H s) (hN:X.N.Nodup) (hi:X.N[i]?=some x) (hx:Loc X.env.scope x) (r:RelV v u)
  (h:∀s',Inv X pins (σ.set i (some v)) H s'->(∃a,Heap.SameBut a s.heap s'.heap/\(a=X.env.locals\/X.env.cells.lookup x=some a))->Q () s') (hf:X.fn x=true\/X.env.scope.names.lookup x=some .local:=by first | exact .inl rfl | exact .inr rfl | assumption):wpAny M A (storeName X.env x u) Q E s:=by
 obtain ⟨m,hn,hl⟩:=id I.loc
 have hcls:(X.env.scope.kind==.class||(X.env.scope.kind==.module&&X.env.locals != X.env.globals))=false:=by rw [I.ok.kind];rfl
 have hiσ:i<σ.length:=by rw [I.len];exact (List.getElem?_eq_some_iff.mp hi).1
 have cne:=I.cne
 have tracked:∀{a:Addr} {h':Heap},(∃o,s.heap.get? a=some o/\H a=none)->Heap.SameBut a s.heap h'->HOk X.prog X.w H h':=fun {a h'} ha hs b ob e=>by
  obtain ⟨_,_,hfree⟩:=ha
  refine (I.hok b ob e).stay (fun c w' hc q=>(hs.2 c ?_).trans q) (fun _ q=>q) fun _ _ q=>q
  rintro rfl
  rcases hc with rfl | hc
  ·rw [hfree] at e;cases e
  ·rw [hfree] at hc;cases hc
 rcases hx with hk | hk
 ·refine wpAny_storeName_local hk hn (fun h' hn' hs=>?_) hcls
  obtain ⟨oL,_,_,hoL,_⟩:=id hn
  refine h _ ⟨I.ok,I.os,I.bare,⟨fun b o e n hb hx=>?_,fun b o e n hb hx=>?_,I.base.free,fun b o e hx=>?_,I.base.tups,I.base.frzs,I.base.tbls⟩,⟨_,hn',fun j y v' e1 e2 e3=>?_⟩,fun y c e=>?_,I.free,I.freeC,fun p hp=>?_,tracked ⟨oL,hoL,I.free⟩ hs,by simpa using I.len⟩ ⟨_,hs,.inl rfl⟩
  ·exact (hs.2 b (Nat.ne_of_lt (Nat.lt_of_lt_of_le (Heap.lt_size e) I.ok.above))).trans (I.base.keep b o e n hb hx)
  ·obtain ⟨sl,e1⟩:=I.base.slot b o e n hb hx
   exact ⟨sl,(hs.2 b (Nat.ne_of_lt (Nat.lt_of_lt_of_le (Heap.lt_size e) I.ok.above))).trans e1⟩
  ·obtain ⟨o',e1⟩:=I.base.there b o e hx
   exact ⟨o',(hs.2 b (Nat.ne_of_lt (Nat.lt_of_lt_of_le (Heap.lt_size e) I.ok.above))).trans e1⟩
  ·by_cases hj:j=i
   ·subst hj
    rw [hi] at e1;cases e1
    rw [getElem?_set_self hiσ] at e2
    cases e2
    exact ⟨u,r,.inl ⟨hk,by simp⟩⟩
   ·rw [getElem?_set_ne (Ne.symm hj)] at e2
    obtain ⟨u',r',q⟩:=hl j y v' e1 e2 e3
    refine ⟨u',r',?_⟩
    rcases q with ⟨k,e⟩ | ⟨k,c,e,z⟩
    ·refine .inl ⟨k,?_⟩
     have:y≠x:=fun e=>hj (nodup_ix hN e1 (e▸hi))
     simp [this,e]
    ·exact .inr ⟨k,c,e,z.sameBut hs (cne y c e)⟩
  ·obtain ⟨w',z⟩:=I.cell y c e
   exact ⟨w',z.sameBut hs (cne y c e)⟩
  ·obtain ⟨e,n,ne,nf,d⟩:=I.pin p hp
   exact ⟨(hs.2 p.1 ne).trans e,n,ne,nf,d⟩
 ·have hfn:X.fn x=true:=by
   rcases hf with z | z
   ·exact z
   ·rw [z] at hk;cases hk
  obtain ⟨c,hc⟩:=I.ok.has x (.inl hk)
  obtain ⟨w',z⟩:=I.cell x c hc
  refine wpAny_storeName_cell I.ok.kind hk hc z (fun h' hc' hs=>?_)
  obtain ⟨oc,hoc,hocd⟩:=id z
  refine h { s with heap:=h' } ⟨I.ok,I.os,I.bare,⟨fun b o e n hb hx=>?_,fun b o e n hb hx=>?_,I.base.free,fun b o e hx=>?_,I.base.tups,I.base.frzs,I.base.tbls⟩,⟨m,hn.sameBut hs (Ne.symm (cne x c hc)),fun j y v' e1 e2 e3=>?_⟩,fun y c' e=>?_,I.free,I.freeC,fun p hp=>?_,tracked ⟨oc,hoc,I.freeC x c hc⟩ hs,by simpa using I.len⟩ ⟨c,hs,.inr hc⟩
  ·exact (hs.2 b (Nat.ne_of_lt (Nat.lt_of_lt_of_le (Heap.lt_size e) (I.ok.cab x c hfn hc)))).trans (I.base.keep b o e n hb hx)
  ·obtain ⟨sl,e1⟩:=I.base.slot b o e n hb hx
   exact ⟨sl,(hs.2 b (Nat.ne_of_lt (Nat.lt_of_lt_of_le (Heap.lt_size e) (I.ok.cab x c hfn hc)))).trans e1⟩
  ·obtain ⟨o',e1⟩:=I.base.there b o e hx
   exact ⟨o',(hs.2 b (Nat.ne_of_lt (Nat.lt_of_lt_of_le (Heap.lt_size e) (I.ok.cab x c hfn hc)))).trans e1⟩
  ·by_cases hj:j=i
   ·subst hj
    rw [hi] at e1;cases e1
    rw [getElem?_set_self hiσ] at e2
    cases e2
    exact ⟨u,r,.inr ⟨.inl hk,c,hc,hc'⟩⟩
   ·rw [getElem?_set_ne (Ne.symm hj)] at e2
    obtain ⟨u',r',q⟩:=hl j y v' e1 e2 e3
    refine ⟨u',r',?_⟩
    rcases q with q | ⟨k,c',e,z'⟩
    ·exact .inl q
    ·refine .inr ⟨k,c',e,z'.sameBut hs ?_⟩
     rintro rfl
     exact hj (nodup_ix hN e1 (I.ok.inj _ _ _ e hc▸hi))
  ·by_cases hcc:c'=c
   ·subst hcc;exact ⟨_,hc'⟩
   ·obtain ⟨w2,z2⟩:=I.cell y c' e
    exact ⟨w2,z2.sameBut hs hcc⟩
  ·obtain ⟨e,n,ne,nf,d⟩:=I.pin p hp
   refine ⟨(hs.2 p.1 ?_).trans e,n,ne,nf,d⟩
   intro q
   rw [q,hoc] at e
   have q':oc=p.2:=Option.some.inj e
   exact d w' (by rw [<-q'];exact hocd)
theorem zIV {M:Model} {A:Around} {E:Value->Shared->Prop} {i:Nat} {x:Str} {v:V} {u:Value} {Q:Unit->Shared->Prop} (I:Inv X pins σ H s) (hN:X.N.Nodup) (hi:X.N[i]?=some x) (hx:Loc X.env.scope x) (r:RelV v u)
  (h:∀s',Inv X pins (σ.set i (some v)) H s'->Q () s') (hf:X.fn x=true\/X.env.scope.names.lookup x=some .local:=by first | exact .inl rfl | exact .inr rfl | assumption):wpAny M A (storeName X.env x u) Q E s:=
 store_ok2 I hN hi hx r (fun s' I' _=>h s' I') hf
theorem Inv.call' {s':Shared} {ch:List Addr} (I:Inv X pins σ H s) (ho:s'.os=s.os) (u:Un (frs X.stack) ch H H' s.heap s'.heap) (hok:HOk X.prog X.w H' s'.heap) (hg:AllBare s'.gens)
  (hch:∀b∈ch,(b∈X.ex\/X.s₀.heap.objs.size<=b)/\b≠X.env.locals/\(∀x c,X.env.cells.lookup x=some c->c≠b)/\∀p∈X.pn++pins,p.1≠b):Inv X pins σ H' s':=by
 obtain ⟨h',g',d',t',o'⟩:=s'
 have e:o'=s.os:=ho
 subst e
 exact I.call (g':=g') (t':=t') (d':=d') u hok hg hch
end
abbrev XK:=Value->Option Addr->Hp->Prop
abbrev St:=List (Option V)
abbrev VK:=V->Hp->Prop
abbrev TE:=St->Hp->VK->Prop
abbrev TT:=St->Hp->(Bool->Hp->Prop)->Prop
abbrev TA:=St->Hp->(List V->Hp->Prop)->Prop
structure Ends where
 nx:St->Hp->Prop
 rt:VK
 bk:St->Hp->Prop:=fun _ _=>False
 ct:St->Hp->Prop:=fun _ _=>False
abbrev TS:=Ends->St->Hp->Prop
def EP (X:Cx) (pins:List (Addr×Obj)) (σ:St) (Q:VK) (u:Value) (s':Shared):Prop:=∃v H',Inv X pins σ H' s'/\RelV v u/\Q v H'
def TP (X:Cx) (pins:List (Addr×Obj)) (σ:St) (Q:Bool->Hp->Prop) (b:Bool) (s':Shared):Prop:=∃H',Inv X pins σ H' s'/\Q b H'
def AP (X:Cx) (pins:List (Addr×Obj)) (σ:St) (Q:List V->Hp->Prop) (us:List Value) (s':Shared):Prop:=∃vs H',Inv X pins σ H' s'/\Vals vs us/\Q vs H'
def SP (X:Cx) (pins:List (Addr×Obj)) (D:Ends) (f:Flow) (s':Shared):Prop:=
 match f with
 | .next=>∃σ' H',Inv X pins σ' H' s'/\D.nx σ' H'
 | .brk=>∃σ' H',Inv X pins σ' H' s'/\D.bk σ' H'
 | .cont=>∃σ' H',Inv X pins σ' H' s'/\D.ct σ' H'
 | .ret u=>∃v σ' H',Inv X pins σ' H' s'/\RelV v u/\D.rt v H'
def PE (X:Cx) (e:Expr) (t:TE):Prop:=
 ∀(pins:List (Addr×Obj)) (s:Shared) (σ:St) (H:Hp) (Q:VK),Inv X pins σ H s->t σ H Q->wpAny (model X.prog X.w) X.A (eval e X.env) (EP X pins σ Q) X.xe s
def PT (X:Cx) (e:Expr) (t:TT):Prop:=
 ∀(pins:List (Addr×Obj)) (s:Shared) (σ:St) (H:Hp) (Q:Bool->Hp->Prop),Inv X pins σ H s->t σ H Q->wpAny (model X.prog X.w) X.A (isTrue e X.env (eval e X.env)) (TP X pins σ Q) X.xe s
def PW (X:Cx) (e:Expr) (t:TT):Prop:=
 ∀(whole:Sem Value) (pins:List (Addr×Obj)) (s:Shared) (σ:St) (H:Hp) (Q:Bool->Hp->Prop),Inv X pins σ H s->t σ H Q->wpAny (model X.prog X.w) X.A (isTrue e X.env whole) (TP X pins σ Q) X.xe s
theorem PW.pt {X:Cx} {e:Expr} {t:TT} (h:PW X e t):PT X e t:=h _
def PA (X:Cx) (es:List Expr) (t:TA):Prop:=
 ∀(pos:Pos) (pins:List (Addr×Obj)) (s:Shared) (σ:St) (H:Hp) (Q:List V->Hp->Prop),Inv X pins σ H s->t σ H Q->wpAny (model X.prog X.w) X.A (spliced (backTo pos (starEach es X.env))) (AP X pins σ Q) X.xe s
def PS (X:Cx) (st:Stmt) (t:TS):Prop:=
 ∀(pins:List (Addr×Obj)) (s:Shared) (σ:St) (H:Hp) (D:Ends),Inv X pins σ H s->t D σ H->wpAny (model X.prog X.w) X.A (exec st X.env) (SP X pins D) X.xe s
def PSs (X:Cx) (st:List Stmt) (t:TS):Prop:=
 ∀(pins:List (Addr×Obj)) (s:Shared) (σ:St) (H:Hp) (D:Ends),Inv X pins σ H s->t D σ H->wpAny (model X.prog X.w) X.A (execs st X.env) (SP X pins D) X.xe s
theorem thn {α:Type} {t:Sem α} {Q Q':α->Shared->Prop} {M:Model} {A:Around} {E:Value->Shared->Prop} {s:Shared} (h:wpAny M A t Q E s) (hQ:∀a s,Q a s->Q' a s):wpAny M A t Q' E s:=wpAny_mono h hQ fun _ _ x=>x
section
variable {X:Cx}
def tVar (i:Nat):TE:=fun σ H Q=>∃v,σ[i]?=some (some v)/\Q v H
def tC (v:V):TE:=fun _ H Q=>Q v H
theorem zIP {i:Nat} {x:Str} {pos:Pos} (hN:X.N[i]?=some x) (hv:Vis X.env.scope x) (hd:(x==("__debug__":Str))=false:=by decide) (hcd:(x==("__classdict__":Str))=false:=by decide):PE X (.Name x pos) (tVar i):=by
 intro pins s σ H Q I h
 obtain ⟨v,e,h⟩:=h
 obtain ⟨m,hn,hl⟩:=I.loc
 obtain ⟨u,r,l⟩:=hl i x v hN e hv
 have fin:EP X pins σ Q u s:=⟨v,H,I,r,h⟩
 rcases l with ⟨hk,hm⟩ | ⟨hk,c,hc,hcell⟩
 ·exact wpAny_Name (wpAny_loadName_local I.ok.kind hk hn hm fin) hd
 ·rcases hk with hk | hk
  ·exact wpAny_Name (wpAny_loadName_cell I.ok.kind hk hc hcell fin) hd
  ·exact wpAny_Name (wpAny_loadName_free I.ok.kind hk hc hcell fin hcd) hd
theorem pe_int {i j pos}:PE X (.Constant (.int i) j pos) (tC (.int i)):=fun _ _ _ H _ I h=>wpAny_Constant_int ⟨.int i,H,I.tok _,⟨_,rfl⟩,h⟩
theorem pe_bl {b j pos}:PE X (.Constant (.bool b) j pos) (tC (.bl b)):=fun _ _ _ H _ I h=>Constant_bool ⟨.bl b,H,I,rfl,h⟩
theorem pe_non {j pos}:PE X (.Constant .none j pos) (tC .non):=fun _ _ _ H _ I h=>Constant_none ⟨.non,H,I,rfl,h⟩
theorem pe_str {x j pos}:PE X (.Constant (.str x) j pos) (tC (.str x)):=fun _ _ _ H _ I h=>Calls.Constant_str ⟨.str x,H,I.tok _,⟨_,rfl⟩,h⟩
def Gl (X:Cx) (x:Str):Prop:=X.env.kindOf x=some .globalImplicit
theorem ld_glob {E:Value->Shared->Prop} {pins:List (Addr×Obj)} {s:Shared} {σ:St} {H:Hp} {x:Str} {u:Value} {pos:Pos} {Q:Value->Shared->Prop} (I:Inv X pins σ H s) (hg:Gl X x) (hm:X.mg x=some u) (h:Q u s)
  (hd:(x==("__debug__":Str))=false:=by decide):wpAny (model X.prog X.w) X.A (eval (.Name x pos) X.env) Q E s:=
 Calls.Name_function_global I.ok.kind hg (Calls.loadGlobal_global (by rw [I.ok.glob];exact I.mod.glob.keeps I.bk) hm h) hd
theorem zGL {E:Value->Shared->Prop} {pins:List (Addr×Obj)} {s:Shared} {σ:St} {H:Hp} {x:Str} {u:Value} {pos:Pos} {Q:Value->Shared->Prop} (I:Inv X pins σ H s) (hg:Gl X x) (hm:X.mg x=none) (hv:bootBuiltins x=some u) (h:Q u s)
  (hn:x ≠ "__name__":=by decide) (hd:(x==("__debug__":Str))=false:=by decide):wpAny (model X.prog X.w) X.A (eval (.Name x pos) X.env) Q E s:=by
 obtain ⟨mb,h1,h2⟩:=I.mod.blt
 exact Calls.Name_function_global I.ok.kind hg (Calls.loadGlobal_builtin (by rw [I.ok.glob];exact I.mod.glob.keeps I.bk) hm (by rw [I.ok.blt];exact h1.keeps I.bk) ((h2 x hn).trans hv) h) hd
theorem pe_glob {x:Str} {v:V} {u:Value} {pos:Pos} (hg:Gl X x) (hm:X.mg x=some u) (r:RelV v u) (hd:(x==("__debug__":Str))=false:=by decide):PE X (.Name x pos) (tC v):=
 fun _ _ _ H _ I h=>ld_glob I hg hm ⟨v,H,I,r,h⟩ hd
variable {a b:Expr} {ta tb:TE} {pos:Pos}
variable {tA tB':TT} {rest:List Expr}
def tAnd (t u:TT):TT:=fun σ H Q=>t σ H fun c H1=>if c=true then u σ H1 Q else Q false H1
def tOr (t u:TT):TT:=fun σ H Q=>t σ H fun c H1=>if c=true then Q true H1 else u σ H1 Q
def tNot (t:TT):TT:=fun σ H Q=>t σ H fun c H1=>Q (!c) H1
theorem pw_and1 (ha:PT X a tA):PW X (.BoolOp .And [a] pos) tA:=by
 intro wh pins s σ H Q I h
 refine isTrue_and (thn (ha pins s σ H Q I h) fun c s1 e=>?_)
 cases c with
 | true=>exact isTrue_and_nil e
 | false=>exact e
theorem pw_or1 (ha:PT X a tA):PW X (.BoolOp .Or [a] pos) tA:=by
 intro wh pins s σ H Q I h
 refine isTrue_or (thn (ha pins s σ H Q I h) fun c s1 e=>?_)
 cases c with
 | false=>exact isTrue_or_nil e
 | true=>exact e
theorem pw_and (ha:PT X a tA) (hb:PW X (.BoolOp .And (b::rest) pos) tB'):PW X (.BoolOp .And (a::b::rest) pos) (tAnd tA tB'):=by
 intro wh pins s σ H Q I h
 refine isTrue_and (thn (ha pins s σ H _ I h) fun c s1 ⟨H1,I1,q1⟩=>?_)
 cases c with
 | true=>exact hb wh pins s1 σ H1 Q I1 q1
 | false=>exact ⟨H1,I1,q1⟩
theorem pw_or (ha:PT X a tA) (hb:PW X (.BoolOp .Or (b::rest) pos) tB'):PW X (.BoolOp .Or (a::b::rest) pos) (tOr tA tB'):=by
 intro wh pins s σ H Q I h
 refine isTrue_or (thn (ha pins s σ H _ I h) fun c s1 ⟨H1,I1,q1⟩=>?_)
 cases c with
 | true=>exact ⟨H1,I1,q1⟩
 | false=>exact hb wh pins s1 σ H1 Q I1 q1
theorem pt_not (ha:PT X a tA):PT X (.UnaryOp .Not a pos) (tNot tA):=by
 intro pins s σ H Q I h
 exact isTrue_not (ha pins s σ H (fun c H1=>Q (!c) H1) I h)
def tAndV (ta tb:TE):TE:=fun σ H Q=>ta σ H fun x H1=>∃c,x=.bl c/\if c=true then tb σ H1 Q else Q (.bl false) H1
theorem pe_one {op} {t:TE} (h:PE X a t):PE X (.BoolOp op [a] pos) t:=fun pins s σ H Q I hw=>BoolOp_one (h pins s σ H Q I hw)
theorem pe_and (ha:PE X a ta) (hb:PE X (.BoolOp .And (b::rest) pos) tb):PE X (.BoolOp .And (a::b::rest) pos) (tAndV ta tb):=by
 intro pins s σ H Q I h
 refine BoolOp_and (thn (ha pins s σ H _ I h) fun v s1 ⟨x,H1,I1,r1,q1⟩=>?_)
 obtain ⟨c,rfl,q1⟩:=q1
 cases r1
 refine wpAny_truthy_bool ?_
 cases c with
 | true=>exact hb pins s1 σ H1 Q I1 q1
 | false=>exact ⟨.bl false,H1,I1,rfl,q1⟩
def tIf (t:TT) (ta tb:TE):TE:=fun σ H Q=>t σ H fun c H1=>if c=true then ta σ H1 Q else tb σ H1 Q
theorem pe_ifExp {c:Expr} (hc:PT X c tA) (ha:PE X a ta) (hb:PE X b tb):PE X (.IfExp c a b pos) (tIf tA ta tb):=by
 intro pins s σ H Q I h
 refine wpAny_IfExp (thn (hc pins s σ H _ I h) fun d s1 ⟨H1,I1,q1⟩=>?_)
 cases d with
 | true=>exact ha pins s1 σ H1 Q I1 q1
 | false=>exact hb pins s1 σ H1 Q I1 q1
end
def SqL (K:Fg) (H:Hp) (a:Addr) (xs:List V):Prop:=
 Rd H a (.lst xs) \/
  ∃(o:Obj) (its:Array Value) (n:Nat),K.lookup a=some o/\o.cls=.type "list"/\o.dict=none/\o.data=.seq its n/\its.size<=sizeLine/\Vals xs its.toList
def SqT (K:Fg) (H:Hp) (a:Addr) (xs:List V):Prop:=
 Rd H a (.tup xs) \/
  ∃(o:Obj) (its:Array Value) (n:Nat),K.lookup a=some o/\o.cls=.type "tuple"/\o.data=.seq its n/\its.size<=sizeLine/\Vals xs its.toList
def absV:Value->Option V
 | .none=>some .non
 | .bool b=>some (.bl b)
 | .int i _=>some (.int i)
 | .str x _=>some (.str x)
 | .bytes b _=>some (.byt b)
 | .float b _=>some (.flt b)
 | .ref a=>some (.ref a)
 | .type n=>some (.ty n)
 | _=>none
theorem RelV.abs {x:V} {u:Value} (r:RelV x u):absV u=some x:=by
 cases x with
 | non=>cases r;rfl
 | bl _=>cases r;rfl
 | int _=>obtain ⟨t,rfl⟩:=r;rfl
 | str _=>obtain ⟨t,rfl⟩:=r;rfl
 | byt _=>obtain ⟨t,rfl⟩:=r;rfl
 | flt _=>obtain ⟨t,rfl⟩:=r;rfl
 | ref _=>cases r;rfl
 | ty _=>cases r;rfl
theorem RelV.inj {x y:V} {u:Value} (r:RelV x u) (q:RelV y u):x=y:=Option.some.inj (r.abs.symm.trans q.abs)
theorem Vals.inj:∀{xs ys:List V} {us:List Value},Vals xs us->Vals ys us->xs=ys
 | _,_,_,.nil,.nil=>rfl
 | _,_,_,.cons r t,.cons r' t'=>by rw [r.inj r',Vals.inj t t']
section
variable {X:Cx} {pins:List (Addr×Obj)} {σ:St} {H:Hp} {s:Shared} {a:Addr} {xs ys:List V}
theorem SqL.of {K:Fg} (h:H a=some (.lst xs)):SqL K H a xs:=.inl (.inl h)
theorem SqT.of {K:Fg} (h:H a=some (.tup xs)):SqT K H a xs:=.inl (.inl h)
theorem Inv.list (I:Inv X pins σ H s) (h:SqL X.K H a xs):∃its:List Value,Vals xs its/\PlainL s.heap a its.toArray/\xs.length<=sizeLine:=by
 rcases h with h | ⟨o,its,n,hk,hc,hd,hs,hz,r⟩
 ·obtain ⟨z,its,n,r,e⟩:=h.ok I.hok
  exact ⟨its,r,⟨_,n,e,rfl,rfl,rfl⟩,z⟩
 ·refine ⟨its.toList,r,⟨o,n,I.kIn a o hk,hc,hd,by simpa using hs⟩,?_⟩
  have e:=r.length
  simp only [Array.length_toList] at e
  omega
theorem Inv.tuple (I:Inv X pins σ H s) (h:SqT X.K H a xs):∃its:List Value,Vals xs its/\IsTup s.heap a its.toArray/\xs.length<=sizeLine:=by
 rcases h with h | ⟨o,its,n,hk,hc,hs,hz,r⟩
 ·obtain ⟨z,its,r,p⟩:=h.ok I.hok
  exact ⟨its,r,p,z⟩
 ·refine ⟨its.toList,r,⟨o,I.kIn a o hk,hc,n,by simpa using hs⟩,?_⟩
  have e:=r.length
  simp only [Array.length_toList] at e
  omega
theorem Inv.list_inj (I:Inv X pins σ H s) (h:SqL X.K H a xs) (h':SqL X.K H a ys):xs=ys:=by
 obtain ⟨its,r,⟨o,n,e,_,_,d⟩,_⟩:=I.list h
 obtain ⟨its',r',⟨o',n',e',_,_,d'⟩,_⟩:=I.list h'
 rw [e] at e';cases e'
 rw [d] at d'
 injection d' with d1 _
 have:its=its':=by simpa using congrArg Array.toList d1
 subst this
 exact r.inj r'
end
abbrev Cx.wish (X:Cx) (E:Value->Shared->Prop):Cx:={ X with xe:=E }
abbrev Cx.nox (X:Cx):Cx:=X.wish fun _ _=>False
theorem Cx.Ok.wish {X:Cx} (ok:X.Ok) (E:Value->Shared->Prop):(X.wish E).Ok:=
 ⟨ok.mod,ok.kind,ok.glob,ok.blt,ok.above,ok.inj,ok.has,ok.cab,ok.hd,ok.frames,ok.stk,ok.exf,ok.bs,ok.bsz,ok.noex,ok.exfs,ok.funs,ok.frf⟩
theorem Cx.Ok.unwish {X:Cx} {E:Value->Shared->Prop} (ok:(X.wish E).Ok):X.Ok:=
 ⟨ok.mod,ok.kind,ok.glob,ok.blt,ok.above,ok.inj,ok.has,ok.cab,ok.hd,ok.frames,ok.stk,ok.exf,ok.bs,ok.bsz,ok.noex,ok.exfs,ok.funs,ok.frf⟩
section
variable {X:Cx} {pins:List (Addr×Obj)} {σ:St} {H:Hp} {s:Shared} {E:Value->Shared->Prop}
theorem Inv.wish (I:Inv X pins σ H s) (E:Value->Shared->Prop):Inv (X.wish E) pins σ H s:=⟨I.ok.wish E,I.os,I.bare,I.base,I.loc,I.cell,I.free,I.freeC,I.pin,I.hok,I.len⟩
theorem Inv.unwish (I:Inv (X.wish E) pins σ H s):Inv X pins σ H s:=⟨I.ok.unwish,I.os,I.bare,I.base,I.loc,I.cell,I.free,I.freeC,I.pin,I.hok,I.len⟩
theorem SP.unwish {D:Ends} {f:Flow} {s':Shared} (h:SP (X.wish E) pins D f s'):SP X pins D f s':=by
 cases f with
 | next=>obtain ⟨σ',H',I,q⟩:=h;exact ⟨σ',H',I.unwish,q⟩
 | brk=>obtain ⟨σ',H',I,q⟩:=h;exact ⟨σ',H',I.unwish,q⟩
 | cont=>obtain ⟨σ',H',I,q⟩:=h;exact ⟨σ',H',I.unwish,q⟩
 | ret u=>obtain ⟨v,σ',H',I,r,q⟩:=h;exact ⟨v,σ',H',I.unwish,r,q⟩
theorem PSs.nox {st:List Stmt} {t:TS} (h:PSs X.nox st t):PSs X st t:=fun pins s σ H D I hw=>
 wpAny_mono (h pins s σ H D (I.wish _) hw) (fun _ _ q=>q.unwish) fun _ _ z=>False.elim z
end
section
variable {X:Cx} {st:Stmt} {rest:List Stmt} {t u:TS} {e:Expr} {te:TE} {pos:Pos}
def tNext:TS:=fun D σ H=>D.nx σ H
def tSeq (t u:TS):TS:=fun D σ H=>t { D with nx:=u D } σ H
theorem pss_nil:PSs X [] tNext:=fun _ _ σ H _ I h=>wpAny_execs_nil ⟨σ,H,I,h⟩
theorem pss_cons (h1:PS X st t) (h2:PSs X rest u):PSs X (st::rest) (tSeq t u):=by
 intro pins s σ H D I h
 refine wpAny_execs_cons (thn (h1 pins s σ H { D with nx:=u D } I h) fun f s1 q=>?_)
 cases f with
 | next=>
  obtain ⟨σ',H',I',q⟩:=q
  exact h2 pins s1 σ' H' D I' q
 | ret v=>exact q
 | brk=>exact q
 | cont=>exact q
theorem pss_one (h1:PS X st t):PSs X [st] t:=by
 intro pins s σ H D I h
 refine wpAny_execs_cons (thn (h1 pins s σ H D I h) fun f s1 q=>?_)
 cases f with
 | next=>exact wpAny_execs_nil q
 | ret v=>exact q
 | brk=>exact q
 | cont=>exact q
theorem Inv.quiet {pins:List (Addr×Obj)} {σ:St} {H:Hp} {s:Shared} (I:Inv X pins σ H s):interactive X.env=false:=by simp [interactive,I.ok.kind]
def tDrop (te:TE):TS:=fun D σ H=>te σ H fun _ H1=>D.nx σ H1
theorem zJU (he:PE X e te) (hs:swapsWith e none pos.line X.env=pure false:=by rfl):PS X (.Expr e pos) (tDrop te):=by
 intro pins s σ H D I h
 exact wpAny_Expr_any (thn (he pins s σ H _ I h) fun v s1 ⟨x,H1,I1,r1,q1⟩=>⟨σ,H1,I1,q1⟩) I.quiet hs
def tRet (te:TE):TS:=fun D σ H=>te σ H D.rt
theorem ps_ret (he:PE X e te):PS X (.Return (some e) pos) (tRet te):=by
 intro pins s σ H D I h
 exact wpAny_Return_some (thn (he pins s σ H _ I h) fun v s1 ⟨x,H1,I1,r1,q1⟩=>⟨x,σ,H1,I1,r1,q1⟩)
def tIfS (c:TT) (t u:TS):TS:=fun D σ H=>c σ H fun b H1=>if b=true then t D σ H1 else u D σ H1
theorem ps_if {c:Expr} {a b:List Stmt} {tc:TT} (hc:PT X c tc) (ha:PSs X a t) (hb:PSs X b u):PS X (.If c a b pos) (tIfS tc t u):=by
 intro pins s σ H D I h
 refine wpAny_If (thn (hc pins s σ H _ I h) fun d s1 ⟨H1,I1,q1⟩=>?_)
 cases d with
 | true=>exact ha pins s1 σ H1 D I1 q1
 | false=>exact hb pins s1 σ H1 D I1 q1
end
abbrev TG:=V->St->Hp->(St->Hp->Prop)->Prop
abbrev TGs:=List V->St->Hp->(St->Hp->Prop)->Prop
def PG (X:Cx) (target:Expr) (t:TG):Prop:=
 ∀(pins:List (Addr×Obj)) (s:Shared) (σ:St) (H:Hp) (v:V) (u:Value) (Q:St->Hp->Prop),Inv X pins σ H s->RelV v u->t v σ H Q ->
  wpAny (model X.prog X.w) X.A (assign target X.env u) (fun _ s'=>∃σ' H',Inv X pins σ' H' s'/\Q σ' H') X.xe s
def PGs (X:Cx) (ts:List Expr) (t:TGs):Prop:=
 ∀(pins:List (Addr×Obj)) (s:Shared) (σ:St) (H:Hp) (vs:List V) (us:List Value) (Q:St->Hp->Prop),Inv X pins σ H s->Vals vs us->t vs σ H Q ->
  wpAny (model X.prog X.w) X.A (assignInOrder ((assignEach ts X.env).map (·.2)) us) (fun _ s'=>∃σ' H',Inv X pins σ' H' s'/\Q σ' H') X.xe s
abbrev TSet:=V->V->V->Hp->(Hp->Prop)->Prop
def PSet (X:Cx) (t:TSet):Prop:=
 ∀(pins:List (Addr×Obj)) (s:Shared) (σ:St) (H:Hp) (o i v:V) (ov iv u:Value) (Q:Hp->Prop),Inv X pins σ H s->RelV o ov->RelV i iv->RelV v u->t o i v H Q ->
  wpAny (model X.prog X.w) X.A (setItem ov iv u) (fun _ s'=>∃H',Inv X pins σ H' s'/\Q H') X.xe s
abbrev TIp:=V->V->Hp->VK->Prop
def PIp (X:Cx) (op:Operator) (t:TIp):Prop:=
 ∀(pins:List (Addr×Obj)) (s:Shared) (σ:St) (H:Hp) (x y:V) (v u:Value) (Q:VK),Inv X pins σ H s->RelV x v->RelV y u->t x y H Q ->
  wpAny (model X.prog X.w) X.A (inplaceOp op v u) (EP X pins σ Q) X.xe s
section
variable {X:Cx} {pos:Pos}
def gName (i:Nat):TG:=fun v σ H Q=>Q (σ.set i (some v)) H
theorem zCL {i:Nat} {x:Str} (hN:X.N.Nodup) (hi:X.N[i]?=some x) (hx:Loc X.env.scope x) (hf:X.fn x=true\/X.env.scope.names.lookup x=some .local:=by first | exact .inl rfl | exact .inr rfl | assumption):PG X (.Name x pos) (gName i):=by
 intro pins s σ H v u Q I r h
 exact wpAny_assign_Name (zIV I hN hi hx r (fun s' I'=>⟨_,H,I',h⟩) hf)
def gNil:TGs:=fun vs σ H Q=>vs=[]/\Q σ H
def gCons (t:TG) (u:TGs):TGs:=fun vs σ H Q=>∃v r,vs=v::r/\t v σ H fun σ' H'=>u r σ' H' Q
theorem zH6:PGs X [] gNil:=by
 intro pins s σ H vs us Q I r h
 obtain ⟨e,h⟩:=h
 subst e
 cases r
 exact assignInOrder_nil ⟨σ,H,I,h⟩
theorem zCP {e:Expr} {es:List Expr} {t:TG} {u:TGs} (h1:PG X e t) (h2:PGs X es u)
  (hs:(assignEach (e::es) X.env).map (·.2)=assign e X.env::(assignEach es X.env).map (·.2):=by rfl):PGs X (e::es) (gCons t u):=by
 intro pins s σ H vs us Q I r h
 obtain ⟨v,vr,e1,h⟩:=h
 subst e1
 cases r with
 | cons r rr=>
  rw [hs]
  refine assignInOrder_cons (thn (h1 pins s σ H _ _ _ I r h) fun _ s1 ⟨σ1,H1,I1,q1⟩=>?_)
  exact h2 pins s1 σ1 H1 _ _ Q I1 rr q1
def gTup (K:Fg) (n:Nat) (t:TGs):TG:=fun v σ H Q=>∃a xs,v=.ref a/\SqT K H a xs/\xs.length=n/\t xs σ H Q
theorem zJL {es:List Expr} {k:Nat} {t:TGs} {n:Nat} (hc:X.calm=true) (h:PGs X es t)
  (hn:(assignEach es X.env).length=n:=by rfl) (hst:(assignEach es X.env).findIdx? (·.1)=none:=by rfl):PG X (.Tuple es k pos) (gTup X.K n t):=by
 intro pins s σ H v u Q I r hw
 obtain ⟨a,xs,e1,hq,hl,hw⟩:=hw
 subst e1
 cases r
 obtain ⟨its,rv,ht,hz⟩:=I.tuple hq
 refine assign_Tuple_tuple (I.ok.hd hc) ht (by simp [hn,<-hl,rv.length]) hst fun h' hx=>?_
 have I1:Inv X pins σ H { s with heap:=h' }:=I.kept (t':=s.toks) fun b o e=>hx b o (Nat.ne_of_lt (Heap.lt_size e)) e
 exact h pins _ σ H xs _ Q I1 (by simpa using rv) hw
def gSub (to ti:TE) (t:TSet):TG:=fun v σ H Q=>to σ H fun o H1=>ti σ H1 fun i H2=>t o i v H2 fun H3=>Q σ H3
theorem pg_sub {o i:Expr} {to ti:TE} {t:TSet} (ho:PE X o to) (hi:PE X i ti) (hs:PSet X t)
  (ha:∀v,assign (.Subscript o i pos) X.env v=(do
   let ov <-holding [v] (eval o X.env)
   let iv <-holding [v,ov] (eval i X.env)
   standAt pos
   holding [v,ov,iv] (setItem ov iv v)
   release [v,ov,iv] []):=by intro _;rfl):PG X (.Subscript o i pos) (gSub to ti t):=by
 intro pins s σ H v u Q I r h
 rw [ha]
 refine wpAny_bind (wpAny_holding (thn (ho pins s σ H _ I h) fun ov s1 ⟨x,H1,I1,r1,q1⟩=>?_))
 refine wpAny_bind (wpAny_holding (thn (hi pins s1 σ H1 _ I1 q1) fun iv s2 ⟨y,H2,I2,r2,q2⟩=>?_))
 refine wpAny_bind (wpAny_standAt (wpAny_bind (wpAny_holding (thn (hs pins s2 σ H2 x y v ov iv u _ I2 r1 r2 r q2) fun _ s3 ⟨H3,I3,q3⟩=>?_))))
 exact wpAny_release ⟨σ,H3,I3,q3⟩
def tAsg (te:TE) (g:TG):TS:=fun D σ H=>te σ H fun x H1=>g x σ H1 D.nx
theorem ps_asg {tg e:Expr} {te:TE} {g:TG} (he:PE X e te) (hg:PG X tg g) (hs:swapsWithSole [tg] e pos.line X.env=pure false:=by rfl) (hw:swappedStores [tg] e X.env=pure none:=by rfl)
  (h1:(assignEach [tg] X.env).map (·.2)=[assign tg X.env]:=by rfl):PS X (.Assign [tg] e pos) (tAsg te g):=by
 intro pins s σ H D I h
 refine wpAny_Assign_stores (thn (he pins s σ H _ I h) fun v s1 ⟨x,H1,I1,r1,q1⟩=>?_) hs hw
 rw [h1]
 exact thn (hg pins s1 σ H1 x v _ I1 r1 q1) fun _ s2 q=>q
theorem ps_set {i:Nat} {x:Str} {e:Expr} {te:TE} {pos':Pos} (hN:X.N.Nodup) (hi:X.N[i]?=some x) (hx:Loc X.env.scope x) (he:PE X e te) (hs:swapsWith e (some (.Name x pos')) pos.line X.env=pure false:=by rfl) (hf:X.fn x=true\/X.env.scope.names.lookup x=some .local:=by first | exact .inl rfl | exact .inr rfl | assumption) :
  PS X (.Assign [.Name x pos'] e pos) (tAsg te (gName i)):=by
 intro pins s σ H D I h
 refine wpAny_Assign_Name (thn (he pins s σ H _ I h) fun v s1 ⟨y,H1,I1,r1,q1⟩=>?_) hs
 exact zIV I1 hN hi hx r1 (fun s2 I2=>⟨_,H1,I2,q1⟩) hf
def tAug (i:Nat) (te:TE) (ti:TIp):TS:=fun D σ H=>∃x,σ[i]?=some (some x)/\te σ H fun y H1=>ti x y H1 fun z H2=>D.nx (σ.set i (some z)) H2
theorem ps_aug {i:Nat} {x:Str} {e:Expr} {te:TE} {op:Operator} {ti:TIp} {pos':Pos} (hN:X.N.Nodup) (hi:X.N[i]?=some x) (hx:Loc X.env.scope x) (he:PE X e te) (ho:PIp X op ti) (hf:X.fn x=true\/X.env.scope.names.lookup x=some .local:=by first | exact .inl rfl | exact .inr rfl | assumption) :
  PS X (.AugAssign (.Name x pos') op e pos) (tAug i te ti):=by
 intro pins s σ H D I h
 obtain ⟨v,e1,h⟩:=h
 obtain ⟨m,hn,hl⟩:=I.loc
 have vis:Vis X.env.scope x:=by rcases hx with k | k;exact .inl k;exact .inr (.inl k)
 obtain ⟨u,r,l⟩:=hl i x v hi e1 vis
 refine wpAny_AugAssign_Name ?_
 have go:wpAny (model X.prog X.w) X.A (eval e X.env) (fun w s₂=>wpAny (model X.prog X.w) X.A (inplaceOp op u w) (fun r s₃=>wpAny (model X.prog X.w) X.A (storeName X.env x r) (fun _=>SP X pins D .next) X.xe s₃) X.xe s₂) X.xe s:=by
  refine thn (he pins s σ H _ I h) fun w s1 ⟨y,H1,I1,r1,q1⟩=>?_
  refine thn (ho pins s1 σ H1 v y u w _ I1 r r1 q1) fun z s2 ⟨zv,H2,I2,r2,q2⟩=>?_
  exact zIV I2 hN hi hx r2 (fun s3 I3=>⟨_,H2,I3,q2⟩) hf
 rcases l with ⟨hk,hm⟩ | ⟨hk,c,hc,hcell⟩
 ·exact wpAny_loadName_local I.ok.kind hk hn hm go
 ·rcases hk with hk | hk
  ·exact wpAny_loadName_cell I.ok.kind hk hc hcell go
  ·rcases hx with k | k
   ·have:X.env.scope.names.lookup x=some .free:=hk
    rw [k] at this;cases this
   ·have:X.env.scope.names.lookup x=some .free:=hk
    rw [k] at this;cases this
def ipI (f:Int->Int->Int):TIp:=fun x y H Q=>∃i j,x=.int i/\y=.int j/\Q (.int (f i j)) H
theorem ip_add:PIp X .Add (ipI fun i j=>i+j):=by
 intro pins s σ H x y v u Q I r1 r2 h
 obtain ⟨i,j,e1,e2,q⟩:=h
 subst e1;subst e2
 obtain ⟨t,rfl⟩:=r1
 obtain ⟨t',rfl⟩:=r2
 exact iadd_int ⟨.int _,H,I.tok _,⟨_,rfl⟩,q⟩
end
section
variable {X:Cx} {pos:Pos}
def tWhile (c:TT) (tb:TS):TS:=fun D σ H=>∃W:Nat->St->Hp->Prop,(∃m,W m σ H)/\∀m σ H,W m σ H ->
 c σ H fun b H1=>if b=true then ∃N:St->Hp->Prop,(∀σ' H',N σ' H'->∃m',m'<m/\W m' σ' H')/\tb { D with nx:=N,ct:=N,bk:=D.nx } σ H1 else D.nx σ H1
theorem ps_while {c:Expr} {body:List Stmt} {tc:TT} {tb:TS} (hp:PassesOwn (model X.prog X.w) X.A X.env X.xe) (hc:PT X c tc) (hb:PSs X body tb):PS X (.While c body [] pos) (tWhile tc tb):=by
 intro pins s σ H D I h
 obtain ⟨W,⟨m0,w0⟩,turn⟩:=h
 refine wpAny_While (codeAny_whileLoop (fun n s'=>∃σ' H',Inv X pins σ' H' s'/\W n σ' H') ?_ m0 ⟨σ,H,I,w0⟩)
 rintro n s1 ⟨σ1,H1,I1,w1⟩
 refine wpAny_passesOwn hp (thn (hc pins s1 σ1 H1 _ I1 (turn n σ1 H1 w1)) fun b s2 ⟨H2,I2,q2⟩=>?_)
 cases b with
 | true=>
  obtain ⟨N,hN,q2⟩:=q2
  rw [if_pos rfl]
  refine wpAny_passesOwn hp (thn (hb pins s2 σ1 H2 _ I2 q2) fun f s3 q3=>?_)
  cases f with
  | next=>
   obtain ⟨σ3,H3,I3,n3⟩:=q3
   obtain ⟨m',hm,w3⟩:=hN σ3 H3 n3
   exact ⟨m',hm,σ3,H3,I3,w3⟩
  | cont=>
   obtain ⟨σ3,H3,I3,n3⟩:=q3
   obtain ⟨m',hm,w3⟩:=hN σ3 H3 n3
   exact ⟨m',hm,σ3,H3,I3,w3⟩
  | brk=>exact q3
  | ret v=>exact q3
 | false=>
  rw [if_neg Bool.false_ne_true]
  exact wpAny_execs_nil ⟨σ1,H2,I2,q2⟩
end
structure It where
 go:Nat->Hp->Prop
 yld:Nat->Hp->V->Hp->Prop
 stop:Nat->Hp->Prop
def FpOk (X:Cx) (pins:List (Addr×Obj)) (H:Hp) (b:Addr):Prop:=
 H b=none/\b≠X.env.locals/\b∉X.fs/\(b∈X.ex\/X.s₀.heap.objs.size<=b)/\(∀x c,X.env.cells.lookup x=some c->c≠b)/\∀p∈X.pn++pins,p.1≠b
theorem Inv.fpOk {X:Cx} {pins:List (Addr×Obj)} {σ:St} {H H':Hp} {s:Shared} {b:Addr} (I:Inv X pins σ H s) (hb:s.heap.objs.size<=b) (hn:H' b=none):FpOk X pins H' b:=by
 refine ⟨hn,Nat.ne_of_gt (Nat.lt_of_lt_of_le I.lt hb),I.nofs hb,.inr (Nat.le_trans I.sz hb),fun x c e z=>?_,fun p hp z=>?_⟩
 ·obtain ⟨v,q⟩:=I.cell x c e
  exact absurd (Nat.lt_of_lt_of_le q.lt (by rw [z];exact hb)) (Nat.lt_irrefl _)
 ·exact absurd (Nat.lt_of_lt_of_le (Heap.lt_size (I.pin p hp).1) (by rw [z];exact hb)) (Nat.lt_irrefl _)
structure Turn (P:Program) (w:World) (K:Fg) (tg:Expr) (J:It) (fp:List Addr) (it:Addr) (tn:Nat->Heap->Prop):Prop where
 mem:it∈fp
 obj:∀i h,tn i h->∀b∈fp,∃o,h.get? b=some o/\∀v,o.data≠.cell v
 keep:∀i h h',tn i h->(∀b∈fp,∀o,h.get? b=some o->h'.get? b=some o)->tn i h'
 item:∀(X:Cx),X.prog=P->X.w=w->X.K=K->X.calm=true->∀(i:Nat) (pins:List (Addr×Obj)) (s:Shared) (σ:St) (H:Hp) (E:Value->Shared->Prop),Inv X pins σ H s->(∀b∈fp,FpOk X pins H b)->tn i s.heap->J.go i H ->
  wpAny (model P w) X.A (pyNext (.ref it)) (fun r s1=>∃u,r=some u /\
   wpAny (model P w) X.A (letOwnedTupleGo tg (.ref it) u) (fun _ s2=>∃x H',Inv X pins σ H' s2/\RelV x u/\J.yld i H x H'/\tn (i+1) s2.heap/\∀b∈fp,H' b=none) E s1) E s
 done:∀(X:Cx),X.prog=P->X.w=w->X.K=K->X.calm=true->∀(i:Nat) (pins:List (Addr×Obj)) (s:Shared) (σ:St) (H:Hp) (E:Value->Shared->Prop),Inv X pins σ H s->(∀b∈fp,FpOk X pins H b)->tn i s.heap->J.stop i H ->
  wpAny (model P w) X.A (pyNext (.ref it)) (fun r s1=>r=none/\Inv X pins σ H s1) E s
 self:∀(A:Around) (i:Nat) (s:Shared) (Q:Value->Shared->Prop) (E:Value->Shared->Prop),tn i s.heap->Q (.ref it) s->wpAny (model P w) A (pyIter (.ref it)) Q E s
abbrev TI:=St->Hp->(It->Hp->Prop)->Prop
def PIE (X:Cx) (pins:List (Addr×Obj)) (σ:St) (tg:Expr) (R:It->Hp->Prop) (itv:Value) (s2:Shared):Prop:=
 ∃(it:Addr) (fp:List Addr) (tn:Nat->Heap->Prop) (J:It) (H':Hp),itv=.ref it/\Inv X pins σ H' s2/\Turn X.prog X.w X.K tg J fp it tn/\tn 0 s2.heap/\(∀b∈fp,FpOk X pins H' b)/\R J H'
def PI (X:Cx) (tg iter:Expr) (wi:TI):Prop:=
 ∀(pins:List (Addr×Obj)) (s:Shared) (σ:St) (H:Hp) (R:It->Hp->Prop),Inv X pins σ H s->wi σ H R ->
  wpAny (model X.prog X.w) X.A (eval iter X.env) (fun v s1=>wpAny (model X.prog X.w) X.A (pyIter v) (PIE X pins σ tg R) X.xe s1) X.xe s
theorem go_of {M:Model} {A:Around} {E:Value->Shared->Prop} {s:Shared} {tg:Expr} {it:Addr} {u:Value} {o:Obj} {n:String} {vs:Array Value} {Q:Unit->Shared->Prop} (ho:s.heap.get? it=some o) (hc:o.cls=.type n) (hd:o.data=.fields vs)
  (hn:["enumerate", "zip", "dict_itemiterator", "dict_reverseitemiterator", "odict_iterator", "itertools.zip_longest", "itertools.pairwise"].contains n=false) (hQ:Q () s):wpAny M A (letOwnedTupleGo tg (.ref it) u) Q E s:=by
 unfold letOwnedTupleGo
 cases tg<;>first
  | exact wpAny_pure hQ
  | (cases u<;>first
      | exact wpAny_pure hQ
      | (refine wpAny_bind (wpAny_load ho ?_)
         rw [hc,hd]
         show wpAny M A (if (["enumerate", "zip", "dict_itemiterator", "dict_reverseitemiterator", "odict_iterator", "itertools.zip_longest", "itertools.pairwise"].contains n&&vs[0]?==some (rawInt _))=true then _ else _) Q E s
         rw [if_neg (by intro h;rw [hn,Bool.false_and] at h;cases h)]
         exact wpAny_pure hQ))
def Itl (K:Fg) (a:Addr):It:=
 ⟨fun i H=>∃xs x,SqL K H a xs/\xs[i]?=some x,fun i H x H'=>H'=H/\∀xs,SqL K H a xs->xs[i]?=some x,fun i H=>∃xs,SqL K H a xs/\xs.length<=i⟩
def Itr (lo:Int) (n:Nat):It:=⟨fun i _=>i<n,fun i H x H'=>H'=H/\x=.int (lo+i),fun i _=>n<=i⟩
theorem turn_list {P:Program} {w:World} {K:Fg} {tg:Expr} (a it:Addr):Turn P w K tg (Itl K a) [it] it (fun i h=>h.IsListIter it a i) where
 mem:=by simp
 obj:=fun i h st b hb=>by
  have e:b=it:=by simpa using hb
  subst e
  obtain ⟨o,e,c,d⟩:=st
  exact ⟨o,e,fun v z=>by rw [d] at z;cases z⟩
 keep:=fun i h h' st k=>st.at fun o e=>k it (by simp) o e
 item:=by
  intro X hP hw hK hc i pins s σ H E I hf st hg
  subst hP hw hK
  obtain ⟨xs,x,hq,hx⟩:=hg
  obtain ⟨its,rv,p,hz⟩:=I.list hq
  obtain ⟨u,hu,ru⟩:=rv.get hx
  obtain ⟨f0,f1,f2,f3,f4,f5⟩:=hf it (by simp)
  refine wpAny_pyNext_list_item st p.isList (x:=u) (by simpa using hu) fun h' st' sb=>?_
  have I1:Inv X pins σ H { s with heap:=h' }:=I.turned (t':=s.toks) (fun b o hb e=>(sb.2 b hb).trans e) f0 f1 f3 f4 f5
  obtain ⟨o,e,c,d⟩:=id st'
  exact ⟨u,rfl,go_of (s:={ s with heap:=h' }) e c d (by decide) ⟨x,H,I1,ru,⟨rfl,fun ys hy=>by rw [I.list_inj hy hq];exact hx⟩,st',fun b hb=>(hf b hb).1⟩⟩
 done:=by
  intro X hP hw hK hc i pins s σ H E I hf st hg
  subst hP hw hK
  obtain ⟨xs,hq,hx⟩:=hg
  obtain ⟨its,rv,p,hz⟩:=I.list hq
  obtain ⟨f0,f1,f2,f3,f4,f5⟩:=hf it (by simp)
  have hl:=rv.length
  exact wpAny_pyNext_list_end (I.ok.hd hc) st p.isList (by simp;omega) fun h' eb=>⟨rfl,I.turned (t':=s.toks) (fun b o hb e=>eb b o hb e) f0 f1 f3 f4 f5⟩
 self:=fun _ _ _ _ _ st h=>wpAny_pyIter_listiter st h
theorem turn_range {P:Program} {w:World} {K:Fg} {tg:Expr} (it:Addr) (lo:Int) (n:Nat):Turn P w K tg (Itr lo n) [it] it (fun i h=>IsRangeIter h it (lo+(i:Nat)*1) ((n:Int)-(i:Nat)) 1) where
 mem:=by simp
 obj:=fun i h st b hb=>by
  have e:b=it:=by simpa using hb
  subst e
  exact ⟨_,st,fun v z=>by
   have z':Data.fields _=Data.cell v:=z
   cases z'⟩
 keep:=fun i h h' st k=>k it (by simp) _ st
 item:=by
  intro X hP hw hK hc i pins s σ H E I hf st hg
  subst hP hw hK
  obtain ⟨f0,f1,f2,f3,f4,f5⟩:=hf it (by simp)
  have W:=Walks.range (prog:=X.prog) (w:=X.w) (I.ok.hd hc) it lo 1 n
  refine W.item i s _ _ hg st fun v h' tk hv st' kk=>?_
  obtain ⟨t,rfl⟩:=hv
  have I1:Inv X pins σ H { s with heap:=h',toks:=tk }:=I.turned (fun b o hb e=>kk b o (by simpa using hb) e) f0 f1 f3 f4 f5
  refine ⟨_,rfl,go_of (s:={ s with heap:=h',toks:=tk }) (n := "range_iterator") st' rfl rfl (by decide) ⟨.int (lo+i),H,I1,⟨t,?_⟩,⟨rfl,rfl⟩,st',fun b hb=>(hf b hb).1⟩⟩
  rw [Int.mul_one]
 done:=by
  intro X hP hw hK hc i pins s σ H E I hf st hg
  subst hP hw hK
  obtain ⟨f0,f1,f2,f3,f4,f5⟩:=hf it (by simp)
  exact wpAny_pyNext_range_end (I.ok.hd hc) st (by have:n<=i:=hg;omega) fun h' eb=>⟨rfl,I.turned (t':=s.toks) (fun b o hb e=>eb b o hb e) f0 f1 f3 f4 f5⟩
 self:=fun _ _ _ _ _ st h=>wpAny_pyIter_rangeiter st h
section
variable {X:Cx} {tg:Expr}
def iList (K:Fg) (tl:TE):TI:=fun σ H R=>tl σ H fun x H1=>∃a,x=.ref a/\(∃xs,SqL K H1 a xs)/\R (Itl K a) H1
theorem pi_list {l:Expr} {tl:TE} (hl:PE X l tl):PI X tg l (iList X.K tl):=by
 intro pins s σ H R I h
 refine thn (hl pins s σ H _ I h) fun v s1 ⟨x,H1,I1,r1,q1⟩=>?_
 obtain ⟨a,e,⟨xs,hq⟩,q⟩:=q1
 subst e
 cases r1
 obtain ⟨its,rv,p,hz⟩:=I1.list hq
 refine wpAny_pyIter_list p.isList ?_
 refine ⟨s1.heap.objs.size,[s1.heap.objs.size],_,_,H1,rfl,I1.kept (t':=s1.toks) fun b o e=>Heap.get?_push_of_some _ e,turn_list a _,⟨_,Heap.get?_push_size _ rfl,rfl,rfl⟩,fun b hb=>?_,q⟩
 have e:b=s1.heap.objs.size:=by simpa using hb
 subst e
 exact I1.fpOk (Nat.le_refl _) (I1.hok.fresh (Nat.le_refl _))
theorem range_it {pins:List (Addr×Obj)} {σ:St} {H:Hp} {s:Shared} {R:It->Hp->Prop} {E:Value->Shared->Prop} {lo hi:Int} {t u v:Tok} {tk:Nat} (I:Inv X pins σ H s) (h1:-(2 ^ 62)<=lo) (h2:lo<2 ^ 62) (h3:-(2 ^ 62)<=hi) (h4:hi<2 ^ 62)
  (q:R (Itr lo (hi-lo).toNat) H):wpAny (model X.prog X.w) X.A (pyIter (.ref s.heap.objs.size)) (PIE X pins σ tg R) E { s with heap:=s.heap.push { cls:=.type "range",data:=.fields #[.int lo t,.int hi u,.int 1 v] },toks:=tk }:=by
 refine wpAny_pyIter_range (IsRange.new ..) (small_one h1 h2 h3 h4) ?_
 have I1:Inv X pins σ H { s with heap:=s.heap.push { cls:=.type "range",data:=.fields #[.int lo t,.int hi u,.int 1 v] },toks:=tk }:=I.kept fun b o e=>Heap.get?_push_of_some _ e
 refine ⟨(s.heap.push { cls:=.type "range",data:=.fields #[.int lo t,.int hi u,.int 1 v] }).objs.size,[(s.heap.push { cls:=.type "range",data:=.fields #[.int lo t,.int hi u,.int 1 v] }).objs.size],_,_,H,rfl,
  I1.kept (t':=tk) fun b o e=>Heap.get?_push_of_some _ e,turn_range _ lo (hi-lo).toNat,?_,fun b hb=>?_,q⟩
 ·have e1:lo+((0:Nat):Int)*1=lo:=by simp
  have e2:(((hi-lo).toNat:Nat):Int)-((0:Nat):Int)=Builtin.Range.rangeSize lo hi 1:=by rw [rangeSize_one];split<;>omega
  show IsRangeIter _ _ (lo+((0:Nat):Int)*1) ((((hi-lo).toNat:Nat):Int)-((0:Nat):Int)) 1
  rw [e1,e2]
  exact Heap.get?_push_size _ rfl
 ·have e:b=(s.heap.push { cls:=.type "range",data:=.fields #[.int lo t,.int hi u,.int 1 v] }).objs.size:=by simpa using hb
  subst e
  exact I1.fpOk (Nat.le_refl _) (I1.hok.fresh (Nat.le_refl _))
def iRng1 (ta:TA):TI:=fun σ H R=>ta σ H fun vs H1=>∃j:Int,vs=[.int j]/\-(2 ^ 62)<=j/\j<2 ^ 62/\R (Itr 0 j.toNat) H1
def iRng2 (ta:TA):TI:=fun σ H R=>ta σ H fun vs H1=>∃i j:Int,vs=[.int i,.int j]/\(-(2 ^ 62)<=i/\i<2 ^ 62/\-(2 ^ 62)<=j/\j<2 ^ 62)/\R (Itr i (j-i).toNat) H1
theorem pi_range1 {a:Expr} {ta:TA} {p pos:Pos} (hg:Gl X "range") (hm:X.mg "range"=none) (ha:PA X [a] ta) (hs:starEach [a] X.env=[(false,eval a X.env)]:=by rfl):PI X tg (.Call (.Name "range" p) [a] [] pos) (iRng1 ta):=by
 intro pins s σ H R I h
 refine Call_ (zGL I hg hm boot_range (PyProof.Rows.callWith_type1 (thn (ha pos pins s σ H _ I h) fun us s1 ⟨vs,H1,I1,r1,q1⟩=>?_) hs rfl))
 obtain ⟨j,e,q1,q2,q⟩:=q1
 subst e
 cases r1 with
 | cons r rr=>
  cases rr
  obtain ⟨t,rfl⟩:=r
  exact call_range_1 (range_it I1 (by omega) (by omega) q1 q2 (by simpa using q))
theorem pi_range2 {a b:Expr} {ta:TA} {p pos:Pos} (hg:Gl X "range") (hm:X.mg "range"=none) (ha:PA X [a,b] ta) (hs:starEach [a,b] X.env=[(false,eval a X.env),(false,eval b X.env)]:=by rfl) (hs2:starEach [b] X.env=[(false,eval b X.env)]:=by rfl) :
  PI X tg (.Call (.Name "range" p) [a,b] [] pos) (iRng2 ta):=by
 intro pins s σ H R I h
 refine Call_ (zGL I hg hm boot_range (PyProof.Rows.callWith_type1 (thn (ha pos pins s σ H _ I h) fun us s1 ⟨vs,H1,I1,r1,q1⟩=>?_) (by rw [hs,hs2]) (by rw [hs2];rfl)))
 obtain ⟨i,j,e,⟨q1,q2,q3,q4⟩,q⟩:=q1
 subst e
 cases r1 with
 | cons r rr=>
  cases rr with
  | cons r' rr=>
   cases rr
   obtain ⟨t,rfl⟩:=r
   obtain ⟨t',rfl⟩:=r'
   exact call_range_2 (range_it I1 q1 q2 q3 q4 q)
def tFor (wi:TI) (g:TG) (tb:TS):TS:=fun D σ H=>wi σ H fun J H1=>∃W:Nat->Nat->St->Hp->Prop,(∃m,W 0 m σ H1)/\∀i m σ H,W i m σ H ->
 (J.stop i H/\D.nx σ H)\/(J.go i H/\∃N:St->Hp->Prop,(∀σ' H',N σ' H'->∃m',m'<m/\W (i+1) m' σ' H')/\∀x H',J.yld i H x H'->g x σ H' fun σ2 H2=>tb { D with nx:=N,ct:=N,bk:=D.nx } σ2 H2)
def zJK (fp:List Addr) (h:Heap):List (Addr×Obj):=fp.filterMap fun b=>(h.get? b).map fun o=>(b,o)
theorem zGC {fp:List Addr} {h:Heap} {b:Addr} {o:Obj} (hb:b∈fp) (e:h.get? b=some o):(b,o)∈zJK fp h:=List.mem_filterMap.mpr ⟨b,hb,by rw [e];rfl⟩
theorem of_pinsAt {fp:List Addr} {h:Heap} {p:Addr×Obj} (hp:p∈zJK fp h):p.1∈fp/\h.get? p.1=some p.2:=by
 obtain ⟨b,hb,e⟩:=List.mem_filterMap.mp hp
 cases q:h.get? b with
 | none=>rw [q] at e;cases e
 | some o=>
  rw [q] at e
  have e':(b,o)=p:=Option.some.inj e
  subst e'
  exact ⟨hb,q⟩
theorem Inv.pinned {pins:List (Addr×Obj)} {σ:St} {H:Hp} {s:Shared} {fp:List Addr} (I:Inv X pins σ H s) (hf:∀b∈fp,FpOk X pins H b) (ho:∀b∈fp,∃o,s.heap.get? b=some o/\∀v,o.data≠.cell v):Inv X (pins++zJK fp s.heap) σ H s:=
 I.pins_of fun p hp=>(List.mem_append.mp hp).elim (fun z=>I.pin p (mem_append_right _ z)) fun z=>by
  obtain ⟨hb,e⟩:=of_pinsAt z
  obtain ⟨f0,f1,f2,_⟩:=hf p.1 hb
  obtain ⟨o,e',d⟩:=ho p.1 hb
  rw [e] at e';cases e'
  exact ⟨e,f0,f1,f2,d⟩
theorem Inv.unpinned {pins pl:List (Addr×Obj)} {σ:St} {H:Hp} {s:Shared} (I:Inv X (pins++pl) σ H s):Inv X pins σ H s:=I.pins_of fun p hp=>I.pin p (mem_append_right _ (mem_append_left _ hp))
theorem ps_for {iter:Expr} {body:List Stmt} {wi:TI} {g:TG} {tb:TS} {pos:Pos} (hp:PassesOwn (model X.prog X.w) X.A X.env X.xe) (hc:X.calm=true) (hi:PI X tg iter wi) (hg:PG X tg g) (hb:PSs X body tb)
  (hs:∀x,foldedSetIterable iter X.env x=pure x:=by intro _;rfl):PS X (.For tg iter body [] pos) (tFor wi g tb):=by
 intro pins s σ H D I h
 refine wpAny_For (thn (hi pins s σ H _ I h) fun v s1 h1=>thn h1 fun itv s2 h2=>?_) hs
 obtain ⟨it,fp,tn,J,H2,e,I2,T,st2,f2,W,⟨m0,w0⟩,turn⟩:=h2
 subst e
 have stat:∀{H':Hp},(∀b∈fp,H' b=none)->∀b∈fp,FpOk X pins H' b:=fun hn b hb=>⟨hn b hb,(f2 b hb).2⟩
 refine codeAny_forLoop_any (fun n s'=>∃i σ' H',Inv X pins σ' H' s'/\tn i s'.heap/\(∀b∈fp,H' b=none)/\W i n σ' H') ?_ m0 ⟨0,σ,H2,I2,st2,fun b hb=>(f2 b hb).1,w0⟩
 rintro n s3 ⟨i,σ3,H3,I3,st3,fr3,w3⟩
 rcases turn i n σ3 H3 w3 with ⟨stop,qn⟩ | ⟨go,N,hN,step⟩
 ·refine wpAny_passesOwn hp (thn (T.done X rfl rfl rfl hc i pins s3 σ3 H3 X.xe I3 (stat fr3) st3 stop) fun r s4 ⟨hr,I4⟩=>?_)
  subst hr
  exact wpAny_execs_nil ⟨σ3,H3,I4,qn⟩
 ·refine wpAny_passesOwn hp (thn (T.item X rfl rfl rfl hc i pins s3 σ3 H3 X.xe I3 (stat fr3) st3 go) fun r s4 ⟨u,hr,h4⟩=>?_)
  subst hr
  refine wpAny_passesOwn hp (thn h4 fun _ s5 ⟨x,H5,I5,r5,y5,st5,fr5⟩=>?_)
  have I5':=I5.pinned (stat fr5) (T.obj _ _ st5)
  refine wpAny_passesOwn hp (thn (hg _ s5 σ3 H5 x u _ I5' r5 (step x H5 y5)) fun _ s6 ⟨σ6,H6,I6,q6⟩=>?_)
  refine wpAny_passesOwn hp (thn (hb _ s6 σ6 H6 _ I6 q6) fun f s7 q7=>?_)
  have again:∀{σ7:St} {H7:Hp},Inv X (pins++zJK fp s5.heap) σ7 H7 s7->N σ7 H7->∃m,m<n/\∃i σ' H',Inv X pins σ' H' s7/\tn i s7.heap/\(∀b∈fp,H' b=none)/\W i m σ' H':=fun {σ7 H7} I7 n7=>by
   obtain ⟨m',hm,w7⟩:=hN σ7 H7 n7
   refine ⟨m',hm,i+1,σ7,H7,I7.unpinned,T.keep _ _ _ st5 fun b hb o e=>(I7.pin (b,o) (mem_append_right _ (mem_append_right _ (zGC hb e)))).1,fun b hb=>?_,w7⟩
   obtain ⟨o,e,d⟩:=T.obj _ _ st5 b hb
   exact (I7.pin (b,o) (mem_append_right _ (mem_append_right _ (zGC hb e)))).2.1
  cases f with
  | next=>obtain ⟨σ7,H7,I7,n7⟩:=q7;exact again I7 n7
  | cont=>obtain ⟨σ7,H7,I7,n7⟩:=q7;exact again I7 n7
  | brk=>obtain ⟨σ7,H7,I7,q7⟩:=q7;exact ⟨σ7,H7,I7.unpinned,q7⟩
  | ret v=>obtain ⟨x7,σ7,H7,I7,r7,q7⟩:=q7;exact ⟨x7,σ7,H7,I7.unpinned,r7,q7⟩
end
abbrev R2:=V->V->Hp->VK->Prop
def OpR (X:Cx) (f:Value->Value->Sem Value) (r:R2):Prop:=
 ∀(pins:List (Addr×Obj)) (s:Shared) (σ:St) (H:Hp) (x y:V) (v u:Value) (Q:VK),Inv X pins σ H s->RelV x v->RelV y u->r x y H Q ->
  wpAny (model X.prog X.w) X.A (f v u) (EP X pins σ Q) X.xe s
def CallR (X:Cx) (f:Value) (r:List V->Hp->VK->Prop):Prop:=
 ∀(pins:List (Addr×Obj)) (s:Shared) (σ:St) (H:Hp) (xs:List V) (us:List Value) (Q:VK),Inv X pins σ H s->Vals xs us->r xs H Q ->
  wpAny (model X.prog X.w) X.A (call f us) (EP X pins σ Q) X.xe s
def TruR (X:Cx) (r:V->Hp->(Bool->Hp->Prop)->Prop):Prop:=
 ∀(pins:List (Addr×Obj)) (s:Shared) (σ:St) (H:Hp) (x:V) (v:Value) (Q:Bool->Hp->Prop),Inv X pins σ H s->RelV x v->r x H Q ->
  wpAny (model X.prog X.w) X.A (truthy v) (TP X pins σ Q) X.xe s
def tOp (r:R2) (ta tb:TE):TE:=fun σ H Q=>ta σ H fun x H1=>tb σ H1 fun y H2=>r x y H2 Q
def rI (C:Int->Int->Prop) (g:Int->Int->V):R2:=fun x y H Q=>∃i j,x=.int i/\y=.int j/\C i j/\Q (g i j) H
def rI0 (g:Int->Int->V):R2:=fun x y H Q=>∃i j,x=.int i/\y=.int j/\Q (g i j) H
section
variable {X:Cx} {a b c:Expr} {ta tb tc:TE} {pos:Pos}
theorem binT (ha:PE X a ta) (hb:PE X b tb) {pins:List (Addr×Obj)} {s:Shared} {σ:St} {H:Hp} {R:V->V->Hp->Prop} (I:Inv X pins σ H s)
  (h:ta σ H fun x H1=>tb σ H1 fun y H2=>R x y H2) {Q:Value->Shared->Prop} {f:Value->Value->Sem Value}
  (hf:∀v u s2 x y H2,Inv X pins σ H2 s2->RelV x v->RelV y u->R x y H2->wpAny (model X.prog X.w) X.A (f v u) Q X.xe s2) :
  wpAny (model X.prog X.w) X.A (eval a X.env) (fun v s₁=>wpAny (model X.prog X.w) X.A (eval b X.env) (fun u s₂=>wpAny (model X.prog X.w) X.A (f v u) Q X.xe s₂) X.xe s₁) X.xe s:=by
 refine thn (ha pins s σ H _ I h) fun v s1 ⟨x,H1,I1,r1,q1⟩=>?_
 refine thn (hb pins s1 σ H1 _ I1 q1) fun u s2 ⟨y,H2,I2,r2,q2⟩=>?_
 exact hf v u s2 x y H2 I2 r1 r2 q2
theorem pe_op {op:Operator} {r:R2} (ho:OpR X (binaryOp op) r) (ha:PE X a ta) (hb:PE X b tb):PE X (.BinOp a op b pos) (tOp r ta tb):=by
 intro pins s σ H Q I h
 exact wpAny_BinOp (binT ha hb I h fun v u s2 x y H2 I2 rx ry q=>ho pins s2 σ H2 x y v u Q I2 rx ry q)
theorem opI {f:Value->Value->Sem Value} {C:Int->Int->Prop} {g:Int->Int->Int}
  (rule:∀(i j:Int) (t u:Tok) (s:Shared) (Q:Value->Shared->Prop) (E:Value->Shared->Prop),C i j->Q (.int (g i j) s.toks) { s with toks:=s.toks+1 }->wpAny (model X.prog X.w) X.A (f (.int i t) (.int j u)) Q E s) :
  OpR X f (rI C fun i j=>.int (g i j)):=by
 intro pins s σ H x y v u Q I rx ry h
 obtain ⟨i,j,rfl,rfl,hc,q⟩:=h
 obtain ⟨t,rfl⟩:=rx
 obtain ⟨t',rfl⟩:=ry
 exact rule i j t t' s _ _ hc ⟨.int (g i j),H,I.tok _,⟨_,rfl⟩,q⟩
theorem opI0 {f:Value->Value->Sem Value} {g:Int->Int->Int}
  (rule:∀(i j:Int) (t u:Tok) (s:Shared) (Q:Value->Shared->Prop) (E:Value->Shared->Prop),Q (.int (g i j) s.toks) { s with toks:=s.toks+1 }->wpAny (model X.prog X.w) X.A (f (.int i t) (.int j u)) Q E s) :
  OpR X f (rI0 fun i j=>.int (g i j)):=by
 intro pins s σ H x y v u Q I rx ry h
 obtain ⟨i,j,rfl,rfl,q⟩:=h
 obtain ⟨t,rfl⟩:=rx
 obtain ⟨t',rfl⟩:=ry
 exact rule i j t t' s _ _ ⟨.int (g i j),H,I.tok _,⟨_,rfl⟩,q⟩
theorem opB0 {f:Value->Value->Sem Value} {g:Int->Int->Bool}
  (rule:∀(i j:Int) (t u:Tok) (s:Shared) (Q:Value->Shared->Prop) (E:Value->Shared->Prop),Q (.bool (g i j)) s->wpAny (model X.prog X.w) X.A (f (.int i t) (.int j u)) Q E s) :
  OpR X f (rI0 fun i j=>.bl (g i j)):=by
 intro pins s σ H x y v u Q I rx ry h
 obtain ⟨i,j,rfl,rfl,q⟩:=h
 obtain ⟨t,rfl⟩:=rx
 obtain ⟨t',rfl⟩:=ry
 exact rule i j t t' s _ _ ⟨.bl (g i j),H,I,rfl,q⟩
def CDiv (i j:Int):Prop:=0<j/\j<1073741824
def CPow (i j:Int):Prop:=0<=j/\j<=1000000/\i.natAbs<2 ^ 64
def CMul (i j:Int):Prop:=(-(2 ^ 64)<i/\i<2 ^ 64)\/(-(2 ^ 64)<j/\j<2 ^ 64)
theorem CMul.ok {i j:Int} (h:CMul i j):IntMulOk i j:=by
 rcases h with ⟨h1,h2⟩ | ⟨h1,h2⟩
 ·exact .of_left (intBits_le_64 h1 h2)
 ·exact .of_right (intBits_le_64 h1 h2)
theorem op_add:OpR X (binaryOp .Add) (rI0 fun i j=>.int (i+j)):=opI0 fun _ _ _ _ _ _ _ q=>add_int q
theorem op_sub:OpR X (binaryOp .Sub) (rI0 fun i j=>.int (i-j)):=opI0 fun _ _ _ _ _ _ _ q=>sub_int q
theorem op_mul:OpR X (binaryOp .Mult) (rI CMul fun i j=>.int (i*j)):=opI fun _ _ _ _ _ _ _ hc q=>mul_int q hc.ok
theorem op_fdiv:OpR X (binaryOp .FloorDiv) (rI CDiv fun i j=>.int (i / j)):=opI fun i j _ _ _ _ _ hc q=>by
 have h1:(0:Int)<j:=hc.1
 have h2:j<1073741824:=hc.2
 exact floordiv_int (by omega) (by rw [Int.fdiv_eq_ediv_of_nonneg i (by omega)];exact q) (.inl (PyProof.noPylong_small (by omega)))
theorem op_mod:OpR X (binaryOp .Mod) (rI (fun _ j=>0<j) fun i j=>.int (i % j)):=opI fun i j _ _ _ _ _ hc q=>by
 have h1:(0:Int)<j:=hc
 exact mod_int' (by omega) (by rw [Int.fmod_eq_emod_of_nonneg i (by omega)];exact q)
theorem op_pow:OpR X (binaryOp .Pow) (rI CPow fun i j=>.int (i ^ j.toNat)):=opI fun _ _ _ _ _ _ _ hc q=>pow_int_small hc.1 hc.2.1 hc.2.2 q
end
def scal:V->V->Bool
 | .non,.non=>true | .non,.int _=>true | .int _,.non=>true | .non,.bl _=>true | .bl _,.non=>true | .non,.str _=>true | .str _,.non=>true
 | .int _,.int _=>true | .bl _,.bl _=>true | .str _,.str _=>true | .byt _,.byt _=>true
 | .int _,.str _=>true | .str _,.int _=>true | .bl _,.str _=>true | .str _,.bl _=>true
 | _,_=>false
section
variable {X:Cx} {a b c:Expr} {ta tb tc:TE} {pos:Pos}
theorem zKH {pins:List (Addr×Obj)} {σ:St} {H:Hp} {s:Shared} {Q:VK} {k k':Bool} (I:Inv X pins σ H s) (q:Q (.bl k) H) (e:k=k'):EP X pins σ Q (.bool k') s:=by
 subst e
 exact ⟨.bl k,H,I,rfl,q⟩
theorem op_lt:OpR X (compareOp .Lt) (rI0 fun i j=>.bl (decide (i<j))):=opB0 fun _ _ _ _ _ _ _ q=>lt_int q
theorem op_le:OpR X (compareOp .LtE) (rI0 fun i j=>.bl (decide (i<=j))):=opB0 fun _ _ _ _ _ _ _ q=>le_int q
theorem op_gt:OpR X (compareOp .Gt) (rI0 fun i j=>.bl (decide (j<i))):=opB0 fun _ _ _ _ _ _ _ q=>gt_int q
theorem op_ge:OpR X (compareOp .GtE) (rI0 fun i j=>.bl (decide (j<=i))):=opB0 fun _ _ _ _ _ _ _ q=>ge_int q
theorem op_lt_str:OpR X (compareOp .Lt) (fun x y H Q=>∃i j,x=.str i/\y=.str j/\Q (.bl (decide (i.cps.toList<j.cps.toList))) H):=by
 intro pins s σ H x y v u Q I rx ry h
 obtain ⟨i,j,rfl,rfl,q⟩:=h
 obtain ⟨t,rfl⟩:=rx
 obtain ⟨t',rfl⟩:=ry
 exact lt_str (zKH I q rfl)
theorem op_isN:OpR X (compareOp .Is) (fun x y H Q=>y=.non/\Q (.bl (decide (x=.non))) H):=by
 intro pins s σ H x y v u Q I rx ry h
 obtain ⟨rfl,q⟩:=h
 cases ry
 refine is_none_gen (zKH I q ?_)
 cases x<;>first
  | (cases rx;rfl)
  | (obtain ⟨t,rfl⟩:=rx;rfl)
theorem op_notN:OpR X (compareOp .IsNot) (fun x y H Q=>y=.non/\Q (.bl (!decide (x=.non))) H):=by
 intro pins s σ H x y v u Q I rx ry h
 obtain ⟨rfl,q⟩:=h
 cases ry
 refine isnot_none_gen (zKH I q ?_)
 cases x<;>first
  | (cases rx;rfl)
  | (obtain ⟨t,rfl⟩:=rx;rfl)
theorem OpR.or {f:Value->Value->Sem Value} {r r':R2} (h:OpR X f r) (h':OpR X f r'):OpR X f (fun x y H Q=>r x y H Q\/r' x y H Q):=by
 intro pins s σ H x y v u Q I rx ry q
 rcases q with q | q
 ·exact h pins s σ H x y v u Q I rx ry q
 ·exact h' pins s σ H x y v u Q I rx ry q
theorem pe_cmpR {op:CmpOp} {r:R2} (ho:OpR X (compareOp op) r) (ha:PE X a ta) (hb:PE X b tb) (hm:behindInMarks op b=false):PE X (.Compare a [op] [b] pos) (tOp r ta tb):=by
 intro pins s σ H Q I h
 exact wpAny_Compare1 (binT ha hb I h fun v u s2 x y H2 I2 rx ry q=>ho pins s2 σ H2 x y v u Q I2 rx ry q) hm
def tTest (t:TE):TT:=fun σ H Q=>t σ H fun x H'=>∃k,x=.bl k/\Q k H'
theorem pt_cmpR {op:CmpOp} {r:R2} (ho:OpR X (compareOp op) r) (ha:PE X a ta) (hb:PE X b tb) (hm:behindInMarks op b=false):PT X (.Compare a [op] [b] pos) (tTest (tOp r ta tb)):=by
 intro pins s σ H Q I h
 refine wpAny_isTrue_Compare1 (thn (ha pins s σ H _ I h) fun v s1 ⟨x,H1,I1,r1,q1⟩=>thn (hb pins s1 σ H1 _ I1 q1) fun u s2 ⟨y,H2,I2,r2,q2⟩=>
  thn (ho pins s2 σ H2 x y v u _ I2 r1 r2 q2) fun c s3 ⟨z,H3,I3,r3,k,e,q3⟩=>?_) hm
 subst e
 cases r3
 exact wpAny_truthy_bool ⟨H3,I3,q3⟩
def zKM (r r':R2) (ta tb tc:TE):TE:=fun σ H Q=>ta σ H fun x H1=>tb σ H1 fun y H2=>r x y H2 fun z H3=>∃k,z=.bl k /\
 (if k=true then tc σ H3 fun w' H4=>r' y w' H4 Q else Q (.bl false) H3)
theorem pe_chain {op op':CmpOp} {r r':R2} (ho:OpR X (compareOp op) r) (ho':OpR X (compareOp op') r') (ha:PE X a ta) (hb:PE X b tb) (hc:PE X c tc)
  (hm:lastMarks [op,op'] [b,c]=false:=by with_unfolding_all rfl):PE X (.Compare a [op,op'] [b,c] pos) (zKM r r' ta tb tc):=by
 intro pins s σ H Q I h
 refine Compare_chain (thn (ha pins s σ H _ I h) fun v s1 ⟨x,H1,I1,r1,q1⟩=>chain_link (thn (hb pins s1 σ H1 _ I1 q1) fun u s2 ⟨y,H2,I2,r2,q2⟩=>
  thn (ho pins s2 σ H2 x y v u _ I2 r1 r2 q2) fun d s3 ⟨z,H3,I3,r3,k,e,q3⟩=>?_)) hm
 subst e
 cases r3
 refine wpAny_truthy_bool ?_
 cases k with
 | false=>exact ite_ff ⟨.bl false,H3,I3,rfl,q3⟩
 | true=>exact ite_tt (chain_last (thn (hc pins s3 σ H3 _ I3 q3) fun w' s4 ⟨z',H4,I4,r4,q4⟩=>ho' pins s4 σ H4 y z' u w' Q I4 r2 r4 q4))
theorem pt_chain {op op':CmpOp} {r r':R2} (ho:OpR X (compareOp op) r) (ho':OpR X (compareOp op') r') (ha:PE X a ta) (hb:PE X b tb) (hc:PE X c tc)
  (hm:lastMarks [op,op'] [b,c]=false:=by with_unfolding_all rfl):PT X (.Compare a [op,op'] [b,c] pos) (tTest (zKM r r' ta tb tc)):=by
 intro pins s σ H Q I h
 refine isTrue_chain (thn (ha pins s σ H _ I h) fun v s1 ⟨x,H1,I1,r1,q1⟩=>test_link (thn (hb pins s1 σ H1 _ I1 q1) fun u s2 ⟨y,H2,I2,r2,q2⟩=>
  thn (ho pins s2 σ H2 x y v u _ I2 r1 r2 q2) fun d s3 ⟨z,H3,I3,r3,k,e,q3⟩=>?_)) hm
 subst e
 cases r3
 refine wpAny_truthy_bool ?_
 cases k with
 | false=>
  obtain ⟨k',e',q'⟩:=q3
  cases e'
  exact ite_ff ⟨H3,I3,q'⟩
 | true=>
  refine ite_tt (test_last (thn (hc pins s3 σ H3 _ I3 q3) fun w' s4 ⟨z',H4,I4,r4,q4⟩=>thn (ho' pins s4 σ H4 y z' u w' _ I4 r2 r4 q4) fun d' s5 ⟨z2,H5,I5,r5,k2,e2,q5⟩=>?_))
  subst e2
  cases r5
  exact wpAny_truthy_bool ⟨H5,I5,q5⟩
def TruV (K:Fg) (x:V) (H:Hp) (k:Bool):Prop:=
 match x with
 | .non=>k=false
 | .bl b=>k=b
 | .int i=>k=(i != 0)
 | .str y=>y.length<=sizeLine/\k=((y.length:Int) != 0)
 | .byt y=>y.size<=sizeLine/\k=((y.size:Int) != 0)
 | .ref p=>(∃xs,SqL K H p xs/\k=!xs.isEmpty)\/(∃xs,SqT K H p xs/\k=!xs.isEmpty)\/∃kvs,H p=some (.dK kvs)/\k=!kvs.isEmpty
 | _=>False
theorem isEmpty_kv {κ:Type} {kvs:List (κ×V)} {vs:List (κ×Value)} (r:KV kvs vs):(!vs.isEmpty)=!kvs.isEmpty:=by
 cases r<;>rfl
theorem isEmpty_of {xs:List V} {its:List Value} (r:Vals xs its):(!its.toArray.isEmpty)=!xs.isEmpty:=by
 cases r<;>simp
theorem zH9:(sizeLine:Nat)<2 ^ 63:=by rw [sizeLine_eq];decide
theorem tru_ok:TruR X (fun x H Q=>∃k,TruV X.K x H k/\Q k H):=by
 intro pins s σ H x v Q I rx h
 obtain ⟨k,e,q⟩:=h
 have hl:=zH9
 have hs:sizeLine=16777216:=sizeLine_eq
 cases x with
 | non=>
  cases rx
  have e':k=false:=e
  subst e'
  exact truthy_none ⟨H,I,q⟩
 | bl b=>
  cases rx
  have e':k=b:=e
  subst e'
  exact wpAny_truthy_bool ⟨H,I,q⟩
 | int i=>
  obtain ⟨t,rfl⟩:=rx
  have e':k=(i != 0):=e
  subst e'
  exact PySem.P.truthy_int ⟨H,I,q⟩
 | str y=>
  obtain ⟨t,rfl⟩:=rx
  obtain ⟨hy,e'⟩:y.length<=sizeLine/\k=((y.length:Int) != 0):=e
  subst e'
  exact PySem.P.truthy_str (by omega) ⟨H,I.tok _,q⟩
 | byt y=>
  obtain ⟨t,rfl⟩:=rx
  obtain ⟨hy,e'⟩:y.size<=sizeLine/\k=((y.size:Int) != 0):=e
  subst e'
  exact PySem.W.truthy_bytes (by omega) ⟨H,I.tok _,q⟩
 | ref p=>
  cases rx
  have e':(∃xs,SqL X.K H p xs/\k=!xs.isEmpty)\/(∃xs,SqT X.K H p xs/\k=!xs.isEmpty)\/∃kvs,H p=some (.dK kvs)/\k=!kvs.isEmpty:=e
  rcases e' with ⟨xs,hx,e'⟩ | ⟨xs,hx,e'⟩ | ⟨kvs,hx,e'⟩
  ·subst e'
   obtain ⟨its,r,pl,hz⟩:=I.list hx
   have hlen:=r.length
   exact wpAny_truthy_list pl.isList (by simp only [size_toArray];omega) ⟨H,I.tok _,by rw [isEmpty_of r];exact q⟩
  ·subst e'
   obtain ⟨its,r,pl,hz⟩:=I.tuple hx
   have hlen:=r.length
   exact truthy_tuple pl (by simp only [size_toArray];omega) ⟨H,I.tok _,by rw [isEmpty_of r];exact q⟩
  ·subst e'
   obtain ⟨hz,hS,vs,r,m⟩:kvs.length<=sizeLine/\(p==sysModules)=false/\∃vs,KV kvs vs/\s.heap.DictOf (zJX X.prog X.w) p vs:=I.hok p _ hx
   have hlen:kvs.length=vs.length:=Paired.length r
   exact wpAny_truthy_dict hS m (by omega) ⟨H,I.tok _,by rw [isEmpty_kv r];exact q⟩
 | _=>exact (show False from e).elim
theorem pt_truth (ha:PE X a ta) (he:∀whole,isTrue a X.env whole=(do let v <-whole;standAt a.pos;holding [v] (truthy v))) :
  PT X a (fun σ H Q=>ta σ H fun x H'=>∃k,TruV X.K x H' k/\Q k H'):=by
 intro pins s σ H Q I h
 exact isTrue_plain (thn (ha pins s σ H _ I h) fun v s1 ⟨x,H1,I1,r1,q1⟩=>tru_ok pins s1 σ H1 x v Q I1 r1 q1) (he _)
theorem vals1 {x:V} {us:List Value} (r:Vals [x] us):∃u,us=[u]/\RelV x u:=by
 cases r with
 | cons r1 r2=>cases r2;exact ⟨_,rfl,r1⟩
theorem call_int1:CallR X (.type "int") (fun xs H Q=>(∃i,xs=[.int i]/\Q (.int i) H)\/∃k,xs=[.bl k]/\Q (.int (if k then 1 else 0)) H):=by
 intro pins s σ H xs us Q I r h
 rcases h with ⟨i,rfl,q⟩ | ⟨k,rfl,q⟩
 ·obtain ⟨u,rfl,t,rfl⟩:=vals1 r
  exact call_int_int ⟨.int i,H,I,⟨_,rfl⟩,q⟩
 ·obtain ⟨u,rfl,r1⟩:=vals1 r
  cases r1
  exact call_int_bool ⟨.int (if k then 1 else 0),H,I.tok _,⟨_,rfl⟩,q⟩
end
structure ObjM (h:Heap) (x dx C:Addr) (mA:Str->Option Value):Prop where
 obj:h.get? x=some (PySem.W.instObj C dx)
 ns:h.Ns1 dx mA
 ne:dx≠x
section
variable {prog:Program} {w:World} {A:Around} {E:Value->Shared->Prop} {s:Shared} {K:Fg} {x dx C f:Addr} {mA:Str->Option Value} {name:Str} {v:Value}
end
section
variable {P:Program} {w:World} {H H':Hp} {h h':Heap} {a C dx:Addr} {fs fs':List (Str×V)}
end
structure Cls (K:Fg) (C:Addr):Prop where
 pg:PySem.W.plainGet K C Str.empty=true
 hd:PySem.W.hasDictIn K C=true
 po:PySem.W.plainOver K C=true
 sa:PySem.W.findIn K (.ref C) "__setattr__"=some (some (.builtin "object.__setattr__"))
structure Con (K:Fg) (C:Addr) (f:Str) (v:V) (u:Value):Prop where
 at_:PySem.W.findIn K (.ref C) f=some (some u)
 rel:RelV v u
 get:PySem.W.specialIn K u "__get__"=some none
 cp:PySem.W.copiedNames.contains f=false
structure Meth (K:Fg) (C:Addr) (m:Str) (f:Addr):Prop where
 at_:PySem.W.findIn K (.ref C) m=some (some (.ref f))
 fn:PySem.W.isFn K (.ref f)=true
 kp:PySem.W.keepIn K (.ref f)=true
section
variable {X:Cx} {pins:List (Addr×Obj)} {σ:St} {H:Hp} {s:Shared} {a C dx:Addr} {fs:List (Str×V)} {f:Str} {v:V} {A:Around} {E:Value->Shared->Prop}
end
section
variable {X:Cx} {o e value:Expr} {f:Str} {pos pos' tpos:Pos} {ta tv:TE}
end
section
variable {X:Cx} {pins:List (Addr×Obj)} {σ:St} {H:Hp} {s:Shared} {A:Around} {E:Value->Shared->Prop} {Q:Value->Shared->Prop} {c:Value} {b:Bool}
inductive TyOf (K:Fg) (H:Hp):V->Value->Prop where
 | non:TyOf K H .non (.type "NoneType")
 | bl (x:Bool):TyOf K H (.bl x) (.type "bool")
 | int (i:Int):TyOf K H (.int i) (.type "int")
 | str (x:Str):TyOf K H (.str x) (.type "str")
 | flt (x:UInt64):TyOf K H (.flt x) (.type "float")
 | lst {a:Addr} {xs:List V} (e:H a=some (.lst xs)):TyOf K H (.ref a) (.type "list")
 | frz {a:Addr} {o:Obj} {xs:List V} (e:H a=some (.frz o (.lst xs))):TyOf K H (.ref a) (.type "list")
 | tup {a:Addr} {xs:List V} (e:H a=some (.tup xs)):TyOf K H (.ref a) (.type "tuple")
 | dK {a:Addr} {kvs:List (Key×V)} (e:H a=some (.dK kvs)):TyOf K H (.ref a) (.type "dict")
 | dT {a:Addr} {kvs:List (List Key×V)} (e:H a=some (.dT kvs)):TyOf K H (.ref a) (.type "dict")
 | ins {a C dx:Addr} {fs:List (Str×V)} (e:H a=some (.ins C dx fs)) (cl:Cls K C) (ha:PySem.W.findIn K (.ref C) "__class__"=some (some (.builtin "object.__class__")))
   (hn:PySem.W.specialIn K (.builtin "object.__class__") "__get__"=some (some (.builtin "getset_descriptor.__get__"))) (htk:PySem.W.takesIn K (.builtin "object.__class__")=some true)
   (hm:PySem.W.mroIn K C (.type "object")=some true):TyOf K H (.ref a) (.ref C)
end
structure Room (k:Nat) (A:Around):Prop where
 hd:A.handled=none
 dp:A.depth+3*k+5<recursionLimit
 un:A.units+16*k+200<cLine
theorem Room.mono {j k:Nat} {A:Around} (r:Room k A) (h:j<=k):Room j A:=⟨r.hd,by have:=r.dp;omega,by have:=r.un;omega⟩
theorem Room.deeper {k:Nat} {A:Around} (r:Room (k+1) A) (env:Env):Room k (A.deeper env):=
 ⟨r.hd,by have:=r.dp;show A.depth+1+3*k+5<_;omega,by have:=r.un;show A.units+3+16*k+200<_;omega⟩
theorem Room.depth {k:Nat} {A:Around} (r:Room k A):A.depth<recursionLimit:=by have:=r.dp;omega
theorem Room.units {k:Nat} {A:Around} (r:Room k A):A.units+64<cLine:=by have:=r.un;omega
def tNil:TA:=fun _ H Q=>Q [] H
def tCons (ta:TE) (tr:TA):TA:=fun σ H Q=>ta σ H fun x H1=>tr σ H1 fun xs H2=>Q (x::xs) H2
section
variable {X:Cx} {e:Expr} {es:List Expr} {te:TE} {t:TA} {pos:Pos}
theorem pa_nil:PA X [] tNil:=fun _ _ _ _ H Q I h=>Calls.spliced_nil ⟨[],H,I,.nil,h⟩
theorem pa_cons (ha:PE X e te) (hr:PA X es t) (hs:starEach (e::es) X.env=(false,eval e X.env)::starEach es X.env:=by rfl):PA X (e::es) (tCons te t):=by
 intro pos pins s σ H Q I h
 rw [hs]
 show wpAny _ _ (spliced ((false,eval e X.env)::backTo pos (starEach es X.env))) _ _ s
 refine Calls.spliced_cons (thn (ha pins s σ H _ I h) fun u s1 ⟨x,H1,I1,r1,q1⟩=>?_)
 exact thn (hr pos pins s1 σ H1 _ I1 q1) fun us s2 ⟨xs,H2,I2,r2,q2⟩=>⟨x::xs,H2,I2,.cons r1 r2,q2⟩
def tTup (t:TA):TE:=fun σ H Q=>t σ H fun xs H1=>xs.length<=sizeLine/\∀p,H1 p=none->Q (.ref p) (upd H1 p (.tup xs))
def tLst (t:TA):TE:=fun σ H Q=>t σ H fun xs H1=>xs.length<=sizeLine/\∀p,H1 p=none->Q (.ref p) (upd H1 p (.lst xs))
theorem pe_tup {x1} (h:PA X es t):PE X (.Tuple es x1 pos) (tTup t):=by
 intro pins s σ H Q I hq
 refine wpAny_Tuple_spliced (thn (h pos pins s σ H _ I hq) fun us s1 ⟨xs,H1,I1,r,z,q⟩=>⟨by rw [<-r.length];exact z,?_⟩)
 have hf:H1 s1.heap.objs.size=none:=I1.hok.fresh (Nat.le_refl _)
 refine ⟨.ref s1.heap.objs.size,upd H1 s1.heap.objs.size (.tup xs),I1.laid (t':=s1.toks) (fun b u e=>Heap.get?_push_of_some _ e) (Nat.le_refl _) ?_,rfl,q _ hf⟩
 exact ⟨z,us,r,⟨_,Heap.get?_push_size _ rfl,rfl,_,rfl⟩⟩
theorem pe_lst (h:PA X es t):PE X (.List es pos) (tLst t):=by
 intro pins s σ H Q I hq
 refine wpAny_List_spliced (thn (h pos pins s σ H _ I hq) fun us s1 ⟨xs,H1,I1,r,z,q⟩=>⟨by rw [<-r.length];exact z,?_⟩)
 have hf:H1 s1.heap.objs.size=none:=I1.hok.fresh (Nat.le_refl _)
 refine ⟨.ref s1.heap.objs.size,upd H1 s1.heap.objs.size (.lst xs),I1.laid (t':=s1.toks) (fun b u e=>Heap.get?_push_of_some _ e) (Nat.le_refl _) ?_,rfl,q _ hf⟩
 exact ⟨z,us,0,r,Heap.get?_push_size _ rfl⟩
end
abbrev Sp:=List V->Hp->VK->XK->Prop
abbrev CXT:=List Env->Hp->Shared->XK->Value->Shared->Prop
structure Env0 (P:Program) (w:World) (K:Fg) (mg:Str->Option Value) (base:Heap) (A:Around) (outer:List Env) (s:Shared) (H:Hp):Prop where
 frames:A.frames=some outer
 mod:Mod K mg base
 bs:∀b o,base.get? b=some o->s.heap.get? b=some o/\H b=none
 bsz:base.objs.size<=s.heap.objs.size
 funs:s.heap.FunFrames base outer
 frf:∀b∈frs outer,H b=none
 hok:HOk P w H s.heap
 bare:AllBare s.gens
def CE (outer:List Env) (P:Program) (w:World) (H:Hp) (s:Shared) (Q:VK) (u:Value) (s':Shared):Prop:=
 ∃v H',s'.os=s.os/\AllBare s'.gens/\Un (frs outer) [] H H' s.heap s'.heap/\HOk P w H' s'.heap/\RelV v u/\Q v H'
def CR (CX:CXT) (outer:List Env) (P:Program) (w:World) (H:Hp) (s:Shared) (Q:VK) (E:XK) (r:Result) (s':Shared):Prop:=
 match r with
 | .ok (.ret u)=>CE outer P w H s Q u s'
 | .ok _=>False
 | .error e=>CX outer H s E e s'
structure FnOk (P:Program) (w:World) (K:Fg) (mg:Str->Option Value) (base:Heap) (CX:CXT) (k:Nat) (f:Addr) (fd:FuncData) (ps:List Str) (sp:Sp):Prop where
 len:∀vs H Q E,sp vs H Q E->vs.length=ps.length
 run:∀(A:Around) (outer:List Env) (s:Shared) (H:Hp) (args:Args) (us:List Value) (vs:List V) (Q:VK) (E:XK),Room k A->Env0 P w K mg base A outer s H->BindsTo s fd args (ps.zip us)->Vals vs us->sp vs H Q E ->
  codeAny (model P w) A (.call (.ref f) args) (CR CX outer P w H s Q E) s
section
variable {X:Cx} {pins:List (Addr×Obj)} {σ:St} {H:Hp} {s s':Shared}
theorem Inv.env0 (I:Inv X pins σ H s):Env0 X.prog X.w X.K X.mg X.base X.A X.stack s H:=
 ⟨I.ok.frames,I.ok.mod,I.bs,Nat.le_trans I.ok.bsz I.sz,I.stack,I.stkFree,I.hok,I.bare⟩
theorem Inv.after {Q:VK} {u:Value} (I:Inv X pins σ H s) (h:CE X.stack X.prog X.w H s Q u s'):EP X pins σ Q u s':=by
 obtain ⟨v,H',os,bare,un,hok,r,q⟩:=h
 obtain ⟨hh,g,d,t,os'⟩:=s'
 obtain rfl:os'=s.os:=os
 exact ⟨v,H',I.call (h':=hh) (g':=g) (d':=d) (t':=t) (ch:=[]) un hok bare (fun b z=>absurd z (by simp)),r,q⟩
end
def tCall (sp:Sp) (dvs:List V) (E:XK) (t:TA):TE:=fun σ H Q=>t σ H fun vs H1=>sp (vs++dvs) H1 Q E
def Binds (K:Fg) (fd:FuncData) (ps:List Str) (ds:List Value):Prop:=
 ∀(s:Shared) (us:List Value),K.In s.heap->(us++ds).length=ps.length->BindsTo s fd ⟨us,[]⟩ (ps.zip (us++ds))
theorem Binds.all {K:Fg} {fd:FuncData} {ps:List Str} (h:∀us:List Value,us.length=ps.length->bindArgs fd ⟨us,[]⟩=pure (ps.zip us)):Binds K fd ps []:=fun s us _ hl=>by
 rw [append_nil] at hl ⊢
 exact .of_eq (h us hl)
def zKQ (CX:CXT) (X:Cx) (E:XK):Prop:=∀(pins:List (Addr×Obj)) (σ:St) (H:Hp) (s:Shared) (e:Value) (s':Shared),Inv X pins σ H s->CX X.stack H s E e s'->X.xe e s'
section
variable {X:Cx} {CX:CXT} {k:Nat} {f C:Addr} {fd:FuncData} {ps:List Str} {sp:Sp} {dvs:List V} {ds:List Value} {E:XK} {x m:Str} {p pos apos:Pos} {e o:Expr} {es:List Expr} {ta:TE} {t:TA}
theorem run_fn {pins:List (Addr×Obj)} {σ:St} {H:Hp} {s:Shared} {Q:VK} {us:List Value} {vs:List V} (F:FnOk X.prog X.w X.K X.mg X.base CX k f fd ps sp) (hr:Room k X.A) (hb:Binds X.K fd ps ds) (hd:Vals dvs ds) (hx:zKQ CX X E)
  (I:Inv X pins σ H s) (r:Vals vs us) (h:sp (vs++dvs) H Q E):wpAny (model X.prog X.w) X.A (call (.ref f) us) (EP X pins σ Q) X.xe s:=by
 have r2:Vals (vs++dvs) (us++ds):=r.append hd
 have hl:(us++ds).length=ps.length:=by rw [<-r2.length];exact F.len _ _ _ _ h
 refine wpAny_call (codeAny_mono (F.run X.A X.stack s H ⟨us,[]⟩ (us++ds) (vs++dvs) Q E hr I.env0 (hb s us I.kIn hl) r2 h) fun r s' hq=>?_)
 cases r with
 | error e=>exact hx pins σ H s e s' I hq
 | ok fl=>
  cases fl with
  | ret u=>exact I.after hq
  | next=>exact False.elim hq
  | brk=>exact False.elim hq
  | cont=>exact False.elim hq
theorem pe_call (F:FnOk X.prog X.w X.K X.mg X.base CX k f fd ps sp) (hr:Room k X.A) (hg:Gl X x) (hm:X.mg x=some (.ref f)) (hk:PySem.W.keepIn X.K (.ref f)=true) (hb:Binds X.K fd ps ds) (hd:Vals dvs ds) (hx:zKQ CX X E)
  (ha:PA X (e::es) t) (hdb:(x==("__debug__":Str))=false:=by decide) (he:starEach (e::es) X.env=(false,eval e X.env)::starEach es X.env:=by rfl) (hpl:(backTo pos (starEach es X.env)).any (·.1)=false:=by rfl) :
  PE X (.Call (.Name x p) (e::es) [] pos) (tCall sp dvs E t):=by
 intro pins s σ H Q I h
 refine wpAny_Call_Name_kw (ld_glob I hg hm ?_ hdb)
 refine PySem.W.callWith_K (h₀:=X.base) I.ok.mod.kin hk (thn (ha pos pins s σ H _ I h) fun us s1 ⟨vs,H1,I1,r,q⟩=>⟨I1.kIn,?_⟩) he hpl
 exact run_fn F hr hb hd hx I1 r q
structure Mk (K:Fg) (C f:Addr):Prop where
 makes:PySem.W.makesIn K C=true
 init:PySem.W.findIn K (.ref C) "__init__"=some (some (.ref f))
 fn:PySem.W.isFn K (.ref f)=true
 kp:PySem.W.keepIn K (.ref C)=true
end
section
variable {X:Cx} {CX:CXT} {k:Nat} {f C:Addr} {fd:FuncData} {ps ks:List Str} {sp:Sp} {E:XK} {x m:Str} {p pos apos kpos:Pos} {e o:Expr} {es:List Expr} {kws:List Keyword} {te ta:TE} {t tk:TA} {nm:Option Str}
structure KBinds (K:Fg) (fd:FuncData) (ps ks:List Str) (g:List Value->List Value->List Value) (gV:List V->List V->List V):Prop where
 to:∀(s:Shared) (us ws:List Value),K.In s.heap->(g us ws).length=ps.length->BindsTo s fd ⟨us,ks.zip ws⟩ (ps.zip (g us ws))
 rel:∀{vs:List V} {us:List Value} {zs:List V} {ws:List Value},Vals vs us->Vals zs ws->Vals (gV vs zs) (g us ws)
variable {g:List Value->List Value->List Value} {gV:List V->List V->List V}
end
structure FnScope (N P:List Str) (sc:Scope):Prop where
 kind:sc.kind=.function
 co:sc.isCoroutine=false
 gen:sc.isGenerator=false
 nd:N.Nodup
 pre:N.take P.length=P
 par:∀x∈P,sc.names.lookup x=some .local\/sc.names.lookup x=some .cell
 nofree:∀y∈sc.names,y.2≠.free
theorem bindL_out {kindOf:Str->Option NameKind} {x:Str}:∀{binds:List (Str×Value)} {m:Str->Option Value},(∀v,(x,v)∉binds)->bindL kindOf binds m x=m x
 | [],_,_=>rfl
 | (n,v)::r,m,h=>by
  unfold bindL
  rw [bindL_out fun w hw=>h w (mem_cons_of_mem _ hw)]
  split
  ·have:x≠n:=by rintro rfl;exact h v mem_cons_self
   simp [this]
  ·rfl
theorem bindC_out {kindOf:Str->Option NameKind} {x:Str}:∀{binds:List (Str×Value)} {m:Str->Option Value},(∀v,(x,v)∉binds)->bindC kindOf binds m x=m x
 | [],_,_=>rfl
 | (n,v)::r,m,h=>by
  unfold bindC
  rw [bindC_out fun w hw=>h w (mem_cons_of_mem _ hw)]
  split
  ·rfl
  ·have:x≠n:=by rintro rfl;exact h v mem_cons_self
   simp [this]
theorem bindL_get {kindOf:Str->Option NameKind} {x:Str} {v:Value}:∀{P:List Str} {vs:List Value} {i:Nat} {m:Str->Option Value},P.Nodup->P[i]?=some x->vs[i]?=some v->kindOf x=some .local ->
  bindL kindOf (P.zip vs) m x=some v
 | [],_,_,_,_,h,_,_=>by simp at h
 | _::_,[],_,_,_,_,h,_=>by simp at h
 | p::P,w::vs,0,m,nd,h1,h2,hk=>by
  simp at h1 h2;subst h1;subst h2
  show bindL kindOf ((p,w)::P.zip vs) m p=_
  unfold bindL
  rw [bindL_out fun v hv=>(List.nodup_cons.mp nd).1 (List.of_mem_zip hv).1,if_pos hk]
  simp
 | p::P,w::vs,i+1,m,nd,h1,h2,hk=>by
  show bindL kindOf ((p,w)::P.zip vs) m x=_
  unfold bindL
  exact bindL_get (i:=i) (List.nodup_cons.mp nd).2 (by simpa using h1) (by simpa using h2) hk
theorem bindC_get {kindOf:Str->Option NameKind} {x:Str} {v:Value}:∀{P:List Str} {vs:List Value} {i:Nat} {m:Str->Option Value},P.Nodup->P[i]?=some x->vs[i]?=some v->kindOf x≠some .local ->
  bindC kindOf (P.zip vs) m x=some v
 | [],_,_,_,_,h,_,_=>by simp at h
 | _::_,[],_,_,_,_,h,_=>by simp at h
 | p::P,w::vs,0,m,nd,h1,h2,hk=>by
  simp at h1 h2;subst h1;subst h2
  show bindC kindOf ((p,w)::P.zip vs) m p=_
  unfold bindC
  rw [bindC_out fun v hv=>(List.nodup_cons.mp nd).1 (List.of_mem_zip hv).1,if_neg hk]
  simp
 | p::P,w::vs,i+1,m,nd,h1,h2,hk=>by
  show bindC kindOf ((p,w)::P.zip vs) m x=_
  unfold bindC
  exact bindC_get (i:=i) (List.nodup_cons.mp nd).2 (by simpa using h1) (by simpa using h2) hk
def start (N:List Str) (vs:List V):St:=vs.map some++List.replicate (N.length-vs.length) none
def cxOf (CX:CXT) (P:Program) (w:World) (K:Fg) (mg:Str->Option Value) (base:Heap) (N:List Str) (qual:Str) (scope:Scope) (f:Addr) (cd:Value) (A:Around) (outer:List Env) (s:Shared) (H:Hp) (E:XK):Cx where
 prog:=P
 w:=w
 K:=K
 mg:=mg
 base:=base
 A:=A.deeper (envOfC qual scope s.heap.objs.size f cd)
 N:=N
 s₀:=s
 H₀:=H
 env:=envOfC qual scope s.heap.objs.size f cd
 outer:=outer
 stack:=envOfC qual scope s.heap.objs.size f cd::outer
 ex:=[]
 calm:=true
 fn:=fun _=>true
 pn:=[]
 xe:=fun e s'=>wpAny (model P w) (A.deeper (envOfC qual scope s.heap.objs.size f cd)) (leaving (envOfC qual scope s.heap.objs.size f cd) e) (fun _ s''=>CX outer H s E e s'') (fun e' s''=>CX outer H s E e' s'') s'
theorem cell_has {sc:Scope} {n:Nat} {x:Str} (h:sc.names.lookup x=some .cell):∃c,(cellsFrom n sc.names []).lookup x=some c:=by
 have q:=PySem.W.cellsFrom_some sc.names n [] (.inl h)
 exact Option.isSome_iff_exists.mp q
theorem inv_start {CX:CXT} {P:Program} {w:World} {K:Fg} {mg:Str->Option Value} {base:Heap} {N ps:List Str} {qual:Str} {scope:Scope} {f:Addr} {cd:Value} {A:Around} {outer:List Env} {s s1:Shared} {H:Hp} {E:XK} {us:List Value} {vs:List V}
  (S:FnScope N ps scope) (hd:A.handled=none) (e0:Env0 P w K mg base A outer s H) (hl:vs.length=ps.length) (r:Vals vs us)
  (x:InCallC s s.heap.objs.size (bindL (envOfC qual scope s.heap.objs.size f cd).kindOf (ps.zip us) fun _=>none) (cellsFrom (s.heap.objs.size+1) scope.names []) (bindC (envOfC qual scope s.heap.objs.size f cd).kindOf (ps.zip us) fun _=>none) s1) :
  Inv (cxOf CX P w K mg base N qual scope f cd A outer s H E) [] (start N vs) H s1:=by
 have hpl:ps.length<=N.length:=by have:=congrArg List.length S.pre;rw [length_take] at this;omega
 obtain ⟨h1,tk,rfl,hk⟩:=x.done
 have noA:∀b:Addr,b∉(cxOf CX P w K mg base N qual scope f cd A outer s H E).ex:=fun b z=>absurd (show b∈([]:List Addr) from z) (by simp)
 refine ⟨⟨e0.mod,S.kind,rfl,rfl,Nat.le_refl _,fun y z c h1 h2=>?_,fun y hy=>?_,fun y c _ h=>?_,fun _=>hd,Around.frames_deeper e0.frames,.inr ⟨rfl,rfl⟩,fun b z=>absurd z (noA b),e0.bs,e0.bsz,fun b _ _=>noA b,fun b z=>absurd z (noA b),e0.funs,e0.frf⟩,
  rfl,e0.bare,Un.kept hk,⟨_,x.toInCall.ns,fun i y v h1 h2 h3=>?_⟩,fun y c h=>⟨_,x.cell y c h⟩,e0.hok.fresh (Nat.le_refl _),fun y c h=>?_,fun p hp=>absurd (show p∈([]:List (Addr×Obj)) from hp) (by simp),e0.hok.kept hk,?_⟩
 ·exact name_of_addr x.apart (PySem.mem_of_lookup h1) (PySem.mem_of_lookup h2)
 ·have hy:scope.names.lookup y=some .cell\/scope.names.lookup y=some .free:=hy
  rcases hy with hy | hy
  ·exact cell_has hy
  ·exact absurd rfl (S.nofree _ (PySem.mem_of_lookup hy))
 ·exact Nat.le_of_lt (x.above y c (PySem.mem_of_lookup h))
 ·have hi:i<vs.length:=by
   unfold start at h2
   by_cases hi:i<vs.length
   ·exact hi
   ·rw [getElem?_append_right (by simpa using hi)] at h2
    rw [getElem?_replicate] at h2
    split at h2<;>cases h2
  have ha:vs[i]?=some v:=by
   unfold start at h2
   rw [getElem?_append_left (by simpa using hi),getElem?_map] at h2
   cases e:vs[i]? with
   | none=>rw [e] at h2;cases h2
   | some a=>rw [e] at h2;cases h2;rfl
  obtain ⟨u,hu,rv⟩:=r.get ha
  have hp:ps[i]?=some y:=by
   rw [<-S.pre,List.getElem?_take_of_lt (by omega)];exact h1
  have ndP:ps.Nodup:=by rw [<-S.pre];exact S.nd.sublist (List.take_sublist _ _)
  refine ⟨u,rv,?_⟩
  rcases S.par y (mem_of_getElem? hp) with k | k
  ·exact .inl ⟨k,bindL_get ndP hp hu k⟩
  ·obtain ⟨c,e⟩:=cell_has (n:=s.heap.objs.size+1) k
   refine .inr ⟨.inl k,c,e,?_⟩
   have q:=x.cell y c e
   rw [bindC_get ndP hp hu (by show scope.names.lookup y≠_;rw [k];decide)] at q
   exact q
 ·exact e0.hok.fresh (Nat.le_of_lt (x.above y c (PySem.mem_of_lookup h)))
 ·unfold start
  show _=N.length
  rw [length_append,length_map,List.length_replicate]
  omega
theorem fn_of {CX:CXT} {P:Program} {w:World} {K:Fg} {mg:Str->Option Value} {base:Heap} {k:Nat} {f:Addr} {name qual:Str} {params:Arguments} {body:List Stmt} {scope:Scope} {dV kV doc pm cdv ct oc:Value} {an od:Option Addr}
  {osl:Array (Option Value)} {N ps:List Str} {sp:Sp} (lk:K.lookup f=some ⟨oc,od,.func (PySem.W.fnOf name qual params body scope dV kV doc pm an cdv ct),osl⟩) (hcd:PySem.W.codeIn K cdv qual=true) (S:FnScope N ps scope)
  (len:∀vs H Q E,sp vs H Q E->vs.length=ps.length)
  (hbody:∀(A:Around) (outer:List Env) (s:Shared) (H:Hp) (vs:List V) (Q:VK) (E:XK),Room k (A.deeper (envOfC qual scope s.heap.objs.size f cdv))->sp vs H Q E ->
   ∃t,PSs (cxOf CX P w K mg base N qual scope f cdv A outer s H E) body t/\t { nx:=fun _ H'=>Q .non H',rt:=Q } (start N vs) H) :
  FnOk P w K mg base CX (k+1) f (PySem.W.fnOf name qual params body scope dV kV doc pm an cdv ct) ps sp:=by
 refine ⟨len,fun A outer s H args us vs Q E hr e0 hb r hsp=>?_⟩
 have hl:=len _ _ _ _ hsp
 have KX:K.In s.heap:=e0.mod.kin.keeps fun b o e=>(e0.bs b o e).1
 have lim:s.heap.NoLimit:=e0.mod.nolimit.keeps fun b o e=>(e0.bs b o e).1
 have hkind:∀y∈ps.zip us,scope.names.lookup y.1=some .local\/(scope.names.lookup y.1=some .cell/\((cellsFrom (s.heap.objs.size+1) scope.names []).lookup y.1).isSome=true):=fun ⟨n,v⟩ hy=>by
  rcases S.par n (List.of_mem_zip hy).1 with q | q
  ·exact .inl q
  ·exact .inr ⟨q,PySem.W.cellsFrom_some _ _ _ (.inl q)⟩
 refine codeAny_call_function hr.depth (KX _ _ lk) rfl S.co S.gen rfl (PySem.W.codeRec_of KX hcd) (hb _ _ _ _ ?_)
 refine wpAny_newFunctionEnv_cells S.kind hkind fun env he s1 x=>?_
 subst he
 refine ⟨lim.keeps x.toInCall.keep,codeAny_func ?_⟩
 obtain ⟨t,ht,hq⟩:=hbody A outer s H vs Q E (hr.deeper _) hsp
 have I:Inv (cxOf CX P w K mg base N qual scope f cdv A outer s H E) [] (start N vs) H s1:=inv_start S hr.hd e0 hl r x
 refine wpAny_mono (ht [] s1 (start N vs) H _ I hq) (fun fl s' hs=>?_) fun e s' hs=>hs
 have fin:∀{σ':St} {H':Hp} {v:V} {u:Value},Inv (cxOf CX P w K mg base N qual scope f cdv A outer s H E) [] σ' H' s'->RelV v u->Q v H'->CE outer P w H s Q u s':=
  fun {σ' H' v u} J rv q=>⟨v,H',J.os,J.bare,J.base,J.hok,rv,q⟩
 cases fl with
 | ret u=>
  obtain ⟨v,σ',H',J,rv,q⟩:=hs
  exact fin J rv q
 | next=>
  obtain ⟨σ',H',J,q⟩:=hs
  exact fin (v:=V.non) (u:=Value.none) J rfl q
 | brk=>
  obtain ⟨_,_,_,q⟩:=hs
  exact False.elim q
 | cont=>
  obtain ⟨_,_,_,q⟩:=hs
  exact False.elim q
section
variable {X:Cx} {x:Str} {p pos:Pos} {e:Expr} {es:List Expr} {t:TA} {id T:String} {r:List V->Hp->VK->Prop}
def tCB (r:List V->Hp->VK->Prop) (t:TA):TE:=fun σ H Q=>t σ H fun vs H1=>r vs H1 Q
theorem pe_callB (hc:CallR X (.builtin id) r) (hg:Gl X x) (hm:X.mg x=none) (hv:bootBuiltins x=some (.builtin id)) (ha:PA X (e::es) t) (hn:x ≠ "__name__":=by decide) (hdb:(x==("__debug__":Str))=false:=by decide)
  (he:starEach (e::es) X.env=(false,eval e X.env)::starEach es X.env:=by rfl) (hpl:(backTo pos (starEach es X.env)).any (·.1)=false:=by rfl):PE X (.Call (.Name x p) (e::es) [] pos) (tCB r t):=by
 intro pins s σ H Q I h
 refine wpAny_Call_Name_kw (zGL I hg hm hv ?_ hn hdb)
 exact PyProof.Rows.callWith_builtin1 (thn (ha pos pins s σ H _ I h) fun us s1 ⟨vs,H1,I1,r1,q1⟩=>hc pins s1 σ H1 vs us Q I1 r1 q1) he hpl
theorem pe_callTy (hc:CallR X (.type T) r) (hg:Gl X x) (hm:X.mg x=none) (hv:bootBuiltins x=some (.type T)) (ha:PA X (e::es) t) (hn:x ≠ "__name__":=by decide) (hdb:(x==("__debug__":Str))=false:=by decide)
  (he:starEach (e::es) X.env=(false,eval e X.env)::starEach es X.env:=by rfl) (hpl:(backTo pos (starEach es X.env)).any (·.1)=false:=by rfl):PE X (.Call (.Name x p) (e::es) [] pos) (tCB r t):=by
 intro pins s σ H Q I h
 refine wpAny_Call_Name_kw (zGL I hg hm hv ?_ hn hdb)
 exact PyProof.Rows.callWith_type1 (thn (ha pos pins s σ H _ I h) fun us s1 ⟨vs,H1,I1,r1,q1⟩=>hc pins s1 σ H1 vs us Q I1 r1 q1) he hpl
end
end L2
namespace HT
open PySem PyProof.Rows
section
open PySem.SeqAt
open PySem.AutoSeq1 (wpAny_loadPart')
open PySem.MeetsSeq PySem.MeetsSeq2 PySem.MeetsSeq3
end
section
variable {prog:Program} {w:World} {A:Around} {E:Value->Shared->Prop} {s:Shared}
def sIx (n d:Nat):Option Int->Nat
 | none=>d
 | some v=>if v<0 then (v+(n:Int)).toNat else min v.toNat n
theorem sIx_none (n d:Nat):sIx n d none=d:=rfl
theorem sIx_nat (n d k:Nat):sIx n d (some (k:Int))=min k n:=by
 show (if (k:Int)<0 then ((k:Int)+(n:Int)).toNat else min (k:Int).toNat n)=min k n
 rw [if_neg (by omega),Int.toNat_natCast]
end
end HT
namespace L2
open PySem PySem.Spec PyProof.Rows
abbrev TO:=St->Hp->(Option Int->Hp->Prop)->Prop
def PO (X:Cx) (e:Option Expr) (t:TO):Prop:=
 ∀(pins:List (Addr×Obj)) (s:Shared) (σ:St) (H:Hp) (Q:Option Int->Hp->Prop),Inv X pins σ H s->t σ H Q ->
  wpAny (model X.prog X.w) X.A (evalPart e X.env) (fun u s'=>∃o H',Inv X pins σ H' s'/\IsPart u o/\Q o H') X.xe s
def tNoPart:TO:=fun _ H Q=>Q none H
def tPart (t:TE):TO:=fun σ H Q=>t σ H fun x H1=>∃i,x=.int i/\Q (some i) H1
section
variable {X:Cx} {e:Expr} {te:TE} {lo hi:Option Expr} {tl th:TO} {pos p2:Pos}
theorem po_none:PO X none tNoPart:=by
 intro pins s σ H Q I h
 rw [evalPart_none]
 exact wpAny_pure ⟨none,H,I,.none,h⟩
theorem po_some (h:PE X e te):PO X (some e) (tPart te):=by
 intro pins s σ H Q I hw
 rw [evalPart_some]
 refine thn (h pins s σ H _ I hw) fun u s1 ⟨x,H1,I1,r1,q1⟩=>?_
 obtain ⟨i,rfl,q⟩:=q1
 obtain ⟨t,rfl⟩:=r1
 exact ⟨some i,H1,I1,.int i t,q⟩
def SlR (X:Cx) (r:V->Option Int->Option Int->Hp->VK->Prop):Prop:=
 ∀(pins:List (Addr×Obj)) (s:Shared) (σ:St) (H:Hp) (x:V) (v vl vu:Value) (lo hi:Option Int) (sl:Addr) (Q:VK),Inv X pins σ H s->RelV x v->s.heap.IsSliceOf sl vl vu .none->IsPart vl lo->IsPart vu hi->r x lo hi H Q ->
  ∃T id,typeLookup (.type T) "__getitem__"=pure (some (.builtin id))/\s.TypeIs v T/\wpAny (model X.prog X.w) X.A (getItem v (.ref sl)) (EP X pins σ Q) X.xe s
def tSl (r:V->Option Int->Option Int->Hp->VK->Prop) (te:TE) (tl th:TO):TE:=fun σ H Q=>te σ H fun x H1=>tl σ H1 fun l H2=>th σ H2 fun u H3=>r x l u H3 Q
theorem pe_slice {r:V->Option Int->Option Int->Hp->VK->Prop} (hr:SlR X r) (he:PE X e te) (hl:PO X lo tl) (hu:PO X hi th):PE X (.Subscript e (.Slice lo hi none p2) pos) (tSl r te tl th):=by
 intro pins s σ H Q I h
 refine Subscript_ (thn (he pins s σ H _ I h) fun v s1 ⟨x,H1,I1,r1,q1⟩=>?_)
 refine wpAny_Slice (thn (hl pins s1 σ H1 _ I1 q1) fun vl s2 ⟨l,H2,I2,pl,q2⟩=>thn (hu pins s2 σ H2 _ I2 q2) fun vu s3 ⟨u,H3,I3,pu,q3⟩=>?_)
 rw [evalPart_none]
 refine wpAny_pure ?_
 have I4:Inv X pins σ H3 { s3 with heap:=s3.heap.push { cls:=.type "slice",data:=.fields #[vl,vu,.none] } }:=I3.kept (t':=s3.toks) fun b ob q=>Heap.get?_push_of_some _ q
 obtain ⟨T,id,hT,ht,hg⟩:=hr pins { s3 with heap:=s3.heap.push { cls:=.type "slice",data:=.fields #[vl,vu,.none] } } σ H3 x v vl vu l u s3.heap.objs.size Q I4 r1 (Heap.IsSliceOf.new ..) pl pu q3
 show wpAny (model X.prog X.w) X.A (subscriptTail e (.Slice lo hi none p2) v (.ref s3.heap.objs.size)) (EP X pins σ Q) X.xe { s3 with heap:=s3.heap.push { cls:=.type "slice",data:=.fields #[vl,vu,.none] } }
 exact tail_any (ops:=[.ref s3.heap.objs.size,v]) ht hT hg (by with_unfolding_all rfl)
def cutV (xs:List V) (lo hi:Option Int):List V:=(xs.drop (HT.sIx xs.length 0 lo)).take (HT.sIx xs.length xs.length hi-HT.sIx xs.length 0 lo)
theorem cutV_length (xs:List V) (lo hi:Option Int):(cutV xs lo hi).length<=xs.length:=by
 unfold cutV
 rw [length_take,length_drop]
 omega
end
def ixN (n:Nat) (i:Int):Option Nat:=if 0<=i then (if i<n then some i.toNat else none) else if -(n:Int)<=i then some (i+n).toNat else none
def atI {α:Type} (xs:List α) (i:Int):Option α:=(ixN xs.length i).bind fun j=>xs[j]?
theorem ixN_seq {n:Nat} {i:Int} {j:Nat} (h:ixN n i=some j):seqIndex? i n=some j/\j<n/\-(n:Int)<=i/\i<n:=by
 unfold ixN at h
 by_cases h0:0<=i
 ·rw [if_pos h0] at h
  by_cases h1:i<n
  ·rw [if_pos h1] at h
   have e:i.toNat=j:=Option.some.inj h
   exact ⟨by rw [seqIndex_of h0 h1,e],by omega,by omega,h1⟩
  ·rw [if_neg h1] at h;cases h
 ·rw [if_neg h0] at h
  by_cases h1:-(n:Int)<=i
  ·rw [if_pos h1] at h
   have e:(i+n).toNat=j:=Option.some.inj h
   exact ⟨by rw [seqIndex_neg (by omega) h1,e],by omega,h1,by omega⟩
  ·rw [if_neg h1] at h;cases h
theorem zJ6 {α:Type} {xs:List α} {i:Int} {v:α} (h:atI xs i=some v):∃j,seqIndex? i xs.length=some j/\xs[j]?=some v/\j<xs.length/\-(xs.length:Int)<=i/\i<xs.length:=by
 unfold atI at h
 cases e:ixN xs.length i with
 | none=>rw [e] at h;cases h
 | some j=>
  rw [e] at h
  obtain ⟨h1,h2,h3,h4⟩:=ixN_seq e
  exact ⟨j,h1,h,h2,h3,h4⟩
def zJ7 (b:Expr):Prop:=∀o i,subscripted b false o i=operate [o,i] (getItem o i)
def IxR (X:Cx) (r:R2):Prop:=
 ∀(value slice:Expr) (pins:List (Addr×Obj)) (s:Shared) (σ:St) (H:Hp) (x y:V) (v u:Value) (Q:VK),Inv X pins σ H s->RelV x v->RelV y u->r x y H Q ->
  subscripted slice false v u=operate [v,u] (getItem v u)->wpAny (model X.prog X.w) X.A (subscriptTail value slice v u) (EP X pins σ Q) X.xe s
def MtR (X:Cx) (id:String) (r:V->List V->Hp->VK->Prop):Prop:=
 ∀(pins:List (Addr×Obj)) (s:Shared) (σ:St) (H:Hp) (x:V) (xs:List V) (v:Value) (us:List Value) (Q:VK),Inv X pins σ H s->RelV x v->Vals xs us->r x xs H Q ->
  wpAny (model X.prog X.w) X.A (call (.builtin id) (v::us)) (EP X pins σ Q) X.xe s
section
variable {X:Cx} {a b:Expr} {ta tb:TE} {pos:Pos}
theorem IxR.or {r r':R2} (h:IxR X r) (h':IxR X r'):IxR X (fun x y H Q=>r x y H Q\/r' x y H Q):=by
 intro value slice pins s σ H x y v u Q I rx ry q hs
 rcases q with q | q
 ·exact h value slice pins s σ H x y v u Q I rx ry q hs
 ·exact h' value slice pins s σ H x y v u Q I rx ry q hs
theorem pe_ix {r:R2} (hr:IxR X r) (ha:PE X a ta) (hb:PE X b tb) (hs:zJ7 b):PE X (.Subscript a b pos) (tOp r ta tb):=by
 intro pins s σ H Q I h
 exact Subscript_ (binT ha hb I h fun v u s2 x y H2 I2 rx ry q=>hr a b pins s2 σ H2 x y v u Q I2 rx ry q (hs _ _))
def rIxL (K:Fg):R2:=fun x y H Q=>∃p xs i v,x=.ref p/\y=.int i/\SqL K H p xs/\atI xs i=some v/\Q v H
def rIxT (K:Fg):R2:=fun x y H Q=>∃p xs i v,x=.ref p/\y=.int i/\SqT K H p xs/\atI xs i=some v/\Q v H
def rIxS:R2:=fun x y H Q=>∃z i c,x=.str z/\y=.int i/\z.length<=sizeLine/\atI z.cps.toList i=some c/\Q (.str ⟨#[c]⟩) H
theorem ix_list:IxR X (rIxL X.K):=by
 intro value slice pins s σ H x y v u Q I rx ry h hs
 obtain ⟨p,xs,i,z,rfl,rfl,hq,he,q⟩:=h
 cases rx
 obtain ⟨t,rfl⟩:=ry
 obtain ⟨its,r,pl,hz⟩:=I.list hq
 obtain ⟨j,h1,h2,h3,h4,h5⟩:=zJ6 he
 obtain ⟨w,ew,rw'⟩:=r.get h2
 have hl:=r.length
 have hn:=zH9
 have fin:EP X pins σ Q w s:=⟨z,H,I,rw',q⟩
 by_cases h0:0<=i
 ·have hj:i.toNat=j:=by
   rw [seqIndex_of h0 h5] at h1
   exact Option.some.inj h1
  exact item_listR pl.isList h0 (by omega) (by rw [hj];simpa using ew) fin hs
 ·have hj:(i+(its.toArray.size:Int)).toNat=j:=by
   rw [seqIndex_neg (by omega) h4] at h1
   rw [size_toArray,<-hl]
   exact Option.some.inj h1
  exact subscriptTail_builtinR (x:=w) pl.isList.typeIs slot_list_getitem.lookup
   (wpAny_getItem_list_neg (Q:=fun r s'=>r=w/\EP X pins σ Q r s') pl.isList (by omega) (by rw [size_toArray]<;>omega) (by omega) (by rw [hj];simpa using ew) ⟨rfl,fin⟩) hs
theorem ix_tup:IxR X (rIxT X.K):=by
 intro value slice pins s σ H x y v u Q I rx ry h hs
 obtain ⟨p,xs,i,z,rfl,rfl,hq,he,q⟩:=h
 cases rx
 obtain ⟨t,rfl⟩:=ry
 obtain ⟨its,r,pl,hz⟩:=I.tuple hq
 obtain ⟨j,h1,h2,h3,h4,h5⟩:=zJ6 he
 obtain ⟨w,ew,rw'⟩:=r.get h2
 have hl:=r.length
 have hn:=zH9
 have fin:EP X pins σ Q w s:=⟨z,H,I,rw',q⟩
 exact subscriptTail_builtinR (x:=w) pl.typeIs slot_tuple_getitem.lookup
  (getItem_tuple (j:=j) (Q:=fun r s'=>r=w/\EP X pins σ Q r s') pl (by omega) (by omega) (by rw [size_toArray,<-hl];exact h1) (by simpa using ew) ⟨rfl,fin⟩) hs
theorem ix_str:IxR X rIxS:=by
 intro value slice pins s σ H x y v u Q I rx ry h hs
 obtain ⟨z,i,c,rfl,rfl,hz,he,q⟩:=h
 obtain ⟨t,rfl⟩:=rx
 obtain ⟨t',rfl⟩:=ry
 obtain ⟨j,h1,h2,h3,h4,h5⟩:=zJ6 he
 have hl:z.cps.toList.length=z.length:=by simp [Str.length]
 rw [hl] at h1 h4 h5
 have hn:=zH9
 exact tail_any (typeIs_str s z t) slot_str_getitem.lookup (getItem_str (c:=c) (by
  have e1:decide (i < -(2 ^ 63:Int))=false:=decide_eq_false (by omega)
  have e2:decide (i≥2 ^ 63)=false:=decide_eq_false (by omega)
  rw [e1,e2,Bool.or_false]) (by rw [h1];simpa using h2) ⟨.str ⟨#[c]⟩,H,I.tok _,⟨_,rfl⟩,q⟩) hs
def rIx (K:Fg):R2:=fun x y H Q=>rIxL K x y H Q\/rIxT K x y H Q\/rIxS x y H Q
theorem ix_seq:IxR X (rIx X.K):=ix_list.or (ix_tup.or ix_str)
theorem mapSeq_set (its:List Value) (n j:Nat) (u:Value):Obj.mapSeq (·.setIfInBounds j u) { cls:=.type "list",data:=.seq its.toArray n }={ cls:=.type "list",data:=.seq (its.set j u).toArray n }:=by
 simp [Obj.mapSeq]
theorem Inv.lst {pins:List (Addr×Obj)} {σ:St} {H:Hp} {s:Shared} {p:Addr} {xs:List V} (I:Inv X pins σ H s) (h:H p=some (.lst xs)) :
  ∃(its:List Value) (n:Nat),Vals xs its/\s.heap.get? p=some { cls:=.type "list",data:=.seq its.toArray n }/\xs.length<=sizeLine:=by
 obtain ⟨z,its,n,r,e⟩:=I.hok p _ h
 exact ⟨its,n,r,e,z⟩
theorem Inv.lstUpd {pins:List (Addr×Obj)} {σ:St} {H:Hp} {s:Shared} {p:Addr} {xs ys:List V} {its its':List Value} {n n':Nat} {f:Obj->Obj} (I:Inv X pins σ H s) (h:H p=some (.lst xs))
  (ho:s.heap.get? p=some { cls:=.type "list",data:=.seq its.toArray n }) (hf:f { cls:=.type "list",data:=.seq its.toArray n }={ cls:=.type "list",data:=.seq its'.toArray n' }) (r:Vals ys its') (hz:ys.length<=sizeLine) (t:Nat) :
  Inv X pins σ (upd H p (.lst ys)) { s with heap:=s.heap.update p f,toks:=t }:=by
 have e:(s.heap.update p f).get? p=some { cls:=.type "list",data:=.seq its'.toArray n' }:=by
  rw [Heap.get?_update_self f ho (by rw [hf]<;>rfl),hf]
 refine I.write (x:=p) (e:=p) (by rw [h];trivial) (.inl rfl) (fun b u hb q=>(Heap.get?_update_other _ _ (Ne.symm hb)).trans q) ⟨_,e⟩ ?_
 exact ⟨hz,its',n',r,e⟩
def rSetL:V->V->V->Hp->(Hp->Prop)->Prop:=fun o i v H Q=>∃p xs k j,o=.ref p/\i=.int k/\H p=some (.lst xs)/\ixN xs.length k=some j/\Q (upd H p (.lst (xs.set j v)))
theorem set_list:PSet X rSetL:=by
 intro pins s σ H o i v ov iv u Q I ro ri rv h
 obtain ⟨p,xs,k,j,rfl,rfl,hp,hj,q⟩:=h
 cases ro
 obtain ⟨t,rfl⟩:=ri
 obtain ⟨its,n,r,ho,hz⟩:=I.lst hp
 obtain ⟨h1,h2,h3,h4⟩:=ixN_seq hj
 have hl:=r.length
 have hn:=zH9
 have I':Inv X pins σ (upd H p (.lst (xs.set j v))) { s with heap:=s.heap.update p (Obj.mapSeq (·.setIfInBounds j u)) }:=
  I.lstUpd hp ho (mapSeq_set its n j u) (r.set rv j) (by rw [length_set];exact hz) s.toks
 by_cases h0:0<=k
 ·have hk:k.toNat=j:=by
   rw [seqIndex_of h0 h4] at h1
   exact Option.some.inj h1
  exact PySem.W.ki_setAt ho h0 (by omega) (by rw [size_toArray,<-hl];exact h4) (by rw [hk];exact ⟨_,I',q⟩)
 ·have hk:(k+(its.toArray.size:Int)).toNat=j:=by
   rw [seqIndex_neg (by omega) h3] at h1
   rw [size_toArray,<-hl]
   exact Option.some.inj h1
  exact PySem.W.ki_setBack ho (by omega) (by rw [size_toArray,<-hl];exact h3) (by omega) (by rw [hk];exact ⟨_,I',q⟩)
theorem slice_bounds (lo hi:Option Int) (n:Nat):(sliceBounds lo hi none n).1=((HT.sIx n 0 lo:Nat):Int)/\(sliceBounds lo hi none n).2.1=((HT.sIx n n hi:Nat):Int)/\(sliceBounds lo hi none n).2.2=1:=by
 refine ⟨?_,?_,rfl⟩
 ·cases lo with
  | none=>simp [sliceBounds,HT.sIx]
  | some i=>
   simp only [sliceBounds,HT.sIx,Option.getD_none,show (1:Int)>0 by decide,if_true]
   by_cases h:i<0
   ·simp only [h,if_true]<;>omega
   ·simp only [h,if_false]<;>omega
 ·cases hi with
  | none=>simp [sliceBounds,HT.sIx]
  | some i=>
   simp only [sliceBounds,HT.sIx,Option.getD_none,show (1:Int)>0 by decide,if_true]
   by_cases h:i<0
   ·simp only [h,if_true]<;>omega
   ·simp only [h,if_false]<;>omega
theorem slicePick_cut (its:List Value) (lo hi:Option Int):slicePick its.toArray lo hi none=((its.drop (HT.sIx its.length 0 lo)).take (HT.sIx its.length its.length hi-HT.sIx its.length 0 lo)).toArray:=by
 obtain ⟨h1,h2,h3⟩:=slice_bounds lo hi its.toArray.size
 unfold slicePick
 rw [h1,h2,h3]
 simp only [sliceRange_one,pick_run,size_toArray]<;>rfl
def rSlL (K:Fg):V->Option Int->Option Int->Hp->VK->Prop:=fun x lo hi H Q=>∃a xs,x=.ref a/\SqL K H a xs/\∀p,H p=none->Q (.ref p) (upd H p (.lst (cutV xs lo hi)))
theorem sl_list:SlR X (rSlL X.K):=by
 intro pins s σ H x v vl vu lo hi sl Q I rx hs pl pu h
 obtain ⟨a,xs,rfl,hx,q⟩:=h
 cases rx
 obtain ⟨its,r,ht,hz⟩:=I.list hx
 have hlen:=r.length
 refine ⟨"list",_,slot_list_getitem.lookup,ht.isList.typeIs,?_⟩
 refine wpAny_getItem_list_slice ht.isList hs pl pu .none (by simp) ?_ (by rw [size_toArray]<;>omega)
 rw [slicePick_cut,<-hlen]
 refine ⟨.ref s.heap.objs.size,_,I.laid (t':=s.toks) (o:=.lst (cutV xs lo hi)) (fun b ob q=>Heap.get?_push_of_some _ q) (Nat.le_refl _) ?_,rfl,q _ (I.hok.fresh (Nat.le_refl _))⟩
 exact ⟨Nat.le_trans (cutV_length xs lo hi) hz,_,0,(r.drop (HT.sIx xs.length 0 lo)).take (HT.sIx xs.length xs.length hi-HT.sIx xs.length 0 lo),Heap.get?_push_size _ rfl⟩
theorem call_len_seq:CallR X (.builtin "len") (fun xs H Q=>∃p ys,xs=[.ref p]/\(SqL X.K H p ys\/SqT X.K H p ys)/\Q (.int ys.length) H):=by
 intro pins s σ H xs us Q I r h
 obtain ⟨p,ys,rfl,hq,q⟩:=h
 obtain ⟨u,rfl,rx⟩:=vals1 r
 cases rx
 have hn:=zH9
 rcases hq with hq | hq
 ·obtain ⟨its,r',pl,hz⟩:=I.list hq
  have hlen:=r'.length
  exact Calls.call_len_list pl.isList (by simp only [size_toArray]<;>omega) ⟨.int ys.length,H,I.tok _,⟨s.toks+1,by rw [size_toArray,hlen]⟩,q⟩
 ·obtain ⟨its,r',pl,hz⟩:=I.tuple hq
  have hlen:=r'.length
  exact len_tuple pl (by simp only [size_toArray]<;>omega) ⟨.int ys.length,H,I.tok _,⟨s.toks+1,by rw [size_toArray,hlen]⟩,q⟩
theorem call_len_str:CallR X (.builtin "len") (fun xs H Q=>∃z,xs=[.str z]/\z.length<=sizeLine/\Q (.int z.length) H):=by
 intro pins s σ H xs us Q I r h
 obtain ⟨z,rfl,hz,q⟩:=h
 obtain ⟨u,rfl,t,rfl⟩:=vals1 r
 have hn:=zH9
 exact len_str (by omega) ⟨.int z.length,H,I.tok _,⟨_,rfl⟩,q⟩
theorem CallR.or {f:Value} {r r':List V->Hp->VK->Prop} (h:CallR X f r) (h':CallR X f r'):CallR X f (fun xs H Q=>r xs H Q\/r' xs H Q):=by
 intro pins s σ H xs us Q I rs q
 rcases q with q | q
 ·exact h pins s σ H xs us Q I rs q
 ·exact h' pins s σ H xs us Q I rs q
theorem call_list_of:CallR X (.type "list") (fun xs H Q=>∃p ys,xs=[.ref p]/\(SqL X.K H p ys\/SqT X.K H p ys)/\∀l,H l=none->Q (.ref l) (upd H l (.lst ys))):=by
 intro pins s σ H xs us Q I r h
 obtain ⟨p,ys,rfl,hq,q⟩:=h
 obtain ⟨u,rfl,rx⟩:=vals1 r
 cases rx
 have fin:∀(its:List Value),Vals ys its->ys.length<=sizeLine->∀(h':Heap) (c':Nat),(∀b o',s.heap.get? b=some o'->h'.get? b=some o') ->
   h'.get? s.heap.objs.size=some { cls:=.type "list",dict:=none,data:=.seq its.toArray c',slots:=#[] }->EP X pins σ Q (.ref s.heap.objs.size) { s with heap:=h' }:=fun its r' hz h' c' kp e=>
  ⟨.ref s.heap.objs.size,_,I.laid (t':=s.toks) kp (Nat.le_refl _) (show ObjOk X.prog X.w _ h' _ (.lst ys) from ⟨hz,its,c',r',e⟩),rfl,q _ (I.hok.fresh (Nat.le_refl _))⟩
 rcases hq with hq | hq
 ·obtain ⟨its,r',pl,hz⟩:=I.list hq
  have hlen:=r'.length
  obtain ⟨o,ho,hc,n,hd⟩:=pl.isList
  exact call_list_seq p (.inl rfl) ho hc hd (fun h' c' kp e=>fin its r' hz h' c' kp e) (by simp only [size_toArray]<;>omega)
 ·obtain ⟨its,r',pl,hz⟩:=I.tuple hq
  have hlen:=r'.length
  obtain ⟨o,ho,hc,n,hd⟩:=pl
  exact call_list_seq p (.inr rfl) ho hc hd (fun h' c' kp e=>fin its r' hz h' c' kp e) (by simp only [size_toArray]<;>omega)
def tyV (K:Fg) (T:String) (x:V) (H:Hp):Prop:=match x with
 | .str _=>T = "str"
 | .int _=>T = "int"
 | .ref p=>(T = "list"/\∃xs,SqL K H p xs)\/(T = "tuple"/\∃o,K.lookup p=some o/\o.cls=.type "tuple"/\o.dict=none) \/
   (T = "dict"/\((∃kvs,H p=some (.dK kvs))\/∃kvs,H p=some (.dT kvs)))\/(T = "set"/\∃S n,H p=some (.set S n))
 | _=>False
theorem tyV_is {pins:List (Addr×Obj)} {σ:St} {H:Hp} {s:Shared} {T:String} {x:V} {v:Value} (I:Inv X pins σ H s) (r:RelV x v) (ty:tyV X.K T x H) :
  s.TypeIs v T/\∀a,v=.ref a->∃ob,s.heap.get? a=some ob/\ob.dict=none:=by
 cases x with
 | str z=>
  obtain ⟨t,rfl⟩:=r
  cases (show T = "str" from ty)
  exact ⟨typeIs_str s z t,fun _ e=>nomatch e⟩
 | int i=>
  obtain ⟨t,rfl⟩:=r
  cases (show T = "int" from ty)
  exact ⟨typeIs_int s i t,fun _ e=>nomatch e⟩
 | ref p=>
  cases r
  rcases ty with ⟨rfl,xs,hq⟩ | ⟨rfl,o,hk,hc,hd⟩ | ⟨rfl,hk⟩ | ⟨rfl,S,n,hk⟩
  ·obtain ⟨its,_,pl,_⟩:=I.list hq
   refine ⟨pl.isList.typeIs,fun a e=>?_⟩
   cases e
   obtain ⟨o,n,e,c,hd,_⟩:=pl
   exact ⟨o,e,hd⟩
  ·refine ⟨⟨o,I.kIn p o hk,hc⟩,fun a e=>?_⟩
   cases e
   exact ⟨o,I.kIn _ o hk,hd⟩
  ·have z:∃o,s.heap.get? p=some o/\o.ExactDict:=by
    rcases hk with ⟨kvs,hk⟩ | ⟨kvs,hk⟩
    ·obtain ⟨_,_,_,_,o,_,_,e,ex,_⟩:=I.hok p _ hk
     exact ⟨o,e,ex⟩
    ·obtain ⟨_,_,_,_,o,_,_,e,ex,_⟩:=I.hok p _ hk
     exact ⟨o,e,ex⟩
   obtain ⟨o,e,ex⟩:=z
   refine ⟨⟨o,e,ex.1⟩,fun a e2=>?_⟩
   cases e2
   exact ⟨o,e,ex.2.1⟩
  ·obtain ⟨o,_,_,_,e,ex,_⟩:=I.hok p _ hk
   refine ⟨⟨o,e,ex.1⟩,fun a e2=>?_⟩
   cases e2
   exact ⟨o,e,ex.2.1⟩
 | _=>exact False.elim ty
def tBM (K:Fg) (T:String) (r:V->List V->Hp->VK->Prop) (to:TE) (t:TA):TE:=fun σ H Q=>to σ H fun x H1=>tyV K T x H1/\t σ H1 fun xs H2=>r x xs H2 Q
variable {o e:Expr} {es:List Expr} {to:TE} {t:TA} {name:Str} {apos cpos:Pos} {T id:String} {r:V->List V->Hp->VK->Prop}
theorem pe_bm (pa:PlainAttrs T) (slot:Slot T name id) (hty:typeOf (.builtin id)=pure (.type "method_descriptor")) (hm:MtR X id r) (ho:PE X o to) (ha:PA X (e::es) t)
  (hbase:attributeBase o name X.env (eval o X.env)=eval o X.env:=by rfl)
  (hfew:((backTo cpos (starEach (e::es) X.env)).all (fun x=>!x.1)&&(backToKw cpos (keywordEach [] X.env)).all (fun x=>x.1.isSome)
   && decide ((e::es).length+([]:List Keyword).length+(if ([]:List Keyword).isEmpty then 0 else 1)<30))=true:=by rfl)
  (hline:(apos.endLine==cpos.line)=true:=by rfl) (hs:starEach (e::es) X.env=(false,eval e X.env)::starEach es X.env:=by rfl) (hplain:(backTo cpos (starEach es X.env)).any (·.1)=false:=by rfl) :
  PE X (.Call (.Attribute o name apos) (e::es) [] cpos) (tBM X.K T r to t):=by
 intro pins s σ H Q I h
 refine wpAny_Call_method_late hbase hfew hline rfl (thn (ho pins s σ H _ I h) fun v s1 ⟨x,H1,I1,r1,ty,q1⟩=>?_)
 obtain ⟨h1,h2⟩:=tyV_is I1 r1 ty
 refine ⟨T,id,pa,slot,hty,h1,h2,?_⟩
 have hA:=ha cpos pins s1 σ H1 _ I1 q1
 rw [hs] at hA ⊢
 refine Calls.callWith_builtin (by show (false||(backTo cpos (starEach es X.env)).any (·.1))=false;rw [hplain]<;>rfl) (Calls.evalArgs_plain ?_)
 exact thn hA fun us s2 ⟨vs,H2,I2,r2,q2⟩=>hm pins s2 σ H2 x vs v us Q I2 r1 r2 q2
end
def MtM (X:Cx) (id:String) (r:V->List V->Hp->VK->Prop):Prop:=
 ∀(pins:List (Addr×Obj)) (s:Shared) (σ:St) (H:Hp) (x:V) (xs:List V) (v:Value) (us:List Value) (Q:VK),Inv X pins σ H s->RelV x v->Vals xs us->r x xs H Q ->
  wpAny (model X.prog X.w) X.A (call (.builtin id) (v::us)) (EP X pins σ Q) X.xe s
theorem Vals.one:∀{x:V} {us:List Value},Vals [x] us->∃u,us=[u]/\RelV x u
 | _,_,.cons r .nil=>⟨_,rfl,r⟩
section
variable {X:Cx} {pins:List (Addr×Obj)} {σ:St} {H:Hp} {s:Shared} {l b:Addr} {xs ys zs:List V}
theorem Inv.lset {its its':List Value} {n:Nat} {f:Array Value->Array Value} {t':Nat} (I:Inv X pins σ H s) (hH:H l=some (.lst xs))
  (e:s.heap.get? l=some { cls:=.type "list",data:=.seq its.toArray n }) (hf:f its.toArray=its'.toArray) (hv:Vals ys its') (hz:ys.length<=sizeLine) :
  Inv X pins σ (upd H l (.lst ys)) { s with heap:=s.heap.update l (Obj.mapSeq f),toks:=t' }:=by
 have q:=PySem.IsL.update e f
 rw [hf] at q
 refine I.write (x:=l) (e:=l) (by rw [hH];exact trivial) (.inl rfl) (fun b' u hb hu=>(Heap.get?_update_other s.heap (Obj.mapSeq f) (Ne.symm hb)).trans hu) ⟨_,q⟩ ?_
 exact ⟨hz,its',_,hv,q⟩
theorem Inv.lnew {its:List Value} {t':Nat} (I:Inv X pins σ H s) (hv:Vals ys its) (hz:ys.length<=sizeLine) :
  Inv X pins σ (upd H s.heap.objs.size (.lst ys)) { s with heap:=s.heap.push { cls:=.type "list",data:=.seq its.toArray },toks:=t' }:=
 I.laid (fun _ _ q=>Heap.get?_push_of_some _ q) (Nat.le_refl _) ⟨hz,its,0,hv,Heap.get?_push_size _ rfl⟩
theorem Inv.fresh (I:Inv X pins σ H s):H s.heap.objs.size=none:=I.hok.fresh (Nat.le_refl _)
theorem Inv.lstM (I:Inv X pins σ H s) (hH:H l=some (.lst xs)):xs.length<=sizeLine/\∃(its:List Value) (n:Nat),Vals xs its/\xs.length=its.length/\s.heap.get? l=some { cls:=.type "list",data:=.seq its.toArray n }:=by
 obtain ⟨z,its,n,r,e⟩:=I.hok l _ hH
 exact ⟨z,its,n,r,r.length,e⟩
theorem notLongL {n:Nat} (h:n<=sizeLine):Builtin.List.listTooLong n=false:=by
 unfold Builtin.List.listTooLong
 exact decide_eq_false (by omega)
end
section
variable {X:Cx}
def rAppend:V->List V->Hp->VK->Prop:=fun x vs H Q=>∃l xs y,x=.ref l/\vs=[y]/\H l=some (.lst xs)/\xs.length<sizeLine/\Q .non (upd H l (.lst (xs++[y])))
theorem mt_append:MtM X "list.append" rAppend:=by
 intro pins s σ H x vs v us Q I rx rv h
 obtain ⟨l,xs,y,rfl,rfl,hH,hz,q⟩:=h
 cases rx
 obtain ⟨u,rfl,ru⟩:=rv.one
 obtain ⟨z,its,n,r,hl,e⟩:=I.lstM hH
 refine call_meets F.slot_list_append ⟨_,e,rfl⟩ F.entry_list_append (F.args_list_append_2 _ _) (PySem.list_append l its.toArray n u (by rw [size_toArray];omega)) ⟨e,?_⟩
 refine ⟨.non,_,I.lset (its':=its++[u]) hH e (by simp) (r.append (.cons ru .nil)) ?_,rfl,q⟩
 rw [length_append,length_singleton]
 omega
end
section
variable {prog:Program} {w:World} {A:Around} {E:Value->Shared->Prop} {s:Shared}
set_option maxRecDepth 100000 in
end
section
variable {X:Cx}
end
end L2
namespace Att
open PySem PySem.W PySem.Calls PyProof.Rows
theorem ints_of_wellAll {P:Params} {h:Heap}:∀(ns:List Int) (vs:List Value),WellAll P h vs (ns.map WData.int)->IntsAre vs ns:=by
 intro ns
 induction ns with
 | nil=>
  intro vs w
  rw [List.map_nil] at w
  cases w
  exact .nil
 | cons n ns ih=>
  intro vs w
  rw [map_cons] at w
  cases w with
  | cons a b=>
   cases a
   exact .cons _ _ (ih _ b)
theorem script_of {l:OpenLaw} {n:Nat} (hn:l.most=some n) {P:Params} {h:Heap} {args:List WData} {vals:List Value}
  (hpre:l.row.toRowW.claim.pre args=true) (hwl:WellAll P h vals args) :
  ∃a vs ns,vals=[Value.ref a]/\args=[WData.list (ns.map WData.int)]/\h.get? a=some { cls:=.type "list",data:=.seq vs.toArray }/\IntsAre vs ns/\ns.length<=n:=by
 have hsh:WShape.hasAll [] args [.list .int]=true:=(pre_splitW hpre).1
 have hc:l.pre.holds [] { args:=args }=true:=(pre_splitW hpre).2
 obtain ⟨d,r,rfl,h1,h2⟩:=hasAllW_cons hsh
 obtain rfl:=hasAllW_nil h2
 obtain ⟨xs,rfl,h3⟩:=hasW_list h1
 obtain ⟨ns,rfl⟩:=items_int h3
 have hlen:ns.length<=n:=by
  unfold OpenLaw.pre at hc
  have h4:(WTm.not (.lt (.lit (.int (n:Int))) (.len (.arg 0)))).holds [] { args:=[.list (ns.map .int)] }=true:=by
   have h4:=(holds_andW hc).1
   rw [hn] at h4
   exact h4
  have h5:=condW_of h4 (w_not (w_lt w_lit (w_len_list (w_arg rfl))))
  rw [length_map] at h5
  refine Nat.le_of_not_lt fun q=>?_
  have q':(n:Int)<((ns.length:Nat):Int):=by omega
  first
   | (rw [decide_eq_true q'] at h5;exact absurd h5 (by decide))
   | (simp at h5;omega)
 cases hwl with
 | cons w1 w2=>
  cases w2
  cases w1 with
  | list ho hall=>exact ⟨_,_,ns,rfl,rfl,ho,ints_of_wellAll ns _ hall,hlen⟩
theorem post_true (l:OpenLaw) (args:List WData):l.row.toRowW.claim.post args (.bool true) args=true:=
 postW_of (r:=l.row.toRowW) (X:=(true==true))
  (show WShape.has [] (.bool true) .bool=true by first | rfl | decide | simp [WShape.has,WShape.arms,WShape.armsAll])
  (show (WTm.eq .res (.lit (.bool true))).value [] { args:=args,res:=some (.bool true),after:=args }=some (.bool (true==true)) from w_eq_bool (w_res rfl) w_lit) rfl
theorem attach_call {l:OpenLaw} {n:Nat} {q:Program} {loose:List Str} {XP:(Str->Option Value)->Heap->Prop} {YP:World->Heap->Prop} {d:DefRec}
  (hn:l.most=some n) (hdf:d.params.defaults=[])
  (call:∀(w:World) (s₀ s₁:Shared) (mg mb:Str->Option Value) (fa:Addr) (o:Obj) (pm cd doc:Value) (a:Addr) (vs:List Value) (ns:List Int),
   Ground q loose [] XP w s₀ mg mb s₁.heap->YP w s₁.heap ->
   s₁.heap.get? fa=some o->o.data=.func (docDef d.name d.params d.body d.scope pm cd doc)->s₁.heap.CodeRec cd d.name->mg d.name=some (.ref fa) ->
   s₁.heap.get? a=some { cls:=.type "list",data:=.seq vs.toArray }->IntsAre vs ns->ns.length<=n->s₁.gens=#[] ->
   codeAny (model l.prog w) callerA (.call (.ref fa) ⟨[.ref a],[]⟩) (fun r s'=>r=.ok (.ret (.bool true))/\OldK s₁.heap s'.heap/\s'.os=s₁.os/\AllBare s'.gens) s₁) :
  WalkO q loose XP YP l.row.toRowW d [] (fun f vs=>PySem.call f vs):=by
 intro w s₀ s₁ mg mb G Y fa o pm cd doc dV kV ho hd hcd hD hmg hg args vals as hpre hlay hrd hwl hlo
 obtain rfl:dV=.none:=Dflts.none hD hdf
 obtain rfl:kV=.none:=Dflts.noKw hD
 obtain ⟨a,vs,ns,rfl,rfl,hobj,hints,hlen⟩:=script_of hn hpre hwl
 refine enter_call (codeAny_mono (call w s₀ s₁ mg mb fa o pm cd doc a vs ns G Y ho (fd_plain hd) hcd hmg hobj hints hlen hg) fun r s' hq=>?_)
 obtain ⟨rfl,h2,h3,h4⟩:=hq
 exact ⟨.inl ⟨.bool true,.bool true,[],rfl,fun _=>rfl,.bool true,post_true l _,fun _=>⟨List.Pairwise.nil,fun _ hm=>(nomatch hm)⟩⟩,h2,h3,h4⟩
section
variable {prog:Program} {w:World} {A:Around} {E:Value->Shared->Prop} {s:Shared} {K:Frag}
end
end Att
namespace L2
open PySem PySem.Spec PyProof.Rows
theorem vals_ints:∀{vs:List Value} {ns:List Int},IntsAre vs ns->Vals (ns.map V.int) vs
 | _,_,.nil=>.nil
 | _,_,.cons n t h=>.cons ⟨t,rfl⟩ (vals_ints h)
def Only (H:Hp):Prop:=∀b,H b=none\/∃o xs,H b=some (.frz o (.lst xs))
theorem law_call {P:Program} {w:World} {K:Fg} {mg mb:Str->Option Value} {CX:CXT} {k:Nat} {fa a:Addr} {fd:FuncData} {x:Str} {sp:Sp} {s₁:Shared} {vs:List Value} {ns:List Int}
  (KX:K.In s₁.heap) (hns:s₁.heap.Ns mainGlobals mg) (hb:s₁.heap.Ns builtinsNs mb) (hbb:∀x:Str,x ≠ "__name__"->mb x=bootBuiltins x) (hlim:s₁.heap.NoLimit) (hg:s₁.gens=#[])
  (ha:s₁.heap.get? a=some { cls:=.type "list",data:=.seq vs.toArray }) (hi:IntsAre vs ns) (hl:ns.length<=sizeLine) (hr:Room k callerA)
  (F:∀base:Heap,K.In base->base.Ns mainGlobals mg->FnOk P w K mg base CX k fa fd [x] sp) (hbind:∀(s:Shared) (u:Value),BindsTo s fd ⟨[u],[]⟩ [(x,u)])
  (hsp:∀H:Hp,Only H->SqL K H a (ns.map V.int)->sp [.ref a] H (fun v _=>v=.bl true) fun _ _ _=>False)
  (hCX:∀H e s',CX [] H s₁ (fun _ _ _=>False) e s'->False) :
  codeAny (model P w) callerA (.call (.ref fa) ⟨[.ref a],[]⟩) (fun r s'=>r=.ok (.ret (.bool true))/\OldK s₁.heap s'.heap/\s'.os=s₁.os/\AllBare s'.gens) s₁:=by
 have rv:=vals_ints hi
 have lenV:=hi.length
 have core:∀H:Hp,Only H->SqL K H a (ns.map V.int)->HOk P w H s₁.heap->(∀b,H b≠none->b=a)->(H a≠none->K.lookup a=none) ->
   codeAny (model P w) callerA (.call (.ref fa) ⟨[.ref a],[]⟩) (fun r s'=>r=.ok (.ret (.bool true))/\OldK s₁.heap s'.heap/\s'.os=s₁.os/\AllBare s'.gens) s₁:=by
  intro H hO hS hok hA hK
  have base_of:∀{b:Addr} {o:Obj},s₁.heap.get? b=some o->H b=none->(hidT s₁.heap H).get? b=some o:=fun e n=>hidT_get e n
  have noA:∀{b:Addr} {o:Obj} {es:Array DictEntry} {ep:Nat},s₁.heap.get? b=some o->o.data=.dict es ep->H b=none:=fun {b o es ep} e d=>by
   cases q:H b with
   | none=>rfl
   | some u=>
    have e':b=a:=hA b (by rw [q];simp)
    subst e'
    rw [ha] at e;cases e
    have d':Data.seq vs.toArray _=Data.dict es ep:=d
    cases d'
  have nsK:∀{b:Addr} {m:Str->Option Value},s₁.heap.Ns b m->(hidT s₁.heap H).Ns b m:=fun {b m} ⟨o,es,ep,e,d,r⟩=>⟨o,es,ep,base_of e (noA e d),d,r⟩
  have hKb:K.In (hidT s₁.heap H):=fun b o e=>base_of (KX b o e) (by
   cases q:H b with
   | none=>rfl
   | some u=>
    have e':b=a:=hA b (by rw [q];simp)
    subst e'
    rw [hK (by rw [q];simp)] at e;cases e)
  have hM:Mod K mg (hidT s₁.heap H):=⟨hKb,nsK hns,⟨mb,nsK hb,hbb⟩,let ⟨mc,h1,h2⟩:=hlim;⟨mc,nsK h1,h2⟩⟩
  have e0:Env0 P w K mg (hidT s₁.heap H) callerA [] s₁ H:=⟨rfl,hM,fun b o e=>of_hidT e,Nat.le_of_eq (hidT_size _ _),trivial,fun b hb=>absurd (show b∈([]:List Addr) from hb) (by simp),hok,.of_eq hg⟩
  refine codeAny_mono ((F _ hKb (nsK hns)).run callerA [] s₁ H ⟨[.ref a],[]⟩ [.ref a] [.ref a] _ _ hr e0 (hbind s₁ (.ref a)) (.cons rfl .nil) (hsp H hO hS)) fun r s' h=>?_
  cases r with
  | error e=>exact (hCX H e s' h).elim
  | ok fl=>
   cases fl with
   | next=>exact False.elim h
   | brk=>exact False.elim h
   | cont=>exact False.elim h
   | ret u=>
    obtain ⟨v,H',os,bare,un,hok',r',q⟩:=h
    have q':v=.bl true:=q
    subst q'
    obtain rfl:u=Value.bool true:=r'
    refine ⟨rfl,OldK.of_keep fun b o e=>?_,os,bare⟩
    cases q:H b with
    | none=>exact un.keep b o e q (by intro z;exact absurd (show b∈([]:List Addr) from z) (by simp)) (by simp)
    | some u=>
     rcases hO b with z | ⟨ob,xs,z⟩
     ·rw [q] at z;cases z
     ·have z2:=un.frzs b ob _ z
      obtain ⟨e1,_⟩:=hok b _ z
      obtain ⟨e2,_⟩:=hok' b _ z2
      rw [e] at e1;cases e1
      exact e2
 cases hk:K.lookup a with
 | some o=>
  have e:=KX a o hk
  rw [ha] at e
  cases e
  refine core (fun _=>none) (fun _=>.inl rfl) (.inr ⟨_,vs.toArray,_,hk,rfl,rfl,rfl,by rw [size_toArray,lenV];exact hl,by simpa using rv⟩) (fun b u z=>by have z':(none:Option HO)=some u:=z;cases z') (fun b z=>absurd rfl z) fun z=>absurd rfl z
 | none=>
  refine core (fun b=>if b=a then some (.frz { cls:=.type "list",data:=.seq vs.toArray } (.lst (ns.map V.int))) else none) (fun b=>?_) (.inl (.inr ⟨{ cls:=.type "list",data:=.seq vs.toArray },if_pos rfl⟩)) (fun b u z=>?_) (fun b z=>?_) fun _=>hk
  ·by_cases hb:b=a
   ·exact .inr ⟨_,_,if_pos hb⟩
   ·exact .inl (if_neg hb)
  ·by_cases hb:b=a
   ·have z':=(if_pos hb).symm.trans z
    cases z'
    subst hb
    exact ⟨ha,by rw [length_map];exact hl,vs,_,rv,ha⟩
   ·have z':=(if_neg hb).symm.trans z
    cases z'
  ·by_cases hb:b=a
   ·exact hb
   ·exact absurd (if_neg hb) z
theorem walk_of {l:PySem.W.OpenLaw} {n k:Nat} {q:Program} {loose:List Str} {XP:(Str->Option Value)->Heap->Prop} {YP:World->Heap->Prop} {d:DefRec} {K:Params->Fg} {CX:World->CXT} {sp:World->Sp} {x:Str}
  (hn:l.most=some n) (hn2:n<=sizeLine) (hdf:d.params.defaults=[]) (hr:Room k callerA)
  (hY:∀(w:World) (h:Heap),YP w h->(K w.params).In h)
  (F:∀(w:World) (mg:Str->Option Value) (fa:Addr) (h:Heap),(K w.params).In h->h.Ns mainGlobals mg->mg d.name=some (.ref fa) ->
   ∃fd:FuncData,(∀(s:Shared) (u:Value),BindsTo s fd ⟨[u],[]⟩ [(x,u)]) /\
    ∀base:Heap,(K w.params).In base->base.Ns mainGlobals mg->FnOk l.prog w (K w.params) mg base (CX w) k fa fd [x] (sp w))
  (hsp:∀(w:World) (H:Hp) (a:Addr) (ns:List Int),ns.length<=n->Only H->SqL (K w.params) H a (ns.map V.int)->sp w [.ref a] H (fun v _=>v=.bl true) fun _ _ _=>False)
  (hCX:∀(w:World) (H:Hp) (s:Shared) (e:Value) (s':Shared),CX w [] H s (fun _ _ _=>False) e s'->False) :
  PySem.W.WalkO q loose XP YP l.row.toRowW d [] (fun f vs=>PySem.call f vs):=by
 refine Att.attach_call hn hdf fun w s₀ s₁ mg mb fa o pm cd doc a vs ns G Y ho hd hcd hmg hobj hints hlen hg=>?_
 have KX:=hY w _ Y
 obtain ⟨fd,hb,hF⟩:=F w mg fa _ KX G.T.g hmg
 exact law_call KX G.T.g G.T.b G.T.builtins G.T.nolimit hg hobj hints (Nat.le_trans hlen hn2) hr hF hb (fun H hO hS=>hsp w H a ns hlen hO hS) fun H e s'=>hCX w H s₁ e s'
def zGO (s:Stmt):Arguments:=match s with
 | .FunctionDef _ a _ _ _ _ _ _ _ _=>a
 | _=>{ posonlyargs:=[],args:=[],vararg:=none,kwonlyargs:=[],kw_defaults:=[],kwarg:=none,defaults:=[] }
def zAQ (s:Stmt):List Stmt:=match s with
 | .FunctionDef _ _ b _ _ _ _ _ _ _=>b
 | _=>[]
def zAH (s:Stmt):Scope:=match s with
 | .FunctionDef _ _ _ _ _ _ sc _ _ _=>sc
 | _=>{ kind:=.function,names:=[],isGenerator:=false,isCoroutine:=false }
abbrev CX0:CXT:=fun _ _ _ _ _ _=>False
abbrev E0:XK:=fun _ _ _=>False
theorem pass0 {X:Cx}:zKQ CX0 X E0:=fun _ _ _ _ _ _ _ h=>h.elim
structure Fun (K:Fg) (x qual:Str) (st:Stmt) (f:Addr) (fd:FuncData):Prop where
 ex:∃(oc:Value) (od:Option Addr) (kV doc pm:Value) (an:Option Addr) (cdv ct:Value) (osl:Array (Option Value)),
  fd=PySem.W.fnOf x qual (zGO st) (zAQ st) (zAH st) .none kV doc pm an cdv ct/\K.lookup f=some ⟨oc,od,.func fd,osl⟩/\PySem.W.codeIn K cdv qual=true
 kp:PySem.W.keepIn K (.ref f)=true
section
variable {P:Program} {w:World} {K:Fg} {mg:Str->Option Value} {base:Heap}
theorem Fun.ok {x qual:Str} {st:Stmt} {f:Addr} {fd:FuncData} {N ps:List Str} {k:Nat} {sp:Sp} (F:Fun K x qual st f fd) (S:FnScope N ps (zAH st)) (len:∀vs H Q E,sp vs H Q E->vs.length=ps.length)
  (hbody:∀(cdv:Value) (A:Around) (outer:List Env) (s:Shared) (H:Hp) (vs:List V) (Q:VK) (E:XK),Room k (A.deeper (envOfC qual (zAH st) s.heap.objs.size f cdv))->sp vs H Q E ->
   ∃t,PSs (cxOf CX0 P w K mg base N qual (zAH st) f cdv A outer s H E).nox (zAQ st) t/\t { nx:=fun _ H'=>Q .non H',rt:=Q } (start N vs) H):FnOk P w K mg base CX0 (k+1) f fd ps sp:=by
 obtain ⟨oc,od,kV,doc,pm,an,cdv,ct,osl,rfl,lk,hcd⟩:=F.ex
 refine fn_of lk hcd S len fun A outer s H vs Q E hr hsp=>?_
 obtain ⟨t,h,q⟩:=hbody cdv A outer s H vs Q E hr hsp
 exact ⟨t,h.nox,q⟩
theorem Fun.binds {x qual:Str} {st:Stmt} {f:Addr} {fd:FuncData} {ps:List Str} (F:Fun K x qual st f fd)
  (h:∀(kV doc pm:Value) (an:Option Addr) (cdv ct:Value) (us:List Value),us.length=ps.length->bindArgs (PySem.W.fnOf x qual (zGO st) (zAQ st) (zAH st) .none kV doc pm an cdv ct) ⟨us,[]⟩=pure (ps.zip us)):Binds K fd ps []:=by
 obtain ⟨oc,od,kV,doc,pm,an,cdv,ct,osl,rfl,lk,hcd⟩:=F.ex
 exact .all (h kV doc pm an cdv ct)
theorem fun_mk {x qual:Str} {st:Stmt} {f:Addr} {oc:Value} {od an:Option Addr} {osl:Array (Option Value)} {kV doc pm cdv ct:Value} (l:K.lookup f=some ⟨oc,od,.func (PySem.W.fnOf x qual (zGO st) (zAQ st) (zAH st) .none kV doc pm an cdv ct),osl⟩)
  (c:PySem.W.codeIn K cdv qual=true) (k:PySem.W.keepIn K (.ref f)=true):Fun K x qual st f (PySem.W.fnOf x qual (zGO st) (zAQ st) (zAH st) .none kV doc pm an cdv ct):=⟨⟨oc,od,kV,doc,pm,an,cdv,ct,osl,rfl,l,c⟩,k⟩
end
theorem small1000 {n:Nat} (h:n<=1000):n<sizeLine:=Nat.lt_of_le_of_lt h (by decide)
section
variable {X:Cx}
end
theorem iteF {A B:Prop} (h:B):if false=true then A else B:=by
 rw [if_neg Bool.false_ne_true]
 exact h
theorem iteT {A B:Prop} (h:A):if true=true then A else B:=by
 rw [if_pos rfl]
 exact h
def Same (H H':Hp):Prop:=∀b o,H b=some o->H' b=some o
theorem Same.refl (H:Hp):Same H H:=fun _ _ h=>h
theorem Same.trans {H H1 H2:Hp} (a:Same H H1) (b:Same H1 H2):Same H H2:=fun c o h=>b c o (a c o h)
theorem Same.free {H H':Hp} (e:Same H H') {l:Addr} (h:H' l=Option.none):H l=Option.none:=by
 cases q:H l with
 | none=>rfl
 | some o=>
  rw [e l o q] at h
  cases h
theorem Same.seq {K:Fg} {H H':Hp} {a:Addr} {xs:List V} (e:Same H H') (h:SqL K H a xs):SqL K H' a xs:=by
 rcases h with (h | ⟨o,h⟩) | h
 ·exact .inl (.inl (e _ _ h))
 ·exact .inl (.inr ⟨o,e _ _ h⟩)
 ·exact .inr h
section
variable {prog:Program} {w:World} {A:Around} {R:Result->Shared->Prop} {s:Shared}
abbrev NoX:Value->Shared->Prop:=fun _ _=>False
theorem compLoop_any {elt target iter:Expr} {ifs:List Expr} {scope:Scope} {pos:Pos} {it acc:Value} {env:Env} (I:Nat->Shared->Prop)
  (turn:∀n s,I n s->wpAny (model prog w) A (pyNext it) (fun r s₁=>match r with
   | none=>R (.ok .next) s₁
   | some v=>wpAny (model prog w) A (letOwnedTupleGo target it v) (fun _ s₁'=>wpAny (model prog w) A (assign target env v) (fun _ s₂=>
     wpAny (model prog w) A (forIn ifs true fun c r=>if r=true then do let ok <-isTrue c env (eval c env);pure (ForInStep.yield ok) else pure (ForInStep.yield r)) (fun ok s₃=>
      if ok=true then wpAny (model prog w) A (eval elt env) (fun x s₄=>
       wpAny (model prog w) A (call (.builtin "list.append") [acc,x]) (fun _ s₅=>∃m,m<n/\I m s₅) NoX s₄) NoX s₃
      else ∃m,m<n/\I m s₃) NoX s₂) NoX s₁') NoX s₁) NoX s)
  (n:Nat) (h:I n s) :
  codeAny (model prog w) A (.compLoop (.ListComp elt [⟨target,iter,ifs,0⟩] scope pos) 0 it acc env) R s:=by
 refine codeAny_loop rfl I (fun n s hI=>?_) n h
 show wpAny _ A ((compTurn (.ListComp elt [⟨target,iter,ifs,0⟩] scope pos) 0 it acc env).onRaise (fun x=>do noteFrame x env;theTreesLotGoes x)) _ _ s
 refine wpAny_noted ?_
 rw [compTurn_list]
 have F:∀{Z:Value->Shared->Prop},∀(e:Value) (s:Shared),NoX e s->Z e s:=fun _ _ x=>x.elim
 refine wpAny_bind (wpAny_standAt (wpAny_bind (wpAny_mono (turn n s hI) (fun r s₁ h₁=>?_) F)))
 cases r with
 | none=>exact wpAny_pure h₁
 | some v=>
  refine wpAny_bind (wpAny_mono h₁ (fun _ s₁' h₁'=>?_) F)
  refine wpAny_bind (wpAny_mono h₁' (fun _ s₂ h₂=>wpAny_bind (wpAny_mono h₂ (fun ok s₃ h₃=>?_) F)) F)
  cases ok with
  | false=>exact wpAny_pure ⟨rfl,h₃⟩
  | true=>
   exact wpAny_bind (wpAny_bind (wpAny_mono h₃ (fun x s₄ h₄=>wpAny_bind (wpAny_mono h₄ (fun _ s₅ h₅=>wpAny_pure (wpAny_pure ⟨rfl,h₅⟩)) F)) F))
end
def closL (env:Env):List (Str×NameKind)->List (Str×Addr)->List (Str×Addr)
 | [],acc=>acc
 | (n,k)::r,acc=>if k==.free then closL env r ((n,(env.cells.lookup n).getD 0)::acc) else closL env r acc
theorem zIM {env:Env}:∀(names:List (Str×NameKind)) (acc:List (Str×Addr)),(∀n,(n,NameKind.free)∈names->∃c,env.cells.lookup n=some c) ->
  (forIn names acc fun (x:Str×NameKind) (cs:List (Str×Addr))=>(match x with | (name,kind)=>if kind==.free then (do let a <-cellOf env name;pure (ForInStep.yield ((name,a)::cs))) else pure (ForInStep.yield cs):Sem (ForInStep (List (Str×Addr)))))=(pure (closL env names acc):Sem (List (Str×Addr)))
 | [],acc,_=>by rw [List.forIn_nil];rfl
 | (n,k)::r,acc,h=>by
  rw [List.forIn_cons]
  unfold closL
  by_cases hk:(k==.free)=true
  ·simp only [hk,if_true]
   have hk':k=.free:=by simpa using hk
   obtain ⟨c,hc⟩:=h n (by rw [hk'];exact mem_cons_self)
   have e:cellOf env n=pure c:=by unfold cellOf;rw [hc]
   rw [e,hc]
   exact zIM r ((n,c)::acc) fun n' hn=>h n' (mem_cons_of_mem _ hn)
  ·rw [if_neg hk]
   simp only [hk]
   exact zIM r acc fun n' hn=>h n' (mem_cons_of_mem _ hn)
theorem closureFor_L {env:Env} {scope:Scope} (h:∀n,(n,NameKind.free)∈scope.names->∃c,env.cells.lookup n=some c):closureFor scope env=pure (closL env scope.names []):=by
 have:=zIM (env:=env) scope.names [] h
 unfold closureFor
 rw [show (pure (closL env scope.names []):Sem (List (Str×Addr)))=(pure (closL env scope.names []) >>= fun x=>pure x) from rfl,<-this]
theorem zHG {env:Env} {x:Str} {c:Addr}:∀{names:List (Str×NameKind)} {acc:List (Str×Addr)},(∀n,(n,NameKind.free)∈names->∃c,env.cells.lookup n=some c)->(closL env names acc).lookup x=some c->env.cells.lookup x=some c\/acc.lookup x=some c
 | [],_,_,e=>.inr e
 | (n,k)::r,acc,h,e=>by
  unfold closL at e
  have h':∀n',(n',NameKind.free)∈r->∃c,env.cells.lookup n'=some c:=fun n' hn=>h n' (mem_cons_of_mem _ hn)
  by_cases hk:(k==.free)=true
  ·rw [if_pos hk] at e
   rcases zHG h' e with q | q
   ·exact .inl q
   ·rw [lookup_cons] at q
    have hk':k=.free:=by simpa using hk
    obtain ⟨c',hc⟩:=h n (by rw [hk'];exact mem_cons_self)
    cases hx:x==n with
    | true=>
     rw [hx,hc] at q
     cases q
     rw [eq_of_beq hx]
     exact .inl hc
    | false=>
     rw [hx] at q
     exact .inr q
  ·rw [if_neg hk] at e
   exact zHG h' e
theorem zDM {env:Env} {x:Str}:∀{names:List (Str×NameKind)} {acc:List (Str×Addr)},(x,NameKind.free)∈names\/(acc.lookup x).isSome=true->((closL env names acc).lookup x).isSome=true
 | [],_,h=>h.elim nofun id
 | (n,k)::r,acc,h=>by
  unfold closL
  by_cases hk:(k==.free)=true
  ·rw [if_pos hk]
   refine zDM (names:=r) ?_
   rcases h with h | h
   ·rcases List.mem_cons.mp h with e | h
    ·cases e
     exact .inr (by rw [lookup_cons];simp)
    ·exact .inl h
   ·right
    rw [lookup_cons]
    cases hx:x==n with
    | true=>rfl
    | false=>exact h
  ·rw [if_neg hk]
   refine zDM (names:=r) ?_
   rcases h with h | h
   ·rcases List.mem_cons.mp h with e | h
    ·cases e
     exact absurd rfl hk
    ·exact .inl h
   ·exact .inr h
theorem zB0 {x:Str} {c:Addr}:∀{names:List (Str×NameKind)} {n:Nat} {acc:List (Str×Addr)},(cellsFrom n names acc).lookup x=some c->((x,NameKind.cell)∈names/\n<=c)\/acc.lookup x=some c
 | [],_,_,e=>.inr e
 | (y,k)::r,n,acc,e=>by
  unfold cellsFrom at e
  by_cases hk:(k==.cell)=true
  ·rw [if_pos hk] at e
   have hk':k=.cell:=by simpa using hk
   rcases zB0 e with ⟨q,l⟩ | q
   ·exact .inl ⟨mem_cons_of_mem _ q,by omega⟩
   ·rw [lookup_cons] at q
    cases hx:x==y with
    | true=>
     rw [hx] at q
     cases q
     exact .inl ⟨by rw [eq_of_beq hx,hk'];exact mem_cons_self,Nat.le_refl _⟩
    | false=>
     rw [hx] at q
     exact .inr q
  ·rw [if_neg hk] at e
   rcases zB0 e with ⟨q,l⟩ | q
   ·exact .inl ⟨mem_cons_of_mem _ q,l⟩
   ·exact .inr q
theorem zE8 {x y:Str} {c:Addr}:∀{names:List (Str×NameKind)} {n:Nat} {acc:List (Str×Addr)},(∀z d,acc.lookup z=some d->d<n)->(∀x y d,acc.lookup x=some d->acc.lookup y=some d->x=y) ->
  (cellsFrom n names acc).lookup x=some c->(cellsFrom n names acc).lookup y=some c->x=y
 | [],_,_,_,hi,e,e'=>hi _ _ _ e e'
 | (z,k)::r,n,acc,hl,hi,e,e'=>by
  unfold cellsFrom at e e'
  by_cases hk:(k==.cell)=true
  ·rw [if_pos hk] at e e'
   refine zE8 (names:=r) (n:=n+1) (acc:=(z,n)::acc) (fun a d q=>?_) (fun a b d q q'=>?_) e e'
   ·rw [lookup_cons] at q
    cases hx:a==z with
    | true=>rw [hx] at q;cases q;exact Nat.lt_succ_self _
    | false=>rw [hx] at q;exact Nat.lt_succ_of_lt (hl a d q)
   ·rw [lookup_cons] at q q'
    cases hx:a==z with
    | true=>
     rw [hx] at q
     cases q
     cases hy:b==z with
     | true=>rw [eq_of_beq hx,eq_of_beq hy]
     | false=>rw [hy] at q';exact absurd (hl b n q') (Nat.lt_irrefl _)
    | false=>
     rw [hx] at q
     cases hy:b==z with
     | true=>rw [hy] at q';cases q';exact absurd (hl a n q) (Nat.lt_irrefl _)
     | false=>rw [hy] at q';exact hi a b d q q'
  ·rw [if_neg hk] at e e'
   exact zE8 hl hi e e'
theorem zIL {env:Env} {x:Str} {c:Addr}:∀{names:List (Str×NameKind)} {acc:List (Str×Addr)},(closL env names acc).lookup x=some c->(x,NameKind.free)∈names\/acc.lookup x=some c
 | [],_,e=>.inr e
 | (n,k)::r,acc,e=>by
  unfold closL at e
  by_cases hk:(k==.free)=true
  ·rw [if_pos hk] at e
   have hk':k=.free:=by simpa using hk
   rcases zIL e with q | q
   ·exact .inl (mem_cons_of_mem _ q)
   ·rw [lookup_cons] at q
    cases hx:x==n with
    | true=>rw [eq_of_beq hx,hk'];exact .inl mem_cons_self
    | false=>rw [hx] at q;exact .inr q
  ·rw [if_neg hk] at e
   rcases zIL e with q | q
   ·exact .inl (mem_cons_of_mem _ q)
   ·exact .inr q
theorem zDC {x:Str}:∀{names:List (Str×NameKind)} {n:Nat} {acc:List (Str×Addr)},(x,NameKind.cell)∈names\/(acc.lookup x).isSome=true->((cellsFrom n names acc).lookup x).isSome=true
 | [],_,_,h=>h.elim nofun id
 | (y,k)::r,n,acc,h=>by
  unfold cellsFrom
  by_cases hk:(k==.cell)=true
  ·rw [if_pos hk]
   refine zDC (names:=r) ?_
   rcases h with h | h
   ·rcases List.mem_cons.mp h with e | h
    ·cases e
     exact .inr (by rw [lookup_cons];simp)
    ·exact .inl h
   ·right
    rw [lookup_cons]
    cases hx:x==y with
    | true=>rfl
    | false=>exact h
  ·rw [if_neg hk]
   refine zDC (names:=r) ?_
   rcases h with h | h
   ·rcases List.mem_cons.mp h with e | h
    ·cases e
     exact absurd rfl hk
    ·exact .inl h
   ·exact .inr h
theorem zDD {x:Str}:∀{names:List (Str×NameKind)} {n:Nat} {acc:List (Str×Addr)},(x,NameKind.cell)∉names->(cellsFrom n names acc).lookup x=acc.lookup x
 | [],_,_,_=>rfl
 | (y,k)::r,n,acc,h=>by
  unfold cellsFrom
  have hr:(x,NameKind.cell)∉r:=fun z=>h (mem_cons_of_mem _ z)
  by_cases hk:(k==.cell)=true
  ·rw [if_pos hk,zDD hr,lookup_cons]
   have hk':k=.cell:=by simpa using hk
   cases hx:x==y with
   | true=>exact absurd (by rw [eq_of_beq hx,hk'];exact mem_cons_self) h
   | false=>rfl
  ·rw [if_neg hk]
   exact zDD hr
theorem zDB {x:Str} {c:Addr}:∀{names:List (Str×NameKind)} {n:Nat} {acc:List (Str×Addr)},(x,NameKind.cell)∈names->(cellsFrom n names acc).lookup x=some c->(cellsFrom n names []).lookup x=some c
 | [],_,_,h,_=>nomatch h
 | (y,k)::r,n,acc,h,e=>by
  unfold cellsFrom at e ⊢
  by_cases hk:(k==.cell)=true
  ·rw [if_pos hk] at e ⊢
   by_cases hr:(x,NameKind.cell)∈r
   ·have:∀{acc acc':List (Str×Addr)},(cellsFrom (n+1) r acc).lookup x=some c->(cellsFrom (n+1) r acc').lookup x=some c:=fun {a a'} q=>by
     have q0:=zDB hr q
     have hs:=zDC (n:=n+1) (acc:=a') (.inl hr)
     obtain ⟨c',hc'⟩:=Option.isSome_iff_exists.mp hs
     have q1:=zDB hr hc'
     rw [q0] at q1
     cases q1
     exact hc'
    exact this e
   ·rw [zDD hr] at e ⊢
    rw [lookup_cons] at e ⊢
    cases hx:x==y with
    | true=>rw [hx] at e;exact e
    | false=>
     rcases List.mem_cons.mp h with z | z
     ·cases z
      simp at hx
     ·exact absurd z hr
  ·rw [if_neg hk] at e ⊢
   rcases List.mem_cons.mp h with z | z
   ·cases z
    exact absurd rfl hk
   ·exact zDB z e
def blk (X:Cx) (scope:Scope) (cells:List (Str×Addr)) (C:Addr) (s₀:Shared) (H₀:Hp) (ex:List Addr):Cx where
 prog:=X.prog
 w:=X.w
 K:=X.K
 mg:=X.mg
 base:=X.base
 A:=X.A
 N:=X.N
 s₀:=s₀
 H₀:=H₀
 env:={ scope:=relabel scope X.env,locals:=C,globals:=X.env.globals,cells:=cells,qual:=X.env.qual,func:=none,code:=X.env.code,frame:=X.env.frame,builtins:=X.env.builtins }
 outer:=X.stack
 stack:=X.stack
 ex:=ex
 fn:=fun x=>scope.names.any fun y=>y.1==x&&y.2==.cell
 calm:=X.calm
 pn:=[]
 xe:=fun _ _=>False
structure CompSc (N:List Str) (is:List Nat) (osc scope:Scope):Prop where
 kind:scope.kind=.function
 free:∀n,(n,NameKind.free)∈scope.names->osc.names.lookup n=some .cell\/osc.names.lookup n=some .free
 own:∀(i:Nat) (x:Str),N[i]?=some x->(x,NameKind.local)∈scope.names\/(x,NameKind.cell)∈scope.names->i∈is
 loc:∀x∈scope.names,x.2=.local->scope.names.lookup x.1=some .local
 one:∀n,(n,NameKind.free)∈scope.names->(n,NameKind.cell)∉scope.names
def blank (is:List Nat) (σ:St):St:=σ.mapIdx fun i v=>if i∈is then none else v
theorem zB1 (is:List Nat) (σ:St):(blank is σ).length=σ.length:=by unfold blank;simp
theorem zF1 {is:List Nat} {σ:St} {i:Nat} {v:V} (h:(blank is σ)[i]?=some (some v)):i∉is/\σ[i]?=some (some v):=by
 unfold blank at h
 rw [List.getElem?_mapIdx] at h
 cases e:σ[i]? with
 | none=>rw [e] at h;cases h
 | some o=>
  rw [e] at h
  simp only [Option.map_some,Option.some.injEq] at h
  by_cases hi:i∈is
  ·rw [if_pos hi] at h;cases h
  ·rw [if_neg hi] at h;exact ⟨hi,by rw [h]⟩
def LeS (σ0 σ2:St):Prop:=σ2.length=σ0.length/\∀(i:Nat) v,σ0[i]?=some (some v)->σ2[i]?=some (some v)
theorem lookup_mem {x:Str} {k:NameKind} {l:List (Str×NameKind)} (h:l.lookup x=some k):(x,k)∈l:=PySem.mem_of_lookup h
theorem zB3 {scope:Scope} {env:Env} {x:Str} {k:NameKind} (h:(relabel scope env).names.lookup x=some k) :
  (x,k)∈scope.names\/((x,NameKind.free)∈scope.names/\k=.cell):=by
 have h:=lookup_mem h
 unfold relabel at h
 obtain ⟨⟨n,k'⟩,hm,e⟩:=List.mem_map.mp h
 dsimp only at e
 by_cases hc:(k'==NameKind.free&&env.scope.kind==.function&&env.kindOf n==some .cell)=true
 ·rw [if_pos hc] at e
  cases e
  have:k'=.free:=by
   simp only [Bool.and_eq_true,beq_iff_eq] at hc
   exact hc.1.1
  exact .inr ⟨this▸hm,rfl⟩
 ·rw [if_neg hc] at e
  cases e
  exact .inl hm
def zA5 (X:Cx) (scope:Scope) (C:Addr):List (Str×Addr):=cellsFrom (C+1) scope.names (closL X.env scope.names [])
section
variable {X:Cx} {pins:List (Addr×Obj)} {σ:St} {H:Hp} {s:Shared} {scope:Scope} {is:List Nat}
theorem Inv.freeCells (I:Inv X pins σ H s) (S:CompSc X.N is X.env.scope scope):∀n,(n,NameKind.free)∈scope.names->∃c,X.env.cells.lookup n=some c:=fun n hn=>
 I.ok.has n (S.free n hn)
theorem Inv.blkOld (I:Inv X pins σ H s) (S:CompSc X.N is X.env.scope scope) {x:Str} {c:Addr} (h:(closL X.env scope.names []).lookup x=some c):X.env.cells.lookup x=some c:=by
 rcases zHG (I.freeCells S) h with q | q
 ·exact q
 ·cases q
theorem Inv.block {fp:List Addr} {t':Nat} (I:Inv X pins σ H s) (S:CompSc X.N is X.env.scope scope) (hf:∀b∈fp,FpOk X pins H b) (hfs:∀b∈fp,b<s.heap.objs.size) :
  Inv (blk X scope (zA5 X scope (s.heap.objs.size+1)) (s.heap.objs.size+1) s H fp) [] (blank is σ) (upd H s.heap.objs.size (.lst []))
   { s with heap:=pushCells ((s.heap.push { cls:=.type "list",data:=.seq ([]:List Value).toArray }).push { cls:=.type "dict",data:=.dict #[] }) scope.names,toks:=t' }:=by
 generalize hC:s.heap.objs.size+1=C
 have hDn:H s.heap.objs.size=none:=I.hok.fresh (Nat.le_refl _)
 have s1:(s.heap.push { cls:=.type "list",data:=.seq ([]:List Value).toArray }).objs.size=C:=by rw [Heap.size_push,hC]
 have kept:∀b o,s.heap.get? b=some o->(pushCells ((s.heap.push { cls:=.type "list",data:=.seq ([]:List Value).toArray }).push { cls:=.type "dict",data:=.dict #[] }) scope.names).get? b=some o:=
  fun b o e=>pushCells_keeps _ _ b o (Heap.get?_push_of_some _ (Heap.get?_push_of_some _ e))
 have cellsL:∀x c,(zA5 X scope C).lookup x=some c->((x,NameKind.cell)∈scope.names/\C+1<=c)\/X.env.cells.lookup x=some c:=fun x c e=>by
  rcases zB0 e with q | q
  ·exact .inl q
  ·exact .inr (I.blkOld S q)
 have oldLt:∀x c,X.env.cells.lookup x=some c->c<s.heap.objs.size:=fun x c e=>by
  obtain ⟨v,q⟩:=I.cell x c e
  exact q.lt
 have cok:CellsOk (pushCells ((s.heap.push { cls:=.type "list",data:=.seq ([]:List Value).toArray }).push { cls:=.type "dict",data:=.dict #[] }) scope.names) (C+1)
   (cellsFrom (C+1) scope.names []):=by
  have:=cellsFrom_ok scope.names ((s.heap.push { cls:=.type "list",data:=.seq ([]:List Value).toArray }).push { cls:=.type "dict",data:=.dict #[] }) (C+1) [] ⟨fun _ _ hm=>(nomatch hm),List.Pairwise.nil⟩ (by rw [Heap.size_push,s1];exact Nat.le_refl _)
  rw [Heap.size_push,s1] at this
  exact this
 have lt1:∀{b:Nat},b<s.heap.objs.size->b≠C:=fun {b} h e=>by subst e;rw [<-hC] at h;exact absurd (Nat.lt_of_succ_lt h) (Nat.lt_irrefl _)
 have hDle:s.heap.objs.size<=C:=by rw [<-hC];exact Nat.le_succ _
 have cellAt:∀x c,(zA5 X scope C).lookup x=some c->(C<c/\(pushCells ((s.heap.push { cls:=.type "list",data:=.seq ([]:List Value).toArray }).push { cls:=.type "dict",data:=.dict #[] }) scope.names).IsCell c none)\/X.env.cells.lookup x=some c:=fun x c e=>by
  rcases cellsL x c e with ⟨q1,q2⟩ | q
  ·exact .inl ⟨q2,(cok.empty x c (PySem.mem_of_lookup (zDB q1 e))).1⟩
  ·exact .inr q
 refine ⟨⟨I.ok.mod,S.kind,I.ok.glob,I.ok.blt,hDle,?_,?_,?_,I.ok.hd,I.ok.frames,.inl rfl,?_,I.bs,Nat.le_trans I.ok.bsz I.sz,?_,?_,I.stack,I.stkFree⟩,rfl,I.bare,?_,?_,?_,?_,?_,fun p hp=>absurd (show p∈([]:List (Addr×Obj)) from hp) (by simp),?_,(zB1 _ _).trans I.len⟩
 ·-- inj
  intro x y c hx hy
  refine zE8 (fun z d q=>?_) (fun a b d q q'=>I.ok.inj a b d (I.blkOld S q) (I.blkOld S q')) hx hy
  exact Nat.lt_succ_of_lt (Nat.lt_of_lt_of_le (oldLt z d (I.blkOld S q)) hDle)
 ·-- has
  intro x hx
  have q:((zA5 X scope C).lookup x).isSome=true:=by
   refine zDC ?_
   have hx:(relabel scope X.env).names.lookup x=some .cell\/(relabel scope X.env).names.lookup x=some .free:=hx
   rcases hx with hx | hx
   ·rcases zB3 hx with z | ⟨z,_⟩
    ·exact .inl z
    ·exact .inr (zDM (.inl z))
   ·rcases zB3 hx with z | ⟨z,_⟩
    ·exact .inr (zDM (.inl z))
    ·exact .inr (zDM (.inl z))
  exact Option.isSome_iff_exists.mp q
 ·-- cab
  intro x c hx e
  have hx:(scope.names.any fun y=>y.1==x&&y.2==NameKind.cell)=true:=hx
  obtain ⟨y,hy,hz⟩:=List.any_eq_true.mp hx
  simp only [Bool.and_eq_true,beq_iff_eq] at hz
  have hm:(x,NameKind.cell)∈scope.names:=by rw [<-hz.1,<-hz.2];exact hy
  rcases zB0 e with ⟨_,q⟩ | q
  ·exact Nat.le_trans hDle (Nat.le_of_succ_le q)
  ·rcases zIL q with z | z
   ·exact absurd hm (S.one x z)
   ·cases z
 ·-- exf
  intro b hb
  obtain ⟨f0,f1,f2,f3,f4,f5⟩:=hf b hb
  refine ⟨lt1 (hfs b hb),fun x c e z=>?_⟩
  rcases cellsL x c e with ⟨_,q⟩ | q
  ·subst z
   exact absurd (Nat.lt_of_lt_of_le (hfs _ hb) hDle) (Nat.not_lt.mpr (Nat.le_of_succ_le q))
  ·exact f4 x c q z
 ·-- noex
  intro b o e hb
  obtain ⟨f0,f1,f2,f3,f4,f5⟩:=hf b hb
  rcases f3 with z | z
  ·exact I.ok.noex b o e z
  ·exact absurd (Nat.lt_of_lt_of_le (Heap.lt_size e) (Nat.le_trans I.ok.bsz z)) (Nat.lt_irrefl _)
 ·-- exfs
  intro b hb z
  obtain ⟨f0,f1,f2,f3,f4,f5⟩:=hf b hb
  rcases List.mem_cons.mp (I.stkSub b z) with e | e
  ·exact f1 e
  ·exact f2 e
 ·-- base
  exact Un.laid kept (Nat.le_refl _) hDn
 ·-- loc
  refine ⟨fun _=>none,?_,fun i x v e1 e2 e3=>?_⟩
  ·have:=(Heap.Ns.new (s.heap.push { cls:=.type "list",data:=.seq ([]:List Value).toArray }) (.type "dict")).keeps (pushCells_keeps scope.names _)
   rw [s1] at this
   exact this
  ·obtain ⟨hni,e2'⟩:=zF1 e2
   obtain ⟨m,hn,hl⟩:=id I.loc
   have hfree:(x,NameKind.free)∈scope.names:=by
    have e3:(relabel scope X.env).names.lookup x=some .local\/(relabel scope X.env).names.lookup x=some .cell\/(relabel scope X.env).names.lookup x=some .free:=e3
    rcases e3 with z | z | z
    ·rcases zB3 z with y | ⟨y,_⟩
     ·exact absurd (S.own i x e1 (.inl y)) hni
     ·exact y
    ·rcases zB3 z with y | ⟨y,_⟩
     ·exact absurd (S.own i x e1 (.inr y)) hni
     ·exact y
    ·rcases zB3 z with y | ⟨y,_⟩
     ·exact y
     ·exact y
   have hk:=S.free x hfree
   obtain ⟨u,r,l⟩:=hl i x v e1 e2' (.inr hk)
   refine ⟨u,r,?_⟩
   rcases l with ⟨k,_⟩ | ⟨k,c,e,z⟩
   ·have k:X.env.scope.names.lookup x=some .local:=k
    rcases hk with q | q<;>(rw [q] at k;cases k)
   ·refine .inr ⟨?_,c,?_,z.keeps kept⟩
    ·have e3:(relabel scope X.env).names.lookup x=some .local\/(relabel scope X.env).names.lookup x=some .cell\/(relabel scope X.env).names.lookup x=some .free:=e3
     rcases e3 with y | y | y
     ·rcases zB3 y with y' | ⟨_,y'⟩
      ·exact absurd (S.own i x e1 (.inl y')) hni
      ·cases y'
     ·exact .inl y
     ·exact .inr y
    ·have q:=zDM (env:=X.env) (acc:=[]) (.inl hfree)
     obtain ⟨c',hc'⟩:=Option.isSome_iff_exists.mp q
     have:=I.blkOld S hc'
     rw [e] at this
     cases this
     show (zA5 X scope C).lookup x=some c
     unfold zA5
     rw [zDD (S.one x hfree)]
     exact hc'
 ·-- cell
  intro x c e
  rcases cellAt x c e with ⟨_,q⟩ | q
  ·exact ⟨_,q⟩
  ·obtain ⟨v,z⟩:=I.cell x c q
   exact ⟨v,z.keeps kept⟩
 ·-- free
  show upd H s.heap.objs.size (.lst []) C=none
  rw [zA6 (by rw [<-hC];exact Nat.ne_of_gt (Nat.lt_succ_self _))]
  exact I.hok.fresh hDle
 ·-- freeC
  intro x c e
  show upd H s.heap.objs.size (.lst []) c=none
  rcases cellAt x c e with ⟨q,_⟩ | q
  ·have hc:s.heap.objs.size<c:=Nat.lt_of_le_of_lt hDle q
   rw [zA6 (Nat.ne_of_gt hc)]
   exact I.hok.fresh (Nat.le_of_lt hc)
  ·rw [zA6 (Nat.ne_of_lt (oldLt x c q))]
   exact I.freeC x c q
 ·-- hok
  exact I.hok.laid kept (Nat.le_refl _) ⟨Nat.zero_le _,[],0,.nil,pushCells_keeps _ _ _ _ (Heap.get?_push_of_some _ (Heap.get?_push_size _ rfl))⟩
end
section
variable {M:Model} {A:Around} {E:Value->Shared->Prop} {s:Shared}
theorem newEnv_around {scope:Scope} {globals:Addr} {cl:List (Str×Addr)} {qual:Str} {env:Env} {Q:Env->Shared->Prop}
  (hQ:Q (newEnv scope s.heap.objs.size globals (cellsFrom (s.heap.objs.size+1) scope.names cl) qual none .none (some env) builtinsNs) { s with heap:=pushCells (s.heap.push { cls:=.type "dict",data:=.dict #[] }) scope.names }) :
  wpAny M A (newFunctionEnv scope globals cl [] qual none .none (some env)) Q E s:=by
 simp only [newFunctionEnv,Option.isSome_some,if_true]
 refine wpAny_bind (wpAny_alloc ?_)
 refine wpAny_bind (wpAny_layCells _ (fun name kind cells=>by cases hkc:kind==NameKind.cell<;>simp [hkc]) _ _ _ _ ?_)
 rw [show ({ s with heap:=s.heap.push { cls:=.type "dict",data:=.dict #[] } }:Shared).heap.objs.size=s.heap.objs.size+1 from Heap.size_push ..]
 rw [List.forIn_nil]
 exact wpAny_bind (wpAny_pure (wpAny_pure hQ))
end
def PF (X:Cx) (ifs:List Expr) (t:TT):Prop:=
 ∀(pins:List (Addr×Obj)) (s:Shared) (σ:St) (H:Hp) (Q:Bool->Hp->Prop),Inv X pins σ H s->t σ H Q ->
  wpAny (model X.prog X.w) X.A (forIn ifs true fun c r=>if r=true then do let ok <-isTrue c X.env (eval c X.env);pure (ForInStep.yield ok) else pure (ForInStep.yield r)) (TP X pins σ Q) X.xe s
def tTrue:TT:=fun _ H Q=>Q true H
theorem pf_nil {X:Cx}:PF X [] tTrue:=fun pins s σ H Q I h=>wpAny_tests_nil ⟨H,I,h⟩
theorem pf_one {X:Cx} {c:Expr} {t:TT} (h:PT X c t):PF X [c] t:=fun pins s σ H Q I q=>wpAny_tests_one (h pins s σ H Q I q)
def tComp (is:List Nat) (wi:TI) (g:TG) (tc:TT) (te:TE):TE:=fun σ H Q=>wi σ H fun J H1=>∀D,H1 D=none->∃W:Nat->Nat->List V->Hp->Prop,(∃m,W 0 m [] (upd H1 D (.lst [])))/\∀k m ys H,W k m ys H ->
 H D=some (.lst ys)/\((J.stop k H/\Q (.ref D) H)\/(J.go k H/\ys.length<sizeLine/\∀x H',J.yld k H x H'->g x (blank is σ) H' fun σ2 H2=>LeS (blank is σ) σ2/\tc σ2 H2 fun b H3=>
  if b=true then te σ2 H3 fun v H4=>H4 D=some (.lst ys)/\∃m',m'<m/\W (k+1) m' (ys++[v]) (upd H4 D (.lst (ys++[v]))) else ∃m',m'<m/\W (k+1) m' ys H3))
section
variable {X:Cx} {scope:Scope} {is:List Nat} {tg iter elt:Expr} {ifs:List Expr} {wi:TI} {g:TG} {tc:TT} {te:TE} {pos:Pos}
theorem comp_core {pins:List (Addr×Obj)} {s:Shared} {σ:St} {H:Hp} {Q:VK} {RR:Value->Addr->Result->Shared->Prop} (S:CompSc X.N is X.env.scope scope) (hcalm:X.calm=true) (hi:PI X tg iter wi)
  (hg:∀cells C s₀ H₀ ex,PG (blk X scope cells C s₀ H₀ ex) tg g) (hc:∀cells C s₀ H₀ ex,PF (blk X scope cells C s₀ H₀ ex) ifs tc) (he:∀cells C s₀ H₀ ex,PE (blk X scope cells C s₀ H₀ ex) elt te)
  (I:Inv X pins σ H s) (h:tComp is wi g tc te σ H Q)
  (hRR:∀D C s' H' m,Inv X pins σ H' s'->s'.heap.Ns C m->Q (.ref D) H'->H' C=none->C≠X.env.locals->X.s₀.heap.objs.size<=C->(∀x c,X.env.cells.lookup x=some c->c≠C)->(∀p∈X.pn++pins,p.1≠C)->RR (.ref D) C (.ok .next) s') :
  wpAny (model X.prog X.w) X.A (eval iter X.env) (fun x s₁=>wpAny (model X.prog X.w) X.A (pyIter x) (fun it s₂=>wpAny (model X.prog X.w) X.A (newList []) (fun acc s₃=>
   wpAny (model X.prog X.w) X.A (newFunctionEnv scope X.env.globals (closL X.env scope.names []) [] X.env.qual none .none (some X.env)) (fun cenv s₄=>
    codeAny (model X.prog X.w) X.A (.compStart (.ListComp elt [⟨tg,iter,ifs,0⟩] scope pos) 0 it acc { cenv with scope:=relabel scope X.env }) (RR acc cenv.locals) s₄) X.xe s₃) X.xe s₂) X.xe s₁) X.xe s:=by
 refine thn (hi pins s σ H _ I h) fun v s1 h1=>thn h1 fun itv s2 h2=>?_
 obtain ⟨it,fp,tn,J,H2,e,I2,T,st2,f2,hW⟩:=h2
 subst e
 obtain ⟨W,⟨m0,w0⟩,turn⟩:=hW s2.heap.objs.size (I2.hok.fresh (Nat.le_refl _))
 refine wpAny_newObj_type (newEnv_around ?_)
 have s1:(s2.heap.push { cls:=.type "list",dict:=none,data:=.seq ([]:List Value).toArray }).objs.size=s2.heap.objs.size+1:=by rw [Heap.size_push]
 dsimp only
 rw [s1]
 have hfs:∀b∈fp,b<s2.heap.objs.size:=fun b hb=>by
  obtain ⟨o,e,_⟩:=T.obj 0 _ st2 b hb
  exact Heap.lt_size e
 have I4:=I2.block (t':=s2.toks) S f2 hfs
 generalize hCC:s2.heap.objs.size+1=C at I4 ⊢
 have hDC:s2.heap.objs.size<C:=by rw [<-hCC];exact Nat.lt_succ_self _
 have Hg:=hg (zA5 X scope C) C s2 H2 fp
 have Hc:=hc (zA5 X scope C) C s2 H2 fp
 have He:=he (zA5 X scope C) C s2 H2 fp
 have Ha:=mt_append (X:=blk X scope (zA5 X scope C) C s2 H2 fp)
 have hYcell:∀x c,(blk X scope (zA5 X scope C) C s2 H2 fp).env.cells.lookup x=some c->s2.heap.objs.size<=c\/X.env.cells.lookup x=some c:=fun x c e=>by
  have e:(cellsFrom (C+1) scope.names (closL X.env scope.names [])).lookup x=some c:=e
  rcases zB0 e with ⟨_,q⟩ | q
  ·exact .inl (Nat.le_trans (Nat.le_of_lt hDC) (Nat.le_of_succ_le q))
  ·exact .inr (I2.blkOld S q)
 have FY:∀{H':Hp},(∀b∈fp,H' b=none)->∀b∈fp,FpOk (blk X scope (zA5 X scope C) C s2 H2 fp) [] H' b:=fun {H'} hn b hb=>by
  obtain ⟨f0,f1,f3,f4,f5,f6⟩:=f2 b hb
  refine ⟨hn b hb,Nat.ne_of_lt (Nat.lt_trans (hfs b hb) hDC),fun z=>?_,.inl hb,fun x c e z=>?_,fun p hp=>absurd (show p∈([]:List (Addr×Obj)) from hp) (by simp)⟩
  ·rcases List.mem_cons.mp (I2.stkSub b z) with e | e
   ·exact f1 e
   ·exact f3 e
  ·rcases hYcell x c e with q | q
   ·rw [z] at q
    exact absurd (Nat.lt_of_lt_of_le (hfs b hb) q) (Nat.lt_irrefl _)
   ·exact f5 x c q z
 have hCx:∀x c,X.env.cells.lookup x=some c->c≠C:=fun x c e z=>by
  obtain ⟨v,q⟩:=I2.cell x c e
  have:=q.lt
  rw [z] at this
  exact absurd (Nat.lt_trans this hDC) (Nat.lt_irrefl _)
 have hCp:∀p∈X.pn++pins,p.1≠C:=fun p hp z=>by
  have:=Heap.lt_size (I2.pin p hp).1
  rw [z] at this
  exact absurd (Nat.lt_trans this hDC) (Nat.lt_irrefl _)
 have out:∀{σ':St} {H':Hp} {s':Shared},Inv (blk X scope (zA5 X scope C) C s2 H2 fp) [] σ' H' s'->Inv X pins σ H' s':=fun {σ' H' s'} J=>
  I2.call' (ch:=fp) J.os J.base J.hok J.bare fun b hb=>by
   obtain ⟨f0,f1,f3,f4,f5,f6⟩:=f2 b hb
   exact ⟨f4,f1,f5,f6⟩
 have loop:∀s₃:Shared,s₃={ s2 with heap:=pushCells ((s2.heap.push { cls:=.type "list",data:=.seq ([]:List Value).toArray }).push { cls:=.type "dict",data:=.dict #[] }) scope.names } ->
   codeAny (model X.prog X.w) X.A (.compLoop (.ListComp elt [⟨tg,iter,ifs,0⟩] scope pos) 0 (.ref it) (.ref s2.heap.objs.size) (blk X scope (zA5 X scope C) C s2 H2 fp).env) (RR (.ref s2.heap.objs.size) C) s₃:=by
  rintro s₃ rfl
  refine compLoop_any (fun n s'=>∃k ys H',Inv (blk X scope (zA5 X scope C) C s2 H2 fp) [] (blank is σ) H' s'/\tn k s'.heap/\(∀b∈fp,H' b=none)/\W k n ys H') ?_ m0
   ⟨0,[],_,I4,T.keep 0 _ _ st2 fun b _ o e=>pushCells_keeps _ _ b o (Heap.get?_push_of_some _ (Heap.get?_push_of_some _ e)),fun b hb=>by rw [zA6 (Nat.ne_of_lt (hfs b hb))];exact (f2 b hb).1,w0⟩
  rintro n s3 ⟨k,ys,H3,I3,st3,fr3,w3⟩
  obtain ⟨hD3,hcase⟩:=turn k n ys H3 w3
  rcases hcase with ⟨stop,qn⟩ | ⟨go,hlen,step⟩
  ·refine thn (T.done (blk X scope (zA5 X scope C) C s2 H2 fp) rfl rfl rfl hcalm k [] s3 (blank is σ) H3 NoX I3 (FY fr3) st3 stop) fun r s4 ⟨hr,I4⟩=>?_
   subst hr
   obtain ⟨m,hn,_⟩:=id I4.loc
   exact hRR _ C s4 H3 m (out I4) hn qn I4.free (fun z=>Nat.lt_irrefl _ (Nat.lt_trans (Nat.lt_of_lt_of_eq hDC z) I2.lt)) (Nat.le_trans I2.sz (Nat.le_of_lt hDC)) hCx hCp
  ·refine thn (T.item (blk X scope (zA5 X scope C) C s2 H2 fp) rfl rfl rfl hcalm k [] s3 (blank is σ) H3 NoX I3 (FY fr3) st3 go) fun r s4 ⟨u,hr,h4⟩=>?_
   subst hr
   refine thn h4 fun _ s5 ⟨x,H5,I5,r5,y5,st5,fr5⟩=>?_
   have I5':=I5.pinned (FY fr5) (T.obj _ _ st5)
   refine thn (Hg _ s5 (blank is σ) H5 x u _ I5' r5 (step x H5 y5)) fun _ s6 ⟨σ6,H6,I6,le6,q6⟩=>?_
   refine thn (Hc _ s6 σ6 H6 _ I6 q6) fun ok s7 ⟨H7,I7,q7⟩=>?_
   have again:∀{H8:Hp} {s8:Shared} {ys':List V},Inv (blk X scope (zA5 X scope C) C s2 H2 fp) ([]++zJK fp s5.heap) σ6 H8 s8->(∃m',m'<n/\W (k+1) m' ys' H8) ->
     ∃m,m<n/\∃k ys H',Inv (blk X scope (zA5 X scope C) C s2 H2 fp) [] (blank is σ) H' s8/\tn k s8.heap/\(∀b∈fp,H' b=none)/\W k m ys H':=fun {H8 s8 ys'} I8 ⟨m',hm,w8⟩=>by
    refine ⟨m',hm,k+1,ys',H8,(I8.weak le6.1.symm le6.2).unpinned,T.keep _ _ _ st5 fun b hb o e=>(I8.pin (b,o) (mem_append_right _ (mem_append_right _ (zGC hb e)))).1,fun b hb=>?_,w8⟩
    obtain ⟨o,e,d⟩:=T.obj _ _ st5 b hb
    exact (I8.pin (b,o) (mem_append_right _ (mem_append_right _ (zGC hb e)))).2.1
   cases ok with
   | false=>
    rw [if_neg Bool.false_ne_true] at q7
    exact again I7 q7
   | true=>
    rw [if_pos rfl] at q7
    refine thn (He _ s7 σ6 H7 _ I7 q7) fun y s8 ⟨v8,H8,I8,r8,q8⟩=>?_
    obtain ⟨hD8,q8⟩:=q8
    refine thn (Ha _ s8 σ6 H8 (.ref s2.heap.objs.size) [v8] (.ref s2.heap.objs.size) [y] (fun _ H9=>∃m',m'<n/\W (k+1) m' (ys++[v8]) H9) I8 rfl (.cons r8 .nil) ⟨_,ys,v8,rfl,rfl,hD8,hlen,q8⟩) fun _ s9 ⟨_,H9,I9,_,q9⟩=>?_
    exact again I9 q9
 exact codeAny_compStart_list (loop _ rfl) (T.self X.A 0 _ _ _ (T.keep 0 _ _ st2 fun b _ o e=>pushCells_keeps _ _ b o (Heap.get?_push_of_some _ (Heap.get?_push_of_some _ e))) (loop _ rfl))
theorem pe_comp (S:CompSc X.N is X.env.scope scope) (hcalm:X.calm=true) (hi:PI X tg iter wi)
  (hg:∀cells C s₀ H₀ ex,PG (blk X scope cells C s₀ H₀ ex) tg g) (hc:∀cells C s₀ H₀ ex,PF (blk X scope cells C s₀ H₀ ex) ifs tc) (he:∀cells C s₀ H₀ ex,PE (blk X scope cells C s₀ H₀ ex) elt te)
  (hs:∀x,foldedSetIterable iter X.env x=pure x:=by intro _;rfl):PE X (.ListComp elt [⟨tg,iter,ifs,0⟩] scope pos) (tComp is wi g tc te):=by
 intro pins s σ H Q I h
 rw [eval_ListComp]
 refine wpAny_comprehension_free (use:=none) rfl hs (closureFor_L (I.freeCells S)) S.kind S.loc (comp_core (RR:=fun acc C=>compPost (model X.prog X.w) X.A X.xe none (EP X pins σ Q) acc C) S hcalm hi hg hc he I h ?_)
 intro D C s' H' m I' hn q n1 n2 n3 n4 n5
 refine ⟨m,hn,fun h' hs'=>?_⟩
 exact ⟨.ref D,H',I'.turned (t':=s'.toks) (fun b o hb e=>(hs'.2 b hb).trans e) n1 n2 (.inr n3) n4 n5,rfl,q⟩
theorem zHC {i:Nat} {y:Str} {pos' spos:Pos} (hN:X.N.Nodup) (hy:X.N[i]?=some y) (hl:X.env.scope.names.lookup y=some .local) (S:CompSc X.N is X.env.scope scope) (hcalm:X.calm=true) (hi:PI X tg iter wi)
  (hg:∀cells C s₀ H₀ ex,PG (blk X scope cells C s₀ H₀ ex) tg g) (hc:∀cells C s₀ H₀ ex,PF (blk X scope cells C s₀ H₀ ex) ifs tc) (he:∀cells C s₀ H₀ ex,PE (blk X scope cells C s₀ H₀ ex) elt te)
  (hsw:swapsWith (.ListComp elt [⟨tg,iter,ifs,0⟩] scope pos) (some (.Name y pos')) spos.line X.env=pure true)
  (hs:∀x,foldedSetIterable iter X.env x=pure x:=by intro _;rfl):PS X (.Assign [.Name y pos'] (.ListComp elt [⟨tg,iter,ifs,0⟩] scope pos) spos) (fun D σ H=>tComp is wi g tc te σ H fun v H'=>D.nx (σ.set i (some v)) H'):=by
 intro pins s σ H Ds I h
 rw [exec_Assign_Name_used _ _ _ _ hsw]
 refine wpAny_bind (wpAny_standAt (wpAny_bind ?_))
 show wpAny _ X.A (do let _ <-comprehension (.ListComp elt [⟨tg,iter,ifs,0⟩] scope pos) scope X.env _ (newList []) false (eval iter X.env) (some (assign (.Name y pos') X.env))) _ _ s
 refine wpAny_bind (wpAny_mono (wpAny_comprehension_free (use:=some (assign (.Name y pos') X.env)) (Q:=fun _ s'=>SP X pins Ds .next s') rfl hs (closureFor_L (I.freeCells S)) S.kind S.loc
  (comp_core (RR:=fun acc C=>compPost (model X.prog X.w) X.A X.xe (some (assign (.Name y pos') X.env)) (fun _ s'=>SP X pins Ds .next s') acc C) S hcalm hi hg hc he I h ?_)) (fun _ s' hq=>wpAny_pure (wpAny_pure hq)) fun _ _ e=>e)
 intro D C s' H' m I' hn q n1 n2 n3 n4 n5
 show wpAny _ X.A (assign (.Name y pos') X.env (.ref D)) _ _ _
 refine wpAny_assign_Name (store_ok2 (v:=.ref D) I' hN hy (.inl hl) rfl (fun s'' I'' hch=>?_) (.inr hl))
 obtain ⟨a,hsb,ha⟩:=hch
 have hCa:C≠a:=by
  rcases ha with e | e
  ·rw [e];exact n2
  ·exact (n4 y a e).symm
 refine ⟨m,hn.sameBut hsb hCa,fun h' hs'=>?_⟩
 exact ⟨_,H',I''.turned (t':=s''.toks) (fun b o hb e=>(hs'.2 b hb).trans e) n1 n2 (.inr n3) n4 n5,q⟩
end
end L2
namespace T
open PySem PySem.Spec L2
open PyProof.Rows hiding St
abbrev D:=PyData
inductive Rep (K:Fg) (H:Hp):V->D->Prop where
 | non:Rep K H .non .none
 | bl (b:Bool):Rep K H (.bl b) (.bool b)
 | int (i:Int):Rep K H (.int i) (.int i)
 | str (x:Str):Rep K H (.str x) (.str x)
 | lst {p:Addr} {vs:List V} {ds:List D}:SqL K H p vs->vs.length=ds.length->(∀(i:Nat) v d,vs[i]?=some v->ds[i]?=some d->Rep K H v d)->Rep K H (.ref p) (.list ds)
 | tup {p:Addr} {vs:List V} {ds:List D}:SqT K H p vs->vs.length=ds.length->(∀(i:Nat) v d,vs[i]?=some v->ds[i]?=some d->Rep K H v d)->Rep K H (.ref p) (.tuple ds)
theorem SameT {K:Fg} {H H':Hp} {a:Addr} {xs:List V} (e:Same H H') (h:SqT K H a xs):SqT K H' a xs:=by
 rcases h with (h | ⟨o,h⟩) | h
 ·exact .inl (.inl (e _ _ h))
 ·exact .inl (.inr ⟨o,e _ _ h⟩)
 ·exact .inr h
theorem Rep.mono {K:Fg} {H H':Hp} {v:V} {d:D} (e:Same H H') (h:Rep K H v d):Rep K H' v d:=by
 induction h with
 | non=>exact .non
 | bl b=>exact .bl b
 | int i=>exact .int i
 | str x=>exact .str x
 | lst hs hl _ ih=>exact .lst (e.seq hs) hl ih
 | tup hs hl _ ih=>exact .tup (SameT e hs) hl ih
def Reps (K:Fg) (H:Hp) (vs:List V) (ds:List D):Prop:=vs.length=ds.length/\∀(i:Nat) v d,vs[i]?=some v->ds[i]?=some d->Rep K H v d
def hid (H:Hp) (O:List Addr):Hp:=fun a=>if a∈O then none else H a
theorem hid_le {H:Hp} {O:List Addr}:Same (hid H O) H:=fun b o h=>by
 unfold hid at h
 split at h
 ·cases h
 ·exact h
theorem zIC {H:Hp} {O:List Addr} {a:Addr} {o:HO} (h:H a=some o) (n:a∉O):hid H O a=some o:=by
 unfold hid;rw [if_neg n];exact h
theorem zB2 {H H':Hp} {O O':List Addr} (e:Same H H') (h:∀a∈O',a∈O\/H a=none):Same (hid H O) (hid H' O'):=fun b o q=>by
 unfold hid at q ⊢
 split at q
 ·cases q
 ·rename_i hn
  have hb:b∉O':=fun z=>(h b z).elim hn fun z=>by rw [z] at q;cases q
  rw [if_neg hb]
  exact e b o q
theorem zJ1 {H:Hp} {O:List Addr} {p:Addr} {o:HO} (h:p∈O):hid (upd H p o) O=hid H O:=by
 funext b
 unfold hid
 split
 ·rfl
 ·rename_i hb
  exact zA6 fun e=>hb (e▸h)
theorem zJ2 {H:Hp}:hid H []=H:=by
 funext b;unfold hid;simp
theorem zA4 {H:Hp} {p:Addr} {o:HO} (h:H p=none):Same H (upd H p o):=fun b u e=>by
 rw [zA6 (zBF e h)];exact e
inductive Sh where
 | view | leaf | lst (s:Sh) | tup (ss:List Sh)
def Sh.isView:Sh->Bool
 | .view=>true
 | _=>false
inductive Own (K:Fg) (O:List Addr) (H:Hp):Sh->List Addr->V->D->Prop where
 | view {v d}:Rep K H v d->Own K O H .view [] v d
 | leaf {v d}:Rep K (hid H O) v d->Own K O H .leaf [] v d
 | lst {s:Sh} {p:Addr} {vs:List V} {ds:List D} {Fs:List (List Addr)}:s.isView=false->H p=some (.lst vs)->vs.length=ds.length->Fs.length=ds.length->(p::Fs.flatten).Nodup ->
   (∀(i:Nat) v d F,vs[i]?=some v->ds[i]?=some d->Fs[i]?=some F->Own K O H s F v d)->Own K O H (.lst s) (p::Fs.flatten) (.ref p) (.list ds)
 | tup {ss:List Sh} {p:Addr} {vs:List V} {ds:List D} {Fs:List (List Addr)}:(∀s∈ss,s.isView=false)->H p=some (.tup vs)->p∉O->vs.length=ds.length->Fs.length=ds.length->ss.length=ds.length->Fs.flatten.Nodup ->
   (∀(i:Nat) v d F s,vs[i]?=some v->ds[i]?=some d->Fs[i]?=some F->ss[i]?=some s->Own K O H s F v d)->Own K O H (.tup ss) Fs.flatten (.ref p) (.tuple ds)
theorem Own.mono {K:Fg} {O O':List Addr} {H H':Hp} {s:Sh} {G:List Addr} {v:V} {d:D} (h:Own K O H s G v d) (e:Same H H') (hO:∀a∈O',a∈O\/H a=none):Own K O' H' s G v d:=by
 induction h with
 | view r=>exact .view (r.mono e)
 | leaf r=>exact .leaf (r.mono (zB2 e hO))
 | lst hv hp hl hf nd _ ih=>exact .lst hv (e _ _ hp) hl hf nd fun i v d F h1 h2 h3=>ih i v d F h1 h2 h3
 | tup hv hp hn hl hf hs nd _ ih=>exact .tup hv (e _ _ hp) (fun z=>(hO _ z).elim hn fun z=>by rw [z] at hp;cases hp) hl hf hs nd fun i v d F s h1 h2 h3 h4=>ih i v d F s h1 h2 h3 h4
theorem Own.rep {K:Fg} {O:List Addr} {H:Hp} {s:Sh} {G:List Addr} {v:V} {d:D} (h:Own K O H s G v d):Rep K H v d:=by
 induction h with
 | view r=>exact r
 | leaf r=>exact r.mono hid_le
 | lst hv hp hl hf _ q ih=>
  refine .lst (.of hp) hl fun i v d h1 h2=>?_
  rename_i Fs _
  obtain ⟨F,hF⟩:∃F,Fs[i]?=some F:=by
   have:=(List.getElem?_eq_some_iff.mp h2).1
   exact ⟨Fs[i]'(by omega),getElem?_eq_getElem _⟩
  exact ih i v d F h1 h2 hF
 | tup hv hp hn hl hf hs _ q ih=>
  refine .tup (.of hp) hl fun i v d h1 h2=>?_
  rename_i ss _ _ _ Fs _
  have hi:=(List.getElem?_eq_some_iff.mp h2).1
  exact ih i v d (Fs[i]'(by omega)) (ss[i]'(by omega)) h1 h2 (getElem?_eq_getElem _) (getElem?_eq_getElem _)
theorem zBA {Fs:List (List Addr)} {i:Nat} {F:List Addr} {a:Addr} (h:Fs[i]?=some F) (ha:a∈F):a∈Fs.flatten:=List.mem_flatten.mpr ⟨F,mem_of_getElem? h,ha⟩
theorem Own.freeze {K:Fg} {O O':List Addr} {H:Hp} {s:Sh} {G:List Addr} {v:V} {d:D} (h:Own K O H s G v d) (hs:s.isView=false) (h1:∀a∈O',a∈O) (h2:∀a∈G,a∉O'):Rep K (hid H O') v d:=by
 induction h with
 | view r=>cases hs
 | leaf r=>exact r.mono (zB2 (Same.refl _) fun a z=>.inl (h1 a z))
 | lst hv hp hl hf _ q ih=>
  refine .lst (.of (zIC hp (h2 _ mem_cons_self))) hl fun i v d e1 e2=>?_
  rename_i Fs _
  obtain ⟨F,hF⟩:∃F,Fs[i]?=some F:=by
   have:=(List.getElem?_eq_some_iff.mp e2).1
   exact ⟨Fs[i]'(by omega),getElem?_eq_getElem _⟩
  exact ih i v d F e1 e2 hF hv fun a ha=>h2 a (mem_cons_of_mem _ (zBA hF ha))
 | tup hv hp hn hl hf hs' _ q ih=>
  refine .tup (.of (zIC hp fun z=>hn (h1 _ z))) hl fun i v d e1 e2=>?_
  rename_i ss _ _ _ Fs _
  have hi:=(List.getElem?_eq_some_iff.mp e2).1
  have e3:Fs[i]?=some (Fs[i]'(by omega)):=getElem?_eq_getElem _
  exact ih i v d _ (ss[i]'(by omega)) e1 e2 e3 (getElem?_eq_getElem _) (hv _ (getElem_mem _)) fun a ha=>h2 a (zBA e3 ha)
theorem Own.mut {K:Fg} {O:List Addr} {H:Hp} {s:Sh} {G:List Addr} {v:V} {d:D} {p:Addr} {o:HO} {xs:List V} (h:Own K O H s G v d) (hs:s.isView=false) (hp:p∈O) (hg:p∉G) (hl:H p=some (.lst xs)):Own K O (upd H p o) s G v d:=by
 induction h with
 | view r=>cases hs
 | leaf r=>refine .leaf ?_;rw [zJ1 hp];exact r
 | lst hv hq hl' hf nd q ih=>
  refine .lst hv ?_ hl' hf nd fun i v d F e1 e2 e3=>ih i v d F e1 e2 e3 hv fun z=>hg (mem_cons_of_mem _ (zBA e3 z))
  rw [zA6 (fun z=>hg (by rw [<-z];exact mem_cons_self))]
  exact hq
 | tup hv hq hn hl' hf hs' nd q ih=>
  refine .tup hv ?_ hn hl' hf hs' nd fun i v d F s e1 e2 e3 e4=>ih i v d F s e1 e2 e3 e4 (hv _ (mem_of_getElem? e4)) fun z=>hg (zBA e3 z)
  rw [zA6 (fun z=>by rw [z,hl] at hq;cases hq)]
  exact hq
inductive Sc:V->D->Prop where
 | non:Sc .non .none
 | bl (b:Bool):Sc (.bl b) (.bool b)
 | int (i:Int):Sc (.int i) (.int i)
 | str (x:Str):Sc (.str x) (.str x)
theorem Sc.rep {K:Fg} {H:Hp} {v:V} {d:D} (h:Sc v d):Rep K H v d:=by cases h<;>constructor
def scalD:D->Bool
 | .list _=>false
 | .tuple _=>false
 | .dict _=>false
 | _=>true
theorem Rep.sc {K:Fg} {H:Hp} {v:V} {d:D} (h:Rep K H v d) (s:scalD d=true):Sc v d:=by
 cases h with
 | non=>exact .non
 | bl b=>exact .bl b
 | int i=>exact .int i
 | str x=>exact .str x
 | lst _ _ _=>cases s
 | tup _ _ _=>cases s
structure PV where
 s:Sh
 d:D
abbrev Ev:=List (Option PV)
inductive Out (α:Type) where
 | ok (a:α) (e:Ev)
 | er (c:Str) (e:Ev)
 | no
def Out.bind {α β:Type} (x:Out α) (k:α->Ev->Out β):Out β:=match x with
 | .ok a e=>k a e
 | .er c e=>.er c e
 | .no=>.no
structure EnvOk (K:Fg) (He:Hp) (O:List Addr) (Fs:List (List Addr)) (H:Hp) (σ:St) (Γ:Ev):Prop where
 len1:σ.length=Γ.length
 len2:Fs.length=Γ.length
 same:Same He H
 nd:(O++Fs.flatten).Nodup
 inH:∀a∈O++Fs.flatten,H a≠none
 fresh:∀a∈Fs.flatten,He a=none
 slot:∀(i:Nat) (p:PV),Γ[i]?=some (some p)->p.s.isView=false/\∃v F,σ[i]?=some (some v)/\Fs[i]?=some F/\Own K (O++Fs.flatten) H p.s F v p.d
section
variable {K:Fg} {He H H':Hp} {O O' G:List Addr} {Fs:List (List Addr)} {σ:St} {Γ:Ev}
theorem EnvOk.grow (h:EnvOk K He O Fs H σ Γ) (e:Same H H'):EnvOk K He O Fs H' σ Γ:=
 ⟨h.len1,h.len2,h.same.trans e,h.nd,fun a ha z=>h.inH a ha (e.free z),h.fresh,fun i p q=>let ⟨a,v,F,b,c,d⟩:=h.slot i p q;⟨a,v,F,b,c,d.mono e fun _ z=>.inl z⟩⟩
theorem EnvOk.drop (h:EnvOk K He O Fs H σ Γ) (hs:∀a∈O',a∈O) (nd:O'.Nodup):EnvOk K He O' Fs H σ Γ:=by
 obtain ⟨n1,n2,n3⟩:=List.nodup_append.mp h.nd
 refine ⟨h.len1,h.len2,h.same,List.nodup_append.mpr ⟨nd,n2,fun a ha b hb=>n3 a (hs a ha) b hb⟩,fun a ha=>h.inH a ?_,h.fresh,fun i p q=>let ⟨a,v,F,b,c,d⟩:=h.slot i p q;⟨a,v,F,b,c,d.mono (Same.refl _) fun a z=>.inl ?_⟩⟩
 ·rcases List.mem_append.mp ha with z | z
  ·exact mem_append_left _ (hs a z)
  ·exact mem_append_right _ z
 ·rcases List.mem_append.mp z with z | z
  ·exact mem_append_left _ (hs a z)
  ·exact mem_append_right _ z
theorem EnvOk.dropL (h:EnvOk K He (G++O) Fs H σ Γ):EnvOk K He O Fs H σ Γ:=h.drop (fun a z=>mem_append_right _ z) (List.nodup_append.mp (List.nodup_append.mp h.nd).1).2.1
theorem EnvOk.hide (h:EnvOk K He O Fs H σ Γ) (e:Same H H') (nd:G.Nodup) (hn:∀a∈G,H a=none) (hi:∀a∈G,H' a≠none):EnvOk K He (G++O) Fs H' σ Γ:=by
 refine ⟨h.len1,h.len2,h.same.trans e,?_,fun a ha=>?_,h.fresh,fun i p q=>let ⟨a,v,F,b,c,d⟩:=h.slot i p q;⟨a,v,F,b,c,d.mono e fun a z=>?_⟩⟩
 ·rw [append_assoc]
  exact List.nodup_append.mpr ⟨nd,h.nd,fun a ha b hb z=>h.inH b hb (by rw [<-z];exact hn a ha)⟩
 ·rw [append_assoc] at ha
  rcases List.mem_append.mp ha with z | z
  ·exact hi a z
  ·exact fun q=>h.inH a z (e.free q)
 ·rw [append_assoc] at z
  rcases List.mem_append.mp z with z | z
  ·exact .inr (hn a z)
  ·exact .inl z
end
structure Aft (K:Fg) (He:Hp) (O:List Addr) (Fs:List (List Addr)) (H:Hp) (σ:St) (Γ':Ev) (p:PV) (v:V) (H':Hp) (G:List Addr) (Fs':List (List Addr)):Prop where
 same:Same H H'
 env:EnvOk K He (G++O) Fs' H' σ Γ'
 new:∀a∈G++Fs'.flatten,a∈Fs.flatten\/H a=none
 own:Own K (G++O++Fs'.flatten) H' p.s G v p.d
abbrev XW:=Str->St->Hp->Prop
abbrev F1:=Ev->Out PV
def tE (K:Fg) (W:XW) (f:F1):TE:=fun σ H Q=>∃He O Fs Γ,EnvOk K He O Fs H σ Γ/\match f Γ with
 | .ok p Γ'=>∀v H' G Fs',Aft K He O Fs H σ Γ' p v H' G Fs'->Q v H'
 | .er c Γ'=>∀H' Fs',Same H H'->EnvOk K He O Fs' H' σ Γ'->W c σ H'
 | .no=>False
def Wants (K:Fg) (W:XW) (He:Hp) (O:List Addr) (Fs:List (List Addr)) (H:Hp) (σ:St) (Q:VK) (o:Out PV):Prop:=match o with
 | .ok p Γ'=>∀v H' G Fs',Aft K He O Fs H σ Γ' p v H' G Fs'->Q v H'
 | .er c Γ'=>∀H' Fs',Same H H'->EnvOk K He O Fs' H' σ Γ'->W c σ H'
 | .no=>False
section
variable {K:Fg} {W:XW} {He H:Hp} {O:List Addr} {Fs:List (List Addr)} {σ:St} {Γ Γ':Ev} {Q:VK}
theorem Wants.scal {H2:Hp} {O2:List Addr} {Fs2:List (List Addr)} {v:V} {d:D} (h:Wants K W He O Fs H σ Q (.ok ⟨.leaf,d⟩ Γ')) (s:Sc v d) (e:Same H H2) (E:EnvOk K He O2 Fs2 H2 σ Γ')
  (hO:∀a∈O,a∈O2) (nd:O.Nodup) (new:∀a∈Fs2.flatten,a∈Fs.flatten\/H a=none):Q v H2:=
 h v H2 [] Fs2 ⟨e,by rw [nil_append];exact E.drop hO nd,by rw [nil_append];exact new,.leaf s.rep⟩
theorem EnvOk.ndO (E:EnvOk K He O Fs H σ Γ):O.Nodup:=(List.nodup_append.mp E.nd).1
end
def eBind {β:Type} (f:F1) (k:PV->Ev->Out β):Ev->Out β:=fun Γ=>(f Γ).bind k
section
variable {K:Fg} {W:XW} {σ:St} {H:Hp} {Q:VK} {fa fb:F1}
theorem zJ9 {k:PV->F1} {R:VK} (h:tE K W (eBind fa k) σ H Q)
  (hk:∀He O Fs Γ1 p v H1 G Fs1,O.Nodup->Aft K He O Fs H σ Γ1 p v H1 G Fs1->Wants K W He O Fs H σ Q (k p Γ1)->R v H1):tE K W fa σ H R:=by
 obtain ⟨He,O,Fs,Γ,E,h⟩:=h
 refine ⟨He,O,Fs,Γ,E,?_⟩
 unfold eBind at h
 cases e:fa Γ with
 | ok p Γ1=>
  rw [e] at h
  exact fun v H' G Fs' A=>hk He O Fs Γ1 p v H' G Fs' E.ndO A h
 | er c Γ1=>
  rw [e] at h
  exact h
 | no=>
  rw [e] at h
  exact h
theorem zJI {k:PV->PV->F1} {R:V->V->Hp->Prop} (h:tE K W (eBind fa fun p=>eBind fb fun q=>k p q) σ H Q)
  (hk:∀He O Fs Γ2 p q v u H1 H2 G1 G2 Fs2,O.Nodup->Same H H1->Same H1 H2->EnvOk K He (G2++(G1++O)) Fs2 H2 σ Γ2->(∀a∈G2++(G1++Fs2.flatten),a∈Fs.flatten\/H a=none) ->
   Own K (G2++(G1++O)++Fs2.flatten) H2 p.s G1 v p.d->Own K (G2++(G1++O)++Fs2.flatten) H2 q.s G2 u q.d->Wants K W He O Fs H σ Q (k p q Γ2)->R v u H2) :
  tE K W fa σ H fun v H1=>tE K W fb σ H1 fun u H2=>R v u H2:=by
 refine zJ9 (k:=fun p=>eBind fb fun q=>k p q) h fun He O Fs Γ1 p v H1 G1 Fs1 nd A1 h1=>?_
 refine ⟨He,G1++O,Fs1,Γ1,A1.env,?_⟩
 unfold eBind at h1
 cases e:fb Γ1 with
 | ok q Γ2=>
  rw [e] at h1
  intro u H2 G2 Fs2 A2
  have new:∀a∈G2++(G1++Fs2.flatten),a∈Fs.flatten\/H a=none:=fun a ha=>by
   have up:a∈G1++Fs1.flatten->a∈Fs.flatten\/H a=none:=A1.new a
   rcases List.mem_append.mp ha with z | z
   ·rcases A2.new a (mem_append_left _ z) with y | y
    ·exact up (mem_append_right _ y)
    ·exact .inr (A1.same.free y)
   ·rcases List.mem_append.mp z with z | z
    ·exact up (mem_append_left _ z)
    ·rcases A2.new a (mem_append_right _ z) with y | y
     ·exact up (mem_append_right _ y)
     ·exact .inr (A1.same.free y)
  refine hk He O Fs Γ2 p q v u H1 H2 G1 G2 Fs2 nd A1.same A2.same A2.env new (A1.own.mono A2.same fun a ha=>?_) A2.own h1
  rcases List.mem_append.mp ha with z | z
  ·rcases List.mem_append.mp z with z | z
   ·rcases A2.new a (mem_append_left _ z) with y | y
    ·exact .inl (mem_append_right _ y)
    ·exact .inr y
   ·exact .inl (mem_append_left _ z)
  ·rcases A2.new a (mem_append_right _ z) with y | y
   ·exact .inl (mem_append_right _ y)
   ·exact .inr y
 | er c Γ2=>
  rw [e] at h1
  intro H2 Fs2 hs E2
  exact h1 H2 Fs2 (A1.same.trans hs) E2.dropL
 | no=>
  rw [e] at h1
  exact h1
end
section
variable {X:Cx} {e:Expr}
theorem PEimp {t t':TE} (h:PE X e t) (i:∀σ H Q,t' σ H Q->t σ H Q):PE X e t':=fun pins s σ H Q I q=>h pins s σ H Q I (i σ H Q q)
theorem PTimp {t t':TT} (h:PT X e t) (i:∀σ H Q,t' σ H Q->t σ H Q):PT X e t':=fun pins s σ H Q I q=>h pins s σ H Q I (i σ H Q q)
theorem PWimp {t t':TT} (h:PW X e t) (i:∀σ H Q,t' σ H Q->t σ H Q):PW X e t':=fun whole pins s σ H Q I q=>h whole pins s σ H Q I (i σ H Q q)
theorem PAimp {es:List Expr} {t t':TA} (h:PA X es t) (i:∀σ H Q,t' σ H Q->t σ H Q):PA X es t':=fun pos pins s σ H Q I q=>h pos pins s σ H Q I (i σ H Q q)
theorem PSimp {st:Stmt} {t t':TS} (h:PS X st t) (i:∀D σ H,t' D σ H->t D σ H):PS X st t':=fun pins s σ H D I q=>h pins s σ H D I (i D σ H q)
theorem zKR {st:List Stmt} {t t':TS} (h:PSs X st t) (i:∀D σ H,t' D σ H->t D σ H):PSs X st t':=fun pins s σ H D I q=>h pins s σ H D I (i D σ H q)
theorem PFimp {es:List Expr} {t t':TT} (h:PF X es t) (i:∀σ H Q,t' σ H Q->t σ H Q):PF X es t':=fun pins s σ H Q I q=>h pins s σ H Q I (i σ H Q q)
end
theorem zGM {h:Heap}:∀{vs:List V} {its:List Value} {ds:List D},Vals vs its->vs.length=ds.length->(∀(i:Nat) v d,vs[i]?=some v->ds[i]?=some d->∀u,RelV v u->∃as,Reads h u d as)->∃as,ReadsAll h its ds as
 | _,_,[],.nil,_,_=>⟨_,.nil⟩
 | _,_,d::ds,.cons (a:=v) (b:=u) r t,hl,h=>by
  obtain ⟨as,ra⟩:=h 0 v d rfl rfl u r
  obtain ⟨bs,rb⟩:=zGM t (by simpa using hl) fun i v d h1 h2=>h (i+1) v d (by simpa using h1) (by simpa using h2)
  exact ⟨_,.cons ra rb⟩
 | _,_,[],.cons _ _,hl,_=>by simp at hl
 | _,_,_::_,.nil,hl,_=>by simp at hl
theorem Rep.reads {X:Cx} {pins:List (Addr×Obj)} {σ:St} {H:Hp} {s:Shared} {x:V} {d:D} (I:Inv X pins σ H s) (r:Rep X.K H x d):∀u,RelV x u->∃as,Reads s.heap u d as:=by
 induction r with
 | non=>rintro u rfl;exact ⟨_,.none⟩
 | bl b=>rintro u rfl;exact ⟨_,.bool b⟩
 | int i=>rintro u ⟨t,rfl⟩;exact ⟨_,.int i t⟩
 | str x=>rintro u ⟨t,rfl⟩;exact ⟨_,.str x t⟩
 | lst hq hl _ ih=>
  rintro u rfl
  obtain ⟨its,rv,⟨o,n,e1,e2,e3,e4⟩,_⟩:=I.list hq
  obtain ⟨as,ra⟩:=zGM rv hl ih
  exact ⟨_,.list e1 e2 e4 (by simpa using ra)⟩
 | tup hq hl _ ih=>
  rintro u rfl
  obtain ⟨its,rv,⟨o,e1,e2,n,e4⟩,_⟩:=I.tuple hq
  obtain ⟨as,ra⟩:=zGM rv hl ih
  exact ⟨_,.tuple e1 e2 e4 (by simpa using ra)⟩
theorem zBD {α:Type} {F G:List α}:∀{Fs:List (List α)} {i:Nat},Fs[i]?=some F->(F++(Fs.set i G).flatten).Perm (G++Fs.flatten)
 | [],_,h=>by simp at h
 | A::r,0,h=>by
  simp at h
  subst h
  simp only [List.set_cons_zero,flatten_cons]
  rw [<-append_assoc,<-append_assoc]
  exact List.Perm.append_right _ perm_append_comm
 | A::r,i+1,h=>by
  have ih:=zBD (G:=G) (Fs:=r) (i:=i) (by simpa using h)
  simp only [List.set_cons_succ,flatten_cons]
  calc (F++(A++(r.set i G).flatten)).Perm (A++(F++(r.set i G).flatten)):=by
        rw [<-append_assoc,<-append_assoc];exact List.Perm.append_right _ perm_append_comm
    _ |>.Perm (A++(G++r.flatten)):=List.Perm.append_left _ ih
    _ |>.Perm (G++(A++r.flatten)):=by
        rw [<-append_assoc,<-append_assoc];exact List.Perm.append_right _ perm_append_comm
section
variable {K:Fg} {He H:Hp} {O G:List Addr} {Fs:List (List Addr)} {σ:St} {Γ:Ev}
theorem EnvOk.lt (E:EnvOk K He O Fs H σ Γ) {i:Nat} (h:i<Γ.length):∃F,Fs[i]?=some F:=⟨Fs[i]'(by rw [E.len2];exact h),getElem?_eq_getElem _⟩
theorem EnvOk.move {i:Nat} {p:PV} (E:EnvOk K He O Fs H σ Γ) (h:Γ[i]?=some (some p)) :
  p.s.isView=false/\∃v F,σ[i]?=some (some v)/\EnvOk K He (F++O) (Fs.set i []) H σ (Γ.set i none)/\Own K (F++O++(Fs.set i []).flatten) H p.s F v p.d/\(∀a∈F++(Fs.set i []).flatten,a∈Fs.flatten):=by
 obtain ⟨hv,v,F,h1,h2,h3⟩:=E.slot i p h
 have pm:(F++(Fs.set i []).flatten).Perm Fs.flatten:=by simpa using zBD (G:=[]) h2
 have pm2:(F++O++(Fs.set i []).flatten).Perm (O++Fs.flatten):=by
  rw [append_assoc]
  calc (F++(O++(Fs.set i []).flatten)).Perm (O++(F++(Fs.set i []).flatten)):=by
        rw [<-append_assoc,<-append_assoc];exact List.Perm.append_right _ perm_append_comm
    _ |>.Perm (O++Fs.flatten):=List.Perm.append_left _ pm
 refine ⟨hv,v,F,h1,⟨by rw [length_set];exact E.len1,by rw [length_set,length_set];exact E.len2,E.same,pm2.nodup_iff.mpr E.nd,fun a ha=>E.inH a (pm2.mem_iff.mp ha),fun a ha=>E.fresh a (pm.mem_iff.mp (mem_append_right _ ha)),fun j q hq=>?_⟩,h3.mono (Same.refl _) fun a ha=>.inl (pm2.mem_iff.mp ha),fun a ha=>pm.mem_iff.mp ha⟩
 by_cases hj:j=i
 ·subst hj
  rw [getElem?_set] at hq
  split at hq
  ·split at hq<;>cases hq
  ·rename_i z
   exact absurd rfl z
 ·rw [getElem?_set_ne (Ne.symm hj)] at hq
  obtain ⟨w1,v',F',e1,e2,e3⟩:=E.slot j q hq
  exact ⟨w1,v',F',e1,by rw [getElem?_set_ne (Ne.symm hj)];exact e2,e3.mono (Same.refl _) fun a ha=>.inl (pm2.mem_iff.mp ha)⟩
theorem EnvOk.put {i:Nat} {p:PV} {v:V} (E:EnvOk K He (G++O) Fs H σ Γ) (ho:Own K (G++O++Fs.flatten) H p.s G v p.d) (hv:p.s.isView=false) (hn:∀a∈G,He a=none) (hi:i<Γ.length) :
  EnvOk K He O (Fs.set i G) H (σ.set i (some v)) (Γ.set i (some p)):=by
 obtain ⟨F,hF⟩:=E.lt hi
 have pm:=zBD (G:=G) hF
 have nd:=E.nd
 rw [append_assoc] at nd
 have sub:∀a∈O++(Fs.set i G).flatten,a∈G++O++Fs.flatten:=fun a ha=>by
  rw [append_assoc]
  rcases List.mem_append.mp ha with z | z
  ·exact mem_append_right _ (mem_append_left _ z)
  ·rcases List.mem_append.mp (pm.mem_iff.mp (mem_append_right _ z)) with y | y
   ·exact mem_append_left _ y
   ·exact mem_append_right _ (mem_append_right _ y)
 refine ⟨by rw [length_set,length_set];exact E.len1,by rw [length_set,length_set];exact E.len2,E.same,?_,fun a ha=>E.inH a (sub a ha),fun a ha=>?_,fun j q hq=>?_⟩
 ·have p1:(O++(F++(Fs.set i G).flatten)).Perm (G++(O++Fs.flatten)):=by
   calc (O++(F++(Fs.set i G).flatten)).Perm (O++(G++Fs.flatten)):=List.Perm.append_left _ pm
     _ |>.Perm (G++(O++Fs.flatten)):=by
       rw [<-append_assoc,<-append_assoc];exact List.Perm.append_right _ perm_append_comm
  have p2:=p1.nodup_iff.mpr nd
  refine p2.sublist ?_
  exact List.Sublist.append_left (List.sublist_append_right _ _) _
 ·rcases List.mem_append.mp (pm.mem_iff.mp (mem_append_right _ ha)) with y | y
  ·exact hn a y
  ·exact E.fresh a y
 ·by_cases hj:j=i
  ·subst hj
   rw [getElem?_set_self hi] at hq
   cases hq
   refine ⟨hv,v,G,?_,?_,ho.mono (Same.refl _) fun a ha=>.inl (sub a ha)⟩
   ·rw [getElem?_set_self (by rw [E.len1];exact hi)]
   ·rw [getElem?_set_self (by rw [E.len2];exact hi)]
  ·rw [getElem?_set_ne (Ne.symm hj)] at hq
   obtain ⟨w1,v',F',e1,e2,e3⟩:=E.slot j q hq
   exact ⟨w1,v',F',by rw [getElem?_set_ne (Ne.symm hj)];exact e1,by rw [getElem?_set_ne (Ne.symm hj)];exact e2,e3.mono (Same.refl _) fun a ha=>.inl (sub a ha)⟩
theorem Aft.freshG {Γ':Ev} {p:PV} {v:V} {H':Hp} {Fs':List (List Addr)} (E:EnvOk K He O Fs H σ Γ) (A:Aft K He O Fs H σ Γ' p v H' G Fs'):∀a∈G,He a=none:=fun a ha=>by
 rcases A.new a (mem_append_left _ ha) with z | z
 ·exact E.fresh a z
 ·exact E.same.free z
end
def eVar (i:Nat):F1:=fun Γ=>match Γ[i]? with
 | some (some p)=>(match p.s with
  | .leaf=>.ok ⟨.leaf,p.d⟩ Γ
  | _=>.ok ⟨.view,p.d⟩ Γ)
 | _=>.no
def eMove (i:Nat):F1:=fun Γ=>match Γ[i]? with
 | some (some p)=>.ok p (Γ.set i none)
 | _=>.no
def eK (d:D):F1:=fun Γ=>.ok ⟨.leaf,d⟩ Γ
section
variable {X:Cx} {W:XW} {i:Nat} {e:Expr} {pos:Pos}
theorem rd_var {K:Fg} {σ:St} {H:Hp} {Q:VK} (h:tE K W (eVar i) σ H Q):tVar i σ H Q:=by
 obtain ⟨He,O,Fs,Γ,E,h⟩:=h
 unfold eVar at h
 cases e:Γ[i]? with
 | none=>rw [e] at h;exact h.elim
 | some o=>
  rw [e] at h
  cases o with
  | none=>exact h.elim
  | some p=>
   obtain ⟨hv,v,F,h1,h2,h3⟩:=E.slot i p e
   obtain ⟨s,d⟩:=p
   have new:∀a∈[]++Fs.flatten,a∈Fs.flatten\/H a=none:=fun a ha=>.inl (by simpa using ha)
   cases s with
   | leaf=>
    cases h3 with
    | leaf r=>exact ⟨v,h1,h v H [] Fs ⟨Same.refl _,by simpa using E,new,.leaf r⟩⟩
   | view=>cases hv
   | lst s=>exact ⟨v,h1,h v H [] Fs ⟨Same.refl _,by simpa using E,new,.view h3.rep⟩⟩
   | tup ss=>exact ⟨v,h1,h v H [] Fs ⟨Same.refl _,by simpa using E,new,.view h3.rep⟩⟩
theorem rd_move {K:Fg} {σ:St} {H:Hp} {Q:VK} (h:tE K W (eMove i) σ H Q):tVar i σ H Q:=by
 obtain ⟨He,O,Fs,Γ,E,h⟩:=h
 unfold eMove at h
 cases e:Γ[i]? with
 | none=>rw [e] at h;exact h.elim
 | some o=>
  rw [e] at h
  cases o with
  | none=>exact h.elim
  | some p=>
   obtain ⟨hv,v,F,h1,E',o',sub⟩:=E.move e
   exact ⟨v,h1,h v H F (Fs.set i []) ⟨Same.refl _,E',fun a ha=>.inl (sub a ha),o'⟩⟩
theorem de_var (h:PE X e (tVar i)):PE X e (tE X.K W (eVar i)):=PEimp h fun _ _ _=>rd_var
theorem de_move (h:PE X e (tVar i)):PE X e (tE X.K W (eMove i)):=PEimp h fun _ _ _=>rd_move
theorem rd_k {K:Fg} {σ:St} {H:Hp} {Q:VK} {v:V} {d:D} (hs:∀H,Rep K H v d) (h:tE K W (eK d) σ H Q):Q v H:=by
 obtain ⟨He,O,Fs,Γ,E,h⟩:=h
 exact h v H [] Fs ⟨Same.refl _,by simpa using E,fun a ha=>.inl (by simpa using ha),.leaf (hs _)⟩
theorem de_int {j:Int} {k pos}:PE X (.Constant (.int j) k pos) (tE X.K W (eK (.int j))):=PEimp pe_int fun _ _ _=>rd_k fun _=>.int j
theorem de_bool {j:Bool} {k pos}:PE X (.Constant (.bool j) k pos) (tE X.K W (eK (.bool j))):=PEimp pe_bl fun _ _ _=>rd_k fun _=>.bl j
theorem de_none {k pos}:PE X (.Constant .none k pos) (tE X.K W (eK .none)):=PEimp pe_non fun _ _ _=>rd_k fun _=>.non
theorem de_glob {x:Str} {v:V} {u:Value} {d:D} (hg:Gl X x) (hm:X.mg x=some u) (r:RelV v u) (hr:∀H,Rep X.K H v d) (hd:(x==("__debug__":Str))=false:=by decide):PE X (.Name x pos) (tE X.K W (eK d)):=
 PEimp (pe_glob hg hm r hd) fun _ _ _=>rd_k hr
end
def eOp (g:D->D->Option D) (fa fb:F1):F1:=eBind fa fun p=>eBind fb fun q=>fun Γ=>match g p.d q.d with
 | some d=>.ok ⟨.leaf,d⟩ Γ
 | none=>.no
def GOp (K:Fg) (r:R2) (g:D->D->Option D):Prop:=∀x y H Q a b d,Rep K H x a->Rep K H y b->g a b=some d->(∀v,Sc v d->Q v H)->r x y H Q
section
variable {K:Fg} {W:XW} {σ:St} {H:Hp} {Q:VK} {fa fb:F1} {r:R2} {g:D->D->Option D}
theorem rd_op (hg:GOp K r g) (h:tE K W (eOp g fa fb) σ H Q):tOp r (tE K W fa) (tE K W fb) σ H Q:=by
 refine zJI h ?_
 intro He O Fs Γ2 p q v u H1 H2 G1 G2 Fs2 nd s1 s2 E new o1 o2 w
 cases e:g p.d q.d with
 | none=>rw [e] at w;exact w.elim
 | some d=>
  rw [e] at w
  exact hg v u H2 Q p.d q.d d o1.rep o2.rep e fun z s=>w.scal s (s1.trans s2) E (fun a ha=>mem_append_right _ (mem_append_right _ ha)) nd fun a ha=>new a (mem_append_right _ (mem_append_right _ ha))
end
theorem GOp.or {K:Fg} {r r':R2} {g g':D->D->Option D} (h:GOp K r g) (h':GOp K r' g'):GOp K (fun x y H Q=>r x y H Q\/r' x y H Q) (fun a b=>(g a b).or (g' a b)):=by
 intro x y H Q a b d ra rb e k
 have e:(g a b).or (g' a b)=some d:=e
 cases e1:g a b with
 | some z=>rw [e1] at e;cases e;exact .inl (h x y H Q a b _ ra rb e1 k)
 | none=>rw [e1] at e;exact .inr (h' x y H Q a b d ra rb (by simpa using e) k)
def gI (C:Int->Int->Bool) (f:Int->Int->D):D->D->Option D
 | .int i,.int j=>if C i j then some (f i j) else none
 | _,_=>none
theorem gop_I {K:Fg} {C:Int->Int->Prop} {C':Int->Int->Bool} {g:Int->Int->V} {f:Int->Int->D} (hC:∀i j,C' i j=true->C i j) (hs:∀i j,Sc (g i j) (f i j)):GOp K (rI C g) (gI C' f):=by
 intro x y H Q a b d ra rb e k
 cases ra<;>cases rb<;>simp only [gI] at e<;>try cases e
 rename_i i j
 split at e
 ·rename_i c
  cases e
  exact ⟨i,j,rfl,rfl,hC i j c,k _ (hs i j)⟩
 ·cases e
def gI0 (f:Int->Int->D):D->D->Option D
 | .int i,.int j=>some (f i j)
 | _,_=>none
theorem zIR {K:Fg} {g:Int->Int->V} {f:Int->Int->D} (hs:∀i j,Sc (g i j) (f i j)):GOp K (rI0 g) (gI0 f):=by
 intro x y H Q a b d ra rb e k
 cases ra<;>cases rb<;>simp only [gI0] at e<;>try cases e
 rename_i i j
 exact ⟨i,j,rfl,rfl,k _ (hs i j)⟩
abbrev gSub:=gI0 fun i j=>.int (i-j)
abbrev gAddI:=gI0 fun i j=>.int (i+j)
def cMul (i j:Int):Bool:=(decide (-(2 ^ 64)<i)&&decide (i<2 ^ 64))||(decide (-(2 ^ 64)<j)&&decide (j<2 ^ 64))
abbrev gMul:=gI cMul fun i j=>.int (i*j)
def cDiv (_ j:Int):Bool:=decide (0<j)&&decide (j<1073741824)
abbrev gDiv:=gI cDiv fun i j=>.int (i / j)
def cMod (_ j:Int):Bool:=decide (0<j)
abbrev gMod:=gI cMod fun i j=>.int (i % j)
def cPow (i j:Int):Bool:=decide (0<=j)&&decide (j<=1000000)&&decide (i.natAbs<2 ^ 64)
abbrev gPow:=gI cPow fun i j=>.int (i ^ j.toNat)
section
variable {X:Cx} {W:XW} {a b c:Expr} {pos:Pos} {fa fb fc:F1}
theorem de_sub (ha:PE X a (tE X.K W fa)) (hb:PE X b (tE X.K W fb)):PE X (.BinOp a .Sub b pos) (tE X.K W (eOp gSub fa fb)):=PEimp (pe_op op_sub ha hb) fun _ _ _=>rd_op (zIR fun _ _=>.int _)
theorem de_addI (ha:PE X a (tE X.K W fa)) (hb:PE X b (tE X.K W fb)):PE X (.BinOp a .Add b pos) (tE X.K W (eOp gAddI fa fb)):=PEimp (pe_op op_add ha hb) fun _ _ _=>rd_op (zIR fun _ _=>.int _)
theorem de_mul (ha:PE X a (tE X.K W fa)) (hb:PE X b (tE X.K W fb)):PE X (.BinOp a .Mult b pos) (tE X.K W (eOp gMul fa fb)):=PEimp (pe_op op_mul ha hb) fun _ _ _=>rd_op (gop_I (fun i j h=>by
 simp only [cMul,Bool.or_eq_true,Bool.and_eq_true,decide_eq_true_eq] at h
 exact h) fun _ _=>.int _)
theorem de_div (ha:PE X a (tE X.K W fa)) (hb:PE X b (tE X.K W fb)):PE X (.BinOp a .FloorDiv b pos) (tE X.K W (eOp gDiv fa fb)):=PEimp (pe_op op_fdiv ha hb) fun _ _ _=>rd_op (gop_I (fun i j h=>by
 simp only [cDiv,Bool.and_eq_true,decide_eq_true_eq] at h
 exact h) fun _ _=>.int _)
theorem de_mod (ha:PE X a (tE X.K W fa)) (hb:PE X b (tE X.K W fb)):PE X (.BinOp a .Mod b pos) (tE X.K W (eOp gMod fa fb)):=PEimp (pe_op op_mod ha hb) fun _ _ _=>rd_op (gop_I (fun i j h=>by
 simp only [cMod,decide_eq_true_eq] at h
 exact h) fun _ _=>.int _)
theorem de_pow (ha:PE X a (tE X.K W fa)) (hb:PE X b (tE X.K W fb)):PE X (.BinOp a .Pow b pos) (tE X.K W (eOp gPow fa fb)):=PEimp (pe_op op_pow ha hb) fun _ _ _=>rd_op (gop_I (fun i j h=>by
 simp only [cPow,Bool.and_eq_true,decide_eq_true_eq] at h
 exact ⟨h.1.1,h.1.2,h.2⟩) fun _ _=>.int _)
end
mutual
def Sh.same:Sh->Sh->Bool
 | .view,.view=>true
 | .leaf,.leaf=>true
 | .lst a,.lst b=>Sh.same a b
 | .tup as,.tup bs=>Sh.sameL as bs
 | _,_=>false
def Sh.sameL:List Sh->List Sh->Bool
 | [],[]=>true
 | a::as,b::bs=>Sh.same a b&&Sh.sameL as bs
 | _,_=>false
end
mutual
theorem Sh.same_eq:∀{a b:Sh},Sh.same a b=true->a=b
 | .view,.view,_=>rfl
 | .leaf,.leaf,_=>rfl
 | .lst a,.lst b,h=>by rw [Sh.same_eq (a:=a) (b:=b) (by simpa [Sh.same] using h)]
 | .tup as,.tup bs,h=>by rw [Sh.sameL_eq (as:=as) (bs:=bs) (by simpa [Sh.same] using h)]
 | .view,.leaf,h=>by simp [Sh.same] at h
 | .view,.lst _,h=>by simp [Sh.same] at h
 | .view,.tup _,h=>by simp [Sh.same] at h
 | .leaf,.view,h=>by simp [Sh.same] at h
 | .leaf,.lst _,h=>by simp [Sh.same] at h
 | .leaf,.tup _,h=>by simp [Sh.same] at h
 | .lst _,.view,h=>by simp [Sh.same] at h
 | .lst _,.leaf,h=>by simp [Sh.same] at h
 | .lst _,.tup _,h=>by simp [Sh.same] at h
 | .tup _,.view,h=>by simp [Sh.same] at h
 | .tup _,.leaf,h=>by simp [Sh.same] at h
 | .tup _,.lst _,h=>by simp [Sh.same] at h
theorem Sh.sameL_eq:∀{as bs:List Sh},Sh.sameL as bs=true->as=bs
 | [],[],_=>rfl
 | a::as,b::bs,h=>by
  have h:Sh.same a b=true/\Sh.sameL as bs=true:=by simpa [Sh.sameL] using h
  rw [Sh.same_eq h.1,Sh.sameL_eq h.2]
 | [],_::_,h=>by simp [Sh.sameL] at h
 | _::_,[],h=>by simp [Sh.sameL] at h
end
def coer (s:Sh) (p:PV):Bool:=match s with
 | .leaf=>!p.s.isView||scalD p.d
 | .view=>false
 | s=>Sh.same s p.s
def keepG (s:Sh) (G:List Addr):List Addr:=match s with
 | .leaf=>[]
 | _=>G
theorem zG7 {s:Sh} {G:List Addr} {a:Addr} (h:a∈keepG s G):a∈G:=by
 unfold keepG at h
 split at h
 ·simp at h
 ·exact h
theorem Own.coer {K:Fg} {O O':List Addr} {H:Hp} {s:Sh} {p:PV} {G:List Addr} {v:V} (h:Own K O H p.s G v p.d) (c:coer s p=true) (h1:∀a∈O',a∈O) (h2:∀a∈G,a∈O'->a∈keepG s G):Own K O' H s (keepG s G) v p.d:=by
 cases s with
 | view=>simp [T.coer] at c
 | leaf=>
  show Own K O' H .leaf [] v p.d
  have c:(!p.s.isView||scalD p.d)=true:=c
  cases hv:p.s.isView with
  | false=>exact .leaf (h.freeze hv h1 fun a ha z=>by simpa [keepG] using h2 a ha z)
  | true=>
   rw [hv] at c
   exact .leaf (h.rep.sc (by simpa using c)).rep
 | lst s=>
  have e:Sh.lst s=p.s:=Sh.same_eq c
  show Own K O' H (.lst s) G v p.d
  rw [e]
  exact h.mono (Same.refl _) fun a ha=>.inl (h1 a ha)
 | tup ss=>
  have e:Sh.tup ss=p.s:=Sh.same_eq c
  show Own K O' H (.tup ss) G v p.d
  rw [e]
  exact h.mono (Same.refl _) fun a ha=>.inl (h1 a ha)
open PySem.SeqAt in
def gEq:D->D->Option D:=fun a b=>if shaped a&&shaped b then some (.bool (PyData.eqv a b)) else none
open PySem.SeqAt in
def gNe:D->D->Option D:=fun a b=>if shaped a&&shaped b then some (.bool (!PyData.eqv a b)) else none
open PySem.SeqAt in
def rEqD (K:Fg) (neg:Bool):R2:=fun x y H Q=>∃a b,Rep K H x a/\Rep K H y b/\shaped a=true/\shaped b=true/\Q (.bl (if neg then !PyData.eqv a b else PyData.eqv a b)) H
section
variable {X:Cx}
theorem op_eqD (hu:X.A.units+64<cLine):OpR X (compareOp .Eq) (rEqD X.K false):=by
 intro pins s σ H x y v u Q I rx ry h
 obtain ⟨a,b,ra,rb,sa,sb,q⟩:=h
 obtain ⟨as,r1⟩:=ra.reads I v rx
 obtain ⟨bs,r2⟩:=rb.reads I u ry
 exact SeqAt.compareEq_shaped r1 r2 sa sb hu ⟨.bl _,H,I,rfl,q⟩
theorem op_neD (hu:X.A.units+64<cLine):OpR X (compareOp .NotEq) (rEqD X.K true):=by
 intro pins s σ H x y v u Q I rx ry h
 obtain ⟨a,b,ra,rb,sa,sb,q⟩:=h
 obtain ⟨as,r1⟩:=ra.reads I v rx
 obtain ⟨bs,r2⟩:=rb.reads I u ry
 exact SeqAt.compareNe_shaped r1 r2 sa sb hu ⟨.bl _,H,I,rfl,q⟩
end
theorem gop_eq {K:Fg}:GOp K (rEqD K false) gEq:=by
 intro x y H Q a b d ra rb e k
 unfold gEq at e
 split at e
 ·rename_i c
  cases e
  simp only [Bool.and_eq_true] at c
  exact ⟨a,b,ra,rb,c.1,c.2,k _ (.bl _)⟩
 ·cases e
theorem gop_ne {K:Fg}:GOp K (rEqD K true) gNe:=by
 intro x y H Q a b d ra rb e k
 unfold gNe at e
 split at e
 ·rename_i c
  cases e
  simp only [Bool.and_eq_true] at c
  exact ⟨a,b,ra,rb,c.1,c.2,k _ (.bl _)⟩
 ·cases e
def gLtS:D->D->Option D
 | .str i,.str j=>some (.bool (decide (i.cps.toList<j.cps.toList)))
 | _,_=>none
abbrev gLtI:=gI0 fun i j=>.bool (decide (i<j))
abbrev gLt:D->D->Option D:=fun a b=>(gLtI a b).or (gLtS a b)
abbrev gLe:=gI0 fun i j=>.bool (decide (i<=j))
abbrev gGt:=gI0 fun i j=>.bool (decide (j<i))
abbrev gGe:=gI0 fun i j=>.bool (decide (j<=i))
theorem gop_ltS {K:Fg}:GOp K (fun x y H Q=>∃i j,x=.str i/\y=.str j/\Q (.bl (decide (i.cps.toList<j.cps.toList))) H) gLtS:=by
 intro x y H Q a b d ra rb e k
 cases ra<;>cases rb<;>simp only [gLtS] at e<;>try cases e
 rename_i i j
 exact ⟨i,j,rfl,rfl,k _ (.bl _)⟩
theorem gop_lt {K:Fg}:GOp K (fun x y H Q=>rI0 (fun i j=>.bl (decide (i<j))) x y H Q\/∃i j,x=.str i/\y=.str j/\Q (.bl (decide (i.cps.toList<j.cps.toList))) H) gLt:=
 (zIR fun _ _=>.bl _).or gop_ltS
open PySem.SeqAt in
def gIn (neg:Bool):D->D->Option D
 | a,.list xs=>if shaped a&&shaped (.list xs) then some (.bool (if neg then !xs.any fun y=>PyData.eqv y a else xs.any fun y=>PyData.eqv y a)) else none
 | a,.tuple xs=>if shaped a&&shaped (.tuple xs) then some (.bool (if neg then !xs.any fun y=>PyData.eqv y a else xs.any fun y=>PyData.eqv y a)) else none
 | _,_=>none
def rInD (K:Fg) (neg:Bool):R2:=fun x y H Q=>∃a b d,Rep K H x a/\Rep K H y b/\gIn neg a b=some (.bool d)/\Q (.bl d) H
theorem gop_in {K:Fg} {neg:Bool}:GOp K (rInD K neg) (gIn neg):=by
 intro x y H Q a b d ra rb e k
 have:∃c,d=.bool c:=by
  cases b<;>simp only [gIn] at e<;>(try cases e)<;>(split at e<;>cases e<;>exact ⟨_,rfl⟩)
 obtain ⟨c,rfl⟩:=this
 exact ⟨a,b,c,ra,rb,e,k _ (.bl c)⟩
theorem zEA {d:D} {xs:List D} (h:SeqAt.shaped d=true) (e:d=.list xs\/d=.tuple xs):PyData.canLayAll0 xs=true/\PyData.depthAll xs+1<=64:=by
 have h1:=SeqAt.canLay_of_shaped h
 have h2:=SeqAt.depth_of_shaped h
 rcases e with e | e<;>subst e<;>exact ⟨by simpa [PyData.canLay0] using h1,by simpa [PyData.depth] using h2⟩
section
variable {X:Cx}
theorem op_inD (hu:X.A.units+64<cLine):OpR X (compareOp .In) (rInD X.K false):=by
 intro pins s σ H x y v u Q I rx ry h
 obtain ⟨a,b,d,ra,rb,e,q⟩:=h
 obtain ⟨as,r1⟩:=ra.reads I v rx
 obtain ⟨bs,r2⟩:=rb.reads I u ry
 cases b<;>simp only [gIn] at e<;>try cases e
 all_goals
  split at e
  ·rename_i c
   simp only [Bool.and_eq_true] at c
   simp only [Option.some.injEq,PyData.bool.injEq] at e
   subst e
   first
    | (obtain ⟨p1,p2⟩:=zEA c.2 (.inl rfl)
       exact SeqAt.in_list_reads r2 r1 p1 (SeqAt.canLay_of_shaped c.1) (Nat.lt_of_le_of_lt (by have:=Nat.min_le_left (PyData.depthAll ‹_›) a.depth;omega) hu) ⟨.bl _,H,I,rfl,q⟩)
    | (obtain ⟨p1,p2⟩:=zEA c.2 (.inr rfl)
       exact SeqAt.in_tuple_reads r2 r1 p1 (SeqAt.canLay_of_shaped c.1) (Nat.lt_of_le_of_lt (by have:=Nat.min_le_left (PyData.depthAll ‹_›) a.depth;omega) hu) ⟨.bl _,H,I,rfl,q⟩)
  ·cases e
theorem op_notInD (hu:X.A.units+64<cLine):OpR X (compareOp .NotIn) (rInD X.K true):=by
 intro pins s σ H x y v u Q I rx ry h
 obtain ⟨a,b,d,ra,rb,e,q⟩:=h
 obtain ⟨as,r1⟩:=ra.reads I v rx
 obtain ⟨bs,r2⟩:=rb.reads I u ry
 cases b<;>simp only [gIn] at e<;>try cases e
 all_goals
  split at e
  ·rename_i c
   simp only [Bool.and_eq_true] at c
   simp only [Option.some.injEq,PyData.bool.injEq] at e
   subst e
   first
    | (obtain ⟨p1,p2⟩:=zEA c.2 (.inl rfl)
       exact SeqAt.notIn_list_reads r2 r1 p1 (SeqAt.canLay_of_shaped c.1) (Nat.lt_of_le_of_lt (by have:=Nat.min_le_left (PyData.depthAll ‹_›) a.depth;omega) hu) ⟨.bl _,H,I,rfl,q⟩)
    | (obtain ⟨p1,p2⟩:=zEA c.2 (.inr rfl)
       exact SeqAt.notIn_tuple_reads r2 r1 p1 (SeqAt.canLay_of_shaped c.1) (Nat.lt_of_le_of_lt (by have:=Nat.min_le_left (PyData.depthAll ‹_›) a.depth;omega) hu) ⟨.bl _,H,I,rfl,q⟩)
  ·cases e
end
def WantsB (K:Fg) (W:XW) (He:Hp) (O:List Addr) (Fs:List (List Addr)) (H:Hp) (σ:St) (Q:Bool->Hp->Prop) (o:Out Bool):Prop:=match o with
 | .ok b Γ'=>∀H' Fs',Same H H'->EnvOk K He O Fs' H' σ Γ'->(∀a∈Fs'.flatten,a∈Fs.flatten\/H a=none)->Q b H'
 | .er c Γ'=>∀H' Fs',Same H H'->EnvOk K He O Fs' H' σ Γ'->W c σ H'
 | .no=>False
abbrev FB:=Ev->Out Bool
def tT (K:Fg) (W:XW) (f:FB):TT:=fun σ H Q=>∃He O Fs Γ,EnvOk K He O Fs H σ Γ/\WantsB K W He O Fs H σ Q (f Γ)
section
variable {K:Fg} {W:XW} {He H H1:Hp} {O:List Addr} {Fs Fs1:List (List Addr)} {σ:St} {Γ Γ':Ev} {Q:VK} {QB:Bool->Hp->Prop}
theorem Wants.after {o:Out PV} (h:Wants K W He O Fs H σ Q o) (s:Same H H1) (n:∀a∈Fs1.flatten,a∈Fs.flatten\/H a=none):Wants K W He O Fs1 H1 σ Q o:=by
 cases o with
 | ok p Γ'=>exact fun v H' G Fs' A=>h v H' G Fs' ⟨s.trans A.same,A.env,fun a ha=>(A.new a ha).elim (n a) fun z=>.inr (s.free z),A.own⟩
 | er c Γ'=>exact fun H' Fs' e E=>h H' Fs' (s.trans e) E
 | no=>exact h
theorem WantsB.after {o:Out Bool} (h:WantsB K W He O Fs H σ QB o) (s:Same H H1) (n:∀a∈Fs1.flatten,a∈Fs.flatten\/H a=none):WantsB K W He O Fs1 H1 σ QB o:=by
 cases o with
 | ok p Γ'=>exact fun H' Fs' e E n'=>h H' Fs' (s.trans e) E fun a ha=>(n' a ha).elim (n a) fun z=>.inr (s.free z)
 | er c Γ'=>exact fun H' Fs' e E=>h H' Fs' (s.trans e) E
 | no=>exact h
theorem Aft.go {p:PV} {v:V} {G:List Addr} (A:Aft K He O Fs H σ Γ' p v H1 G Fs1):EnvOk K He O Fs1 H1 σ Γ':=A.env.dropL
theorem Aft.newF {p:PV} {v:V} {G:List Addr} (A:Aft K He O Fs H σ Γ' p v H1 G Fs1):∀a∈Fs1.flatten,a∈Fs.flatten\/H a=none:=fun a ha=>A.new a (mem_append_right _ ha)
end
section
variable {K:Fg} {W:XW} {σ:St} {H:Hp} {Q:VK} {QB:Bool->Hp->Prop} {fa fb fc:F1} {ga gb:FB}
def bOf (g:D->Option Bool) (f:F1):FB:=fun Γ=>(f Γ).bind fun p Γ'=>match g p.d with
 | some b=>.ok b Γ'
 | none=>.no
theorem tE_test {g:D->Option Bool} {R:VK} (h:tT K W (bOf g fa) σ H QB) (hR:∀v d b H1,Rep K H1 v d->g d=some b->QB b H1->R v H1):tE K W fa σ H R:=by
 obtain ⟨He,O,Fs,Γ,E,h⟩:=h
 refine ⟨He,O,Fs,Γ,E,?_⟩
 unfold bOf at h
 cases e:fa Γ with
 | ok p Γ'=>
  rw [e] at h
  intro v H' G Fs' A
  have h:WantsB K W He O Fs H σ QB (match g p.d with | some b=>.ok b Γ' | none=>.no):=h
  cases e2:g p.d with
  | some b=>
   rw [e2] at h
   exact hR v p.d b H' A.own.rep e2 (h H' Fs' A.same A.go A.newF)
  | none=>rw [e2] at h;exact h.elim
 | er c Γ'=>rw [e] at h;exact h
 | no=>rw [e] at h;exact h
def gBool:D->Option Bool
 | .bool b=>some b
 | _=>none
theorem rd_test {t:TE} (hi:∀Q,tE K W fa σ H Q->t σ H Q) (h:tT K W (bOf gBool fa) σ H QB):tTest t σ H QB:=by
 refine hi _ (tE_test h fun v d b H1 r e q=>?_)
 cases r<;>simp only [gBool] at e<;>try cases e
 exact ⟨_,rfl,q⟩
def gTru:D->Option Bool
 | .none=>some false
 | .bool b=>some b
 | .int i=>some (i != 0)
 | .str x=>if x.length<=sizeLine then some ((x.length:Int) != 0) else none
 | .list xs=>some (!xs.isEmpty)
 | .tuple xs=>some (!xs.isEmpty)
 | .dict _=>none
theorem rd_tru (h:tT K W (bOf gTru fa) σ H QB):tE K W fa σ H fun x H'=>∃k,TruV K x H' k/\QB k H':=by
 refine tE_test h fun v d b H1 r e q=>?_
 cases r with
 | non=>cases e;exact ⟨_,rfl,q⟩
 | bl c=>cases e;exact ⟨_,rfl,q⟩
 | int i=>cases e;exact ⟨_,rfl,q⟩
 | str x=>
  simp only [gTru] at e
  split at e
  ·rename_i z;cases e;exact ⟨_,⟨z,rfl⟩,q⟩
  ·cases e
 | @lst p vs ds hq hl _=>
  cases e
  exact ⟨_,.inl ⟨vs,hq,by cases vs<;>cases ds<;>simp_all⟩,q⟩
 | @tup p vs ds hq hl _=>
  cases e
  exact ⟨_,.inr (.inl ⟨vs,hq,by cases vs<;>cases ds<;>simp_all⟩),q⟩
def bAnd (a b:FB):FB:=fun Γ=>(a Γ).bind fun c Γ'=>if c then b Γ' else .ok false Γ'
def bOr (a b:FB):FB:=fun Γ=>(a Γ).bind fun c Γ'=>if c then .ok true Γ' else b Γ'
def bNot (a:FB):FB:=fun Γ=>(a Γ).bind fun c Γ'=>.ok (!c) Γ'
theorem zKL {k:Bool->Ev->Out Bool} {R:Bool->Hp->Prop} (h:tT K W (fun Γ=>(ga Γ).bind k) σ H QB)
  (hk:∀(He:Hp) (O:List Addr) Γ1 b H1 Fs1,Same H H1->EnvOk K He O Fs1 H1 σ Γ1->WantsB K W He O Fs1 H1 σ QB (k b Γ1)->R b H1):tT K W ga σ H R:=by
 obtain ⟨He,O,Fs,Γ,E,h⟩:=h
 have h:WantsB K W He O Fs H σ QB ((ga Γ).bind k):=h
 refine ⟨He,O,Fs,Γ,E,?_⟩
 cases e:ga Γ with
 | ok b Γ1=>rw [e] at h;exact fun H' Fs' s E' n=>hk He O Γ1 b H' Fs' s E' (WantsB.after (o:=k b Γ1) h s n)
 | er c Γ1=>rw [e] at h;exact h
 | no=>rw [e] at h;exact h
theorem WantsB.now {He:Hp} {O:List Addr} {Fs:List (List Addr)} {Γ:Ev} {b:Bool} (h:WantsB K W He O Fs H σ QB (.ok b Γ)) (E:EnvOk K He O Fs H σ Γ):QB b H:=h H Fs (Same.refl _) E fun _ z=>.inl z
theorem rd_bAnd (h:tT K W (bAnd ga gb) σ H QB):tAnd (tT K W ga) (tT K W gb) σ H QB:=by
 refine zKL h fun He O Γ1 b H1 Fs1 s E w=>?_
 cases b with
 | true=>exact iteT ⟨He,O,Fs1,Γ1,E,w⟩
 | false=>exact iteF (WantsB.now w E)
theorem rd_bOr (h:tT K W (bOr ga gb) σ H QB):tOr (tT K W ga) (tT K W gb) σ H QB:=by
 refine zKL h fun He O Γ1 b H1 Fs1 s E w=>?_
 cases b with
 | false=>exact iteF ⟨He,O,Fs1,Γ1,E,w⟩
 | true=>exact iteT (WantsB.now w E)
theorem rd_bNot (h:tT K W (bNot ga) σ H QB):tNot (tT K W ga) σ H QB:=zKL h fun He O Γ1 b H1 Fs1 s E w=>WantsB.now w E
def eAnd (fa fb:F1):F1:=eBind fa fun p Γ=>match p.d with
 | .bool true=>fb Γ
 | .bool false=>.ok ⟨.leaf,.bool false⟩ Γ
 | _=>.no
def eNot (fa:F1):F1:=eBind fa fun p Γ=>match p.d with
 | .bool b=>.ok ⟨.leaf,.bool (!b)⟩ Γ
 | _=>.no
theorem rd_and (h:tE K W (eAnd fa fb) σ H Q):tAndV (tE K W fa) (tE K W fb) σ H Q:=by
 refine zJ9 h fun He O Fs Γ1 p v H1 G Fs1 nd A w=>?_
 have r:=A.own.rep
 obtain ⟨s,d⟩:=p
 cases r with
 | bl b=>
  cases b with
  | true=>exact ⟨true,rfl,iteT ⟨He,O,Fs1,Γ1,A.go,Wants.after w A.same A.newF⟩⟩
  | false=>exact ⟨false,rfl,iteF (Wants.scal w (.bl false) A.same A.env (fun a ha=>mem_append_right _ ha) nd A.newF)⟩
 | _=>exact w.elim
def eIf (c:FB) (fa fb:F1):F1:=fun Γ=>(c Γ).bind fun b Γ'=>if b then fa Γ' else fb Γ'
theorem rd_if (h:tE K W (eIf ga fa fb) σ H Q):tIf (tT K W ga) (tE K W fa) (tE K W fb) σ H Q:=by
 obtain ⟨He,O,Fs,Γ,E,h⟩:=h
 refine ⟨He,O,Fs,Γ,E,?_⟩
 unfold eIf at h
 cases e:ga Γ with
 | ok b Γ1=>
  rw [e] at h
  intro H' Fs' s E' n
  have h':=Wants.after (o:=if b then fa Γ1 else fb Γ1) h s n
  cases b with
  | true=>exact iteT ⟨He,O,Fs',Γ1,E',h'⟩
  | false=>exact iteF ⟨He,O,Fs',Γ1,E',h'⟩
 | er c Γ1=>rw [e] at h;exact h
 | no=>rw [e] at h;exact h
def zFM (g g':D->D->Option D) (fa fb fc:F1):F1:=eBind fa fun p=>eBind fb fun q=>fun Γ=>match g p.d q.d with
 | some (.bool true)=>if scalD q.d then (fc Γ).bind fun z Γ'=>(match g' q.d z.d with | some d=>.ok ⟨.leaf,d⟩ Γ' | none=>.no) else .no
 | some (.bool false)=>.ok ⟨.leaf,.bool false⟩ Γ
 | _=>.no
theorem rd_chain {r r':R2} {g g':D->D->Option D} (hg:GOp K r g) (hg':GOp K r' g') (h:tE K W (zFM g g' fa fb fc) σ H Q):zKM r r' (tE K W fa) (tE K W fb) (tE K W fc) σ H Q:=by
 refine zJI h ?_
 intro He O Fs Γ2 p q v u H1 H2 G1 G2 Fs2 nd s1 s2 E new o1 o2 w
 have sub:∀a∈O,a∈G2++(G1++O):=fun a ha=>mem_append_right _ (mem_append_right _ ha)
 have newF:∀a∈Fs2.flatten,a∈Fs.flatten\/H a=none:=fun a ha=>new a (mem_append_right _ (mem_append_right _ ha))
 cases e:g p.d q.d with
 | none=>rw [e] at w;exact w.elim
 | some d=>
  rw [e] at w
  refine hg v u H2 _ p.d q.d d o1.rep o2.rep e fun z s=>?_
  cases s with
  | bl b=>
   cases b with
   | false=>exact ⟨false,rfl,iteF (Wants.scal w (.bl false) (s1.trans s2) E sub nd newF)⟩
   | true=>
    refine ⟨true,rfl,iteT ?_⟩
    have w:Wants K W He O Fs H σ Q (if scalD q.d then (fc Γ2).bind fun z Γ'=>(match g' q.d z.d with | some d=>.ok ⟨.leaf,d⟩ Γ' | none=>.no) else .no):=w
    cases hs:scalD q.d with
    | false=>rw [hs] at w;exact w.elim
    | true=>
     rw [hs] at w
     have w:Wants K W He O Fs H σ Q ((fc Γ2).bind fun z Γ'=>(match g' q.d z.d with | some d=>.ok ⟨.leaf,d⟩ Γ' | none=>.no)):=w
     have su:=o2.rep.sc hs
     refine ⟨He,O,Fs2,Γ2,E.drop sub nd,?_⟩
     cases e3:fc Γ2 with
     | ok p3 Γ3=>
      rw [e3] at w
      intro v3 H3 G3 Fs3 A3
      have w:Wants K W He O Fs H σ Q (match g' q.d p3.d with | some d=>.ok ⟨.leaf,d⟩ Γ3 | none=>.no):=w
      cases e4:g' q.d p3.d with
      | none=>rw [e4] at w;exact w.elim
      | some d4=>
       rw [e4] at w
       exact hg' u v3 H3 Q q.d p3.d d4 su.rep A3.own.rep e4 fun z s=>Wants.scal w s ((s1.trans s2).trans A3.same) A3.env (fun a ha=>mem_append_right _ ha) nd fun a ha=>(A3.new a (mem_append_right _ ha)).elim (newF a) fun z=>.inr ((s1.trans s2).free z)
     | er c Γ3=>
      rw [e3] at w
      exact fun H' Fs' s E'=>w H' Fs' ((s1.trans s2).trans s) E'
     | no=>rw [e3] at w;exact w
  | non=>exact w.elim
  | int i=>exact w.elim
  | str x=>exact w.elim
end
structure AftL (K:Fg) (He:Hp) (O:List Addr) (Fs:List (List Addr)) (H:Hp) (σ:St) (Γ':Ev) (ps:List PV) (vs:List V) (H':Hp) (Gs Fs':List (List Addr)):Prop where
 same:Same H H'
 len1:vs.length=ps.length
 len2:Gs.length=ps.length
 env:EnvOk K He (Gs.flatten++O) Fs' H' σ Γ'
 new:∀a∈Gs.flatten++Fs'.flatten,a∈Fs.flatten\/H a=none
 own:∀(i:Nat) v p G,vs[i]?=some v->ps[i]?=some p->Gs[i]?=some G->Own K (Gs.flatten++O++Fs'.flatten) H' p.s G v p.d
abbrev FL:=Ev->Out (List PV)
def WantsL (K:Fg) (W:XW) (He:Hp) (O:List Addr) (Fs:List (List Addr)) (H:Hp) (σ:St) (Q:List V->Hp->Prop) (o:Out (List PV)):Prop:=match o with
 | .ok ps Γ'=>∀vs H' Gs Fs',AftL K He O Fs H σ Γ' ps vs H' Gs Fs'->Q vs H'
 | .er c Γ'=>∀H' Fs',Same H H'->EnvOk K He O Fs' H' σ Γ'->W c σ H'
 | .no=>False
def tA (K:Fg) (W:XW) (f:FL):TA:=fun σ H Q=>∃He O Fs Γ,EnvOk K He O Fs H σ Γ/\WantsL K W He O Fs H σ Q (f Γ)
def eNil:FL:=fun Γ=>.ok [] Γ
def eCons (fa:F1) (fl:FL):FL:=fun Γ=>(fa Γ).bind fun p Γ1=>(fl Γ1).bind fun ps Γ2=>.ok (p::ps) Γ2
section
variable {K:Fg} {W:XW} {σ:St} {H:Hp} {Q:VK} {QL:List V->Hp->Prop} {fa fb:F1} {fl:FL}
theorem rd_nil (h:tA K W eNil σ H QL):tNil σ H QL:=by
 obtain ⟨He,O,Fs,Γ,E,h⟩:=h
 exact h [] H [] Fs ⟨Same.refl _,rfl,rfl,by simpa using E,fun a ha=>.inl (by simpa using ha),fun i v p G e=>by simp at e⟩
theorem perm3 {α:Type} (A B C:List α):(A++(B++C)).Perm (B++(A++C)):=by
 rw [<-append_assoc,<-append_assoc];exact List.Perm.append_right _ perm_append_comm
theorem EnvOk.perm {He H:Hp} {O O':List Addr} {Fs:List (List Addr)} {Γ:Ev} (E:EnvOk K He O Fs H σ Γ) (p:O'.Perm O):EnvOk K He O' Fs H σ Γ:=E.drop (fun a ha=>p.mem_iff.mp ha) (p.nodup_iff.mpr E.ndO)
theorem Own.perm {H:Hp} {O O':List Addr} {s:Sh} {G:List Addr} {v:V} {d:D} (h:Own K O H s G v d) (p:∀a∈O',a∈O):Own K O' H s G v d:=h.mono (Same.refl _) fun a ha=>.inl (p a ha)
theorem rd_cons (h:tA K W (eCons fa fl) σ H QL):tCons (tE K W fa) (tA K W fl) σ H QL:=by
 obtain ⟨He,O,Fs,Γ,E,h⟩:=h
 refine ⟨He,O,Fs,Γ,E,?_⟩
 unfold eCons at h
 cases e:fa Γ with
 | ok p Γ1=>
  rw [e] at h
  intro v H1 G1 Fs1 A1
  refine ⟨He,G1++O,Fs1,Γ1,A1.env,?_⟩
  have h:WantsL K W He O Fs H σ QL ((fl Γ1).bind fun ps Γ2=>.ok (p::ps) Γ2):=h
  cases e2:fl Γ1 with
  | ok ps Γ2=>
   rw [e2] at h
   intro vs H2 Gs Fs2 A2
   have pm:((G1::Gs).flatten++O).Perm (Gs.flatten++(G1++O)):=by
    rw [flatten_cons,append_assoc]
    exact perm3 _ _ _
   refine h (v::vs) H2 (G1::Gs) Fs2 ⟨A1.same.trans A2.same,by simp [A2.len1],by simp [A2.len2],A2.env.perm pm,fun a ha=>?_,fun i u q G h1 h2 h3=>?_⟩
   ·rcases List.mem_append.mp ha with z | z
    ·rw [flatten_cons] at z
     rcases List.mem_append.mp z with z | z
     ·exact A1.new a (mem_append_left _ z)
     ·exact (A2.new a (mem_append_left _ z)).elim (fun y=>A1.new a (mem_append_right _ y)) fun y=>.inr (A1.same.free y)
    ·exact (A2.new a (mem_append_right _ z)).elim (fun y=>A1.new a (mem_append_right _ y)) fun y=>.inr (A1.same.free y)
   ·have sub:∀a∈(G1::Gs).flatten++O++Fs2.flatten,a∈Gs.flatten++(G1++O)++Fs2.flatten:=fun a ha=>by
     rcases List.mem_append.mp ha with z | z
     ·exact mem_append_left _ (pm.mem_iff.mp z)
     ·exact mem_append_right _ z
    cases i with
    | zero=>
     simp at h1 h2 h3
     subst h1 h2 h3
     refine (A1.own.mono A2.same fun a ha=>?_).perm sub
     rcases List.mem_append.mp ha with z | z
     ·rcases List.mem_append.mp z with z | z
      ·exact (A2.new a (mem_append_left _ z)).elim (fun y=>.inl (mem_append_right _ y)) .inr
      ·exact .inl (mem_append_left _ z)
     ·exact (A2.new a (mem_append_right _ z)).elim (fun y=>.inl (mem_append_right _ y)) .inr
    | succ i=>
     simp at h1 h2 h3
     exact (A2.own i u q G h1 h2 h3).perm sub
  | er c Γ2=>
   rw [e2] at h
   exact fun H2 Fs2 s E2=>h H2 Fs2 (A1.same.trans s) E2.dropL
  | no=>rw [e2] at h;exact h
 | er c Γ1=>rw [e] at h;exact h
 | no=>rw [e] at h;exact h
theorem AftL.reps {He:Hp} {O:List Addr} {Fs Gs Fs':List (List Addr)} {Γ':Ev} {ps:List PV} {vs:List V} {H':Hp} (A:AftL K He O Fs H σ Γ' ps vs H' Gs Fs'):Reps K H' vs (ps.map (·.d)):=by
 refine ⟨by rw [length_map];exact A.len1,fun i v d h1 h2=>?_⟩
 rw [getElem?_map] at h2
 cases e:ps[i]? with
 | none=>rw [e] at h2;cases h2
 | some p=>
  rw [e] at h2
  cases h2
  have hi:=(List.getElem?_eq_some_iff.mp e).1
  exact (A.own i v p (Gs[i]'(by rw [A.len2];exact hi)) h1 e (getElem?_eq_getElem _)).rep
def eCB (g:List D->Option D) (fl:FL):F1:=fun Γ=>(fl Γ).bind fun ps Γ'=>match g (ps.map (·.d)) with
 | some d=>.ok ⟨.leaf,d⟩ Γ'
 | none=>.no
def GCall (K:Fg) (r:List V->Hp->VK->Prop) (g:List D->Option D):Prop:=∀vs H Q ds d,Reps K H vs ds->g ds=some d->(∀v,Sc v d->Q v H)->r vs H Q
theorem rd_cb {r:List V->Hp->VK->Prop} {g:List D->Option D} (hg:GCall K r g) (h:tE K W (eCB g fl) σ H Q):tCB r (tA K W fl) σ H Q:=by
 obtain ⟨He,O,Fs,Γ,E,h⟩:=h
 refine ⟨He,O,Fs,Γ,E,?_⟩
 unfold eCB at h
 cases e:fl Γ with
 | ok ps Γ'=>
  rw [e] at h
  intro vs H' Gs Fs' A
  have h:Wants K W He O Fs H σ Q (match g (ps.map (·.d)) with | some d=>.ok ⟨.leaf,d⟩ Γ' | none=>.no):=h
  cases e2:g (ps.map (·.d)) with
  | none=>rw [e2] at h;exact h.elim
  | some d=>
   rw [e2] at h
   exact hg vs H' Q _ d A.reps e2 fun v s=>Wants.scal h s A.same A.env (fun a ha=>mem_append_right _ ha) E.ndO fun a ha=>A.new a (mem_append_right _ ha)
 | er c Γ'=>rw [e] at h;exact h
 | no=>rw [e] at h;exact h
theorem GCall.or {r r':List V->Hp->VK->Prop} {g g':List D->Option D} (h:GCall K r g) (h':GCall K r' g'):GCall K (fun xs H Q=>r xs H Q\/r' xs H Q) (fun ds=>(g ds).or (g' ds)):=by
 intro vs H Q ds d rs e k
 have e:(g ds).or (g' ds)=some d:=e
 cases e1:g ds with
 | some z=>rw [e1] at e;cases e;exact .inl (h vs H Q ds _ rs e1 k)
 | none=>rw [e1] at e;exact .inr (h' vs H Q ds d rs (by simpa using e) k)
theorem Reps.one {vs:List V} {d:D} (h:Reps K H vs [d]):∃v,vs=[v]/\Rep K H v d:=by
 obtain ⟨hl,h⟩:=h
 match vs,hl with
 | [v],_=>exact ⟨v,rfl,h 0 v d rfl rfl⟩
theorem Reps.two {vs:List V} {d e:D} (h:Reps K H vs [d,e]):∃v u,vs=[v,u]/\Rep K H v d/\Rep K H u e:=by
 obtain ⟨hl,h⟩:=h
 match vs,hl with
 | [v,u],_=>exact ⟨v,u,rfl,h 0 v d rfl rfl,h 1 u e rfl rfl⟩
end
def gLenQ:List D->Option D
 | [.list xs]=>some (.int xs.length)
 | [.tuple xs]=>some (.int xs.length)
 | _=>none
def gLenS:List D->Option D
 | [.str x]=>if x.length<=sizeLine then some (.int x.length) else none
 | _=>none
abbrev gLen:List D->Option D:=fun ds=>(gLenQ ds).or (gLenS ds)
theorem gc_len {K:Fg}:GCall K (fun xs H Q=>(∃p ys,xs=[.ref p]/\(SqL K H p ys\/SqT K H p ys)/\Q (.int ys.length) H)\/∃z,xs=[.str z]/\z.length<=sizeLine/\Q (.int z.length) H) gLen:=by
 refine GCall.or (g:=gLenQ) (g':=gLenS) (r:=fun xs H Q=>∃p ys,xs=[.ref p]/\(SqL K H p ys\/SqT K H p ys)/\Q (.int ys.length) H) (r':=fun xs H Q=>∃z,xs=[.str z]/\z.length<=sizeLine/\Q (.int z.length) H) ?_ ?_
 ·intro vs H Q ds d rs e k
  match ds,e with
  | [.list xs],e=>
   obtain ⟨v,rfl,r⟩:=rs.one
   cases e
   cases r with
   | @lst p us _ hq hl _=>exact ⟨p,us,rfl,.inl hq,by rw [hl];exact k _ (.int _)⟩
  | [.tuple xs],e=>
   obtain ⟨v,rfl,r⟩:=rs.one
   cases e
   cases r with
   | @tup p us _ hq hl _=>exact ⟨p,us,rfl,.inr hq,by rw [hl];exact k _ (.int _)⟩
 ·intro vs H Q ds d rs e k
  match ds,e with
  | [.str x],e=>
   obtain ⟨v,rfl,r⟩:=rs.one
   simp only [gLenS] at e
   split at e
   ·rename_i z
    cases e
    cases r
    exact ⟨x,rfl,z,k _ (.int _)⟩
   ·cases e
def gInt:List D->Option D
 | [.int i]=>some (.int i)
 | [.bool b]=>some (.int (if b then 1 else 0))
 | _=>none
theorem gc_int {K:Fg}:GCall K (fun xs H Q=>(∃i,xs=[.int i]/\Q (.int i) H)\/∃k,xs=[.bl k]/\Q (.int (if k then 1 else 0)) H) gInt:=by
 intro vs H Q ds d rs e k
 match ds,e with
 | [.int i],e=>
  obtain ⟨v,rfl,r⟩:=rs.one
  cases e;cases r
  exact .inl ⟨i,rfl,k _ (.int _)⟩
 | [.bool b],e=>
  obtain ⟨v,rfl,r⟩:=rs.one
  cases e;cases r
  exact .inr ⟨b,rfl,k _ (.int _)⟩
def gMax:List D->Option D
 | [.int i,.int j]=>some (.int (if j>i then j else i))
 | _=>none
def zD5:List D->Option (List Bool)
 | []=>some []
 | .bool b::r=>(zD5 r).map (b :: ·)
 | _=>none
theorem boolsOf_eq:∀{ds:List D} {bs:List Bool},zD5 ds=some bs->ds=bs.map PyData.bool
 | [],bs,h=>by cases h;rfl
 | .bool b::r,bs,h=>by
  simp only [zD5] at h
  cases e:zD5 r with
  | none=>rw [e] at h;cases h
  | some cs=>rw [e] at h;cases h;rw [boolsOf_eq e];rfl
 | .none::_,_,h=>by cases h
 | .int _::_,_,h=>by cases h
 | .str _::_,_,h=>by cases h
 | .list _::_,_,h=>by cases h
 | .tuple _::_,_,h=>by cases h
 | .dict _::_,_,h=>by cases h
def gAll (any:Bool):List D->Option D
 | [.list xs]=>(zD5 xs).map fun bs=>.bool (if any then bs.any id else bs.all id)
 | _=>none
theorem reps_bools {K:Fg} {H:Hp}:∀{vs:List V} {bs:List Bool},Reps K H vs (bs.map PyData.bool)->vs=bs.map V.bl
 | [],[],_=>rfl
 | v::vs,b::bs,⟨hl,h⟩=>by
  have r:=h 0 v (.bool b) rfl rfl
  cases r
  rw [reps_bools (bs:=bs) (vs:=vs) ⟨by simpa using hl,fun i v d h1 h2=>h (i+1) v d (by simpa using h1) (by simpa using h2)⟩]
  rfl
 | [],_::_,⟨hl,_⟩=>by simp at hl
 | _::_,[],⟨hl,_⟩=>by simp at hl
def rAll (K:Fg) (any:Bool):List V->Hp->VK->Prop:=fun xs H Q=>∃(p:Addr) (bs:List Bool),xs=[.ref p]/\SqL K H p (bs.map V.bl)/\Q (.bl (if any then bs.any id else bs.all id)) H
theorem gc_all {K:Fg} {any:Bool}:GCall K (rAll K any) (gAll any):=by
 intro vs H Q ds d rs e k
 match ds,e with
 | [.list xs],e=>
  obtain ⟨v,rfl,r⟩:=rs.one
  simp only [gAll] at e
  cases eb:zD5 xs with
  | none=>rw [eb] at e;cases e
  | some bs=>
   rw [eb] at e
   cases e
   have:=boolsOf_eq eb
   subst this
   cases r with
   | @lst p us _ hq hl hr=>
    have:=reps_bools ⟨hl,hr⟩
    subst this
    exact ⟨p,bs,rfl,hq,k _ (.bl _)⟩
section
variable {X:Cx}
theorem bools_its {bs:List Bool}:∀{its:List Value},Vals (bs.map V.bl) its->its=bs.map Value.bool:=by
 induction bs with
 | nil=>intro its h;cases h;rfl
 | cons b bs ih=>
  intro its h
  cases h with
  | cons r t=>
   cases (show _=Value.bool b from r)
   rw [ih t];rfl
theorem range_all (bs:List Bool):(List.range bs.length).all (fun i=>bs.getD i false)=bs.all id:=by
 rw [Bool.eq_iff_iff,all_eq_true,all_eq_true]
 constructor
 ·intro h b hb
  obtain ⟨i,hi,e⟩:=List.mem_iff_getElem.mp hb
  have:=h i (List.mem_range.mpr hi)
  rw [getD_eq_getElem?_getD,getElem?_eq_getElem hi] at this
  rw [<-e];simpa using this
 ·intro h i hi
  have hi:=List.mem_range.mp hi
  rw [getD_eq_getElem?_getD,getElem?_eq_getElem hi]
  exact h _ (getElem_mem hi)
theorem range_any (bs:List Bool):(List.range bs.length).any (fun i=>bs.getD i false)=bs.any id:=by
 rw [Bool.eq_iff_iff,any_eq_true,any_eq_true]
 constructor
 ·rintro ⟨i,hi,h⟩
  have hi:=List.mem_range.mp hi
  rw [getD_eq_getElem?_getD,getElem?_eq_getElem hi] at h
  exact ⟨_,getElem_mem hi,h⟩
 ·rintro ⟨b,hb,h⟩
  obtain ⟨i,hi,e⟩:=List.mem_iff_getElem.mp hb
  refine ⟨i,List.mem_range.mpr hi,?_⟩
  rw [getD_eq_getElem?_getD,getElem?_eq_getElem hi,e]
  exact h
theorem truth_bools {prog:Program} {w:World} {A:Around} {bs:List Bool}:TruthOf prog w A (fun i v=>(bs.map Value.bool).toArray[i]?=some v) (fun i=>bs.getD i false):=by
 intro i v s Q E hP hQ
 simp only [getElem?_toArray,getElem?_map] at hP
 cases e:bs[i]? with
 | none=>rw [e] at hP;cases hP
 | some b=>
  rw [e] at hP
  cases hP
  have hQ:Q (bs.getD i false) s:=hQ
  rw [getD_eq_getElem?_getD,e] at hQ
  exact wpAny_truthy_bool hQ
theorem call_allD (hc:X.calm=true):CallR X (.builtin "all") (rAll X.K false):=by
 intro pins s σ H vs us Q I rv h
 obtain ⟨p,bs,rfl,hq,q⟩:=h
 obtain ⟨u,rfl,ru⟩:=vals1 rv
 cases ru
 obtain ⟨its,rv,pl,hz⟩:=I.list hq
 have:=bools_its rv
 subst this
 have hd:=I.ok.hd hc
 refine call_all_walk (wpAny_pyIter_list pl.isList ?_)
 have ne:p≠s.heap.objs.size:=by
  obtain ⟨o,n,e,_⟩:=pl
  exact Nat.ne_of_lt (Heap.lt_size e)
 refine ⟨s.heap.objs.size,_,_,_,_,_,fun i=>bs.getD i false,rfl,Walks.list (prog:=X.prog) (w:=X.w) (A:=X.A.in1) hd s.heap.objs.size p ne (bs.map Value.bool).toArray,⟨⟨_,Heap.get?_push_size _ rfl,rfl,rfl⟩,pl.isList.at fun o e=>Heap.get?_push_of_some _ e⟩,truth_bools,fun h' tk hk=>?_⟩
 refine ⟨.bl _,H,I.kept (h':=h') (t':=tk) fun b o e=>hk b o (fun z=>?_) (Heap.get?_push_of_some _ e),rfl,?_⟩
 ·have z:b=s.heap.objs.size:=by simpa using z
  exact absurd (Heap.lt_size e) (by rw [z];exact Nat.lt_irrefl _)
 ·rw [size_toArray,length_map,range_all]
  exact q
theorem call_anyD (hc:X.calm=true):CallR X (.builtin "any") (rAll X.K true):=by
 intro pins s σ H vs us Q I rv h
 obtain ⟨p,bs,rfl,hq,q⟩:=h
 obtain ⟨u,rfl,ru⟩:=vals1 rv
 cases ru
 obtain ⟨its,rv,pl,hz⟩:=I.list hq
 have:=bools_its rv
 subst this
 have hd:=I.ok.hd hc
 refine call_any_walk (wpAny_pyIter_list pl.isList ?_)
 have ne:p≠s.heap.objs.size:=by
  obtain ⟨o,n,e,_⟩:=pl
  exact Nat.ne_of_lt (Heap.lt_size e)
 refine ⟨s.heap.objs.size,_,_,_,_,_,fun i=>bs.getD i false,rfl,Walks.list (prog:=X.prog) (w:=X.w) (A:=X.A.in1) hd s.heap.objs.size p ne (bs.map Value.bool).toArray,⟨⟨_,Heap.get?_push_size _ rfl,rfl,rfl⟩,pl.isList.at fun o e=>Heap.get?_push_of_some _ e⟩,truth_bools,fun h' tk hk=>?_⟩
 refine ⟨.bl _,H,I.kept (h':=h') (t':=tk) fun b o e=>hk b o (fun z=>?_) (Heap.get?_push_of_some _ e),rfl,?_⟩
 ·have z:b=s.heap.objs.size:=by simpa using z
  exact absurd (Heap.lt_size e) (by rw [z];exact Nat.lt_irrefl _)
 ·rw [size_toArray,length_map,range_any]
  exact q
end
def zC5 (s:Sh) (j:Nat) (d:D):Option Sh:=match s with
 | .leaf=>some .leaf
 | .view=>some (if scalD d then .leaf else .view)
 | .lst s=>some s
 | .tup ss=>ss[j]?
def eIdx (fa fb:F1):F1:=eBind fa fun p=>eBind fb fun q=>fun Γ=>match q.d with
 | .int i=>(match p.d with
  | .list ds=>(match ixN ds.length i with
   | some j=>(match ds[j]? with
    | some d=>(match zC5 p.s j d with
     | some s=>.ok ⟨s,d⟩ Γ
     | none=>.no)
    | none=>.no)
   | none=>.no)
  | .tuple ds=>(match ixN ds.length i with
   | some j=>(match ds[j]? with
    | some d=>(match zC5 p.s j d with
     | some s=>.ok ⟨s,d⟩ Γ
     | none=>.no)
    | none=>.no)
   | none=>.no)
  | .str z=>if z.length<=sizeLine then (match atI z.cps.toList i with
   | some c=>.ok ⟨.leaf,.str ⟨#[c]⟩⟩ Γ
   | none=>.no) else .no
  | _=>.no)
 | _=>.no
theorem Own.item {K:Fg} {O:List Addr} {H:Hp} {s s':Sh} {G:List Addr} {p:Addr} {ds:List D} {j:Nat} {d:D} (h:Own K O H s G (.ref p) (.list ds)) (hd:ds[j]?=some d) (hs:zC5 s j d=some s') :
  ∃vs v G',SqL K H p vs/\vs.length=ds.length/\vs[j]?=some v/\(∀a∈G',a∈G)/\G'.Nodup/\Own K O H s' G' v d:=by
 have hi:=(List.getElem?_eq_some_iff.mp hd).1
 cases h with
 | view r=>
  cases r with
  | @lst _ vs _ hq hl hr=>
   have hv:vs[j]?=some (vs[j]'(by omega)):=getElem?_eq_getElem _
   have r':=hr j _ d hv hd
   simp only [zC5,Option.some.injEq] at hs
   cases e:scalD d with
   | true=>
    rw [e] at hs
    cases hs
    exact ⟨vs,_,[],hq,hl,hv,(fun _ z=>nomatch z),nodup_nil,.leaf (r'.sc e).rep⟩
   | false=>
    rw [e] at hs
    cases hs
    exact ⟨vs,_,[],hq,hl,hv,(fun _ z=>nomatch z),nodup_nil,.view r'⟩
 | leaf r=>
  cases r with
  | @lst _ vs _ hq hl hr=>
   have hv:vs[j]?=some (vs[j]'(by omega)):=getElem?_eq_getElem _
   cases hs
   exact ⟨vs,_,[],hid_le.seq hq,hl,hv,(fun _ z=>nomatch z),nodup_nil,.leaf (hr j _ d hv hd)⟩
 | @lst s₀ _ vs _ Fs hv hp hl hf nd hr=>
  have hv':vs[j]?=some (vs[j]'(by omega)):=getElem?_eq_getElem _
  have hF:Fs[j]?=some (Fs[j]'(by omega)):=getElem?_eq_getElem _
  cases hs
  refine ⟨vs,_,_,.of hp,hl,hv',fun a ha=>mem_cons_of_mem _ (zBA hF ha),?_,hr j _ d _ hv' hd hF⟩
  exact ((List.nodup_cons.mp nd).2).sublist (List.sublist_flatten_of_mem (mem_of_getElem? hF))
theorem Own.itemT {K:Fg} {O:List Addr} {H:Hp} {s s':Sh} {G:List Addr} {p:Addr} {ds:List D} {j:Nat} {d:D} (h:Own K O H s G (.ref p) (.tuple ds)) (hd:ds[j]?=some d) (hs:zC5 s j d=some s') :
  ∃vs v G',SqT K H p vs/\vs.length=ds.length/\vs[j]?=some v/\(∀a∈G',a∈G)/\G'.Nodup/\Own K O H s' G' v d:=by
 have hi:=(List.getElem?_eq_some_iff.mp hd).1
 cases h with
 | view r=>
  cases r with
  | @tup _ vs _ hq hl hr=>
   have hv:vs[j]?=some (vs[j]'(by omega)):=getElem?_eq_getElem _
   have r':=hr j _ d hv hd
   simp only [zC5,Option.some.injEq] at hs
   cases e:scalD d with
   | true=>
    rw [e] at hs
    cases hs
    exact ⟨vs,_,[],hq,hl,hv,(fun _ z=>nomatch z),nodup_nil,.leaf (r'.sc e).rep⟩
   | false=>
    rw [e] at hs
    cases hs
    exact ⟨vs,_,[],hq,hl,hv,(fun _ z=>nomatch z),nodup_nil,.view r'⟩
 | leaf r=>
  cases r with
  | @tup _ vs _ hq hl hr=>
   have hv:vs[j]?=some (vs[j]'(by omega)):=getElem?_eq_getElem _
   cases hs
   exact ⟨vs,_,[],SameT hid_le hq,hl,hv,(fun _ z=>nomatch z),nodup_nil,.leaf (hr j _ d hv hd)⟩
 | @tup ss _ vs _ Fs hv hp hn hl hf hl2 nd hr=>
  have hv':vs[j]?=some (vs[j]'(by omega)):=getElem?_eq_getElem _
  have hF:Fs[j]?=some (Fs[j]'(by omega)):=getElem?_eq_getElem _
  have hs:ss[j]?=some s':=hs
  refine ⟨vs,_,_,.of hp,hl,hv',fun a ha=>zBA hF ha,?_,hr j _ d _ _ hv' hd hF hs⟩
  exact nd.sublist (List.sublist_flatten_of_mem (mem_of_getElem? hF))
theorem Wants.part {K:Fg} {W:XW} {σ:St} {He H H2:Hp} {O G G':List Addr} {Fs Fs2:List (List Addr)} {Γ':Ev} {Q:VK} {s:Sh} {v:V} {d:D} (h:Wants K W He O Fs H σ Q (.ok ⟨s,d⟩ Γ')) (e:Same H H2)
  (E:EnvOk K He (G++O) Fs2 H2 σ Γ') (sub:∀a∈G',a∈G) (nd:G'.Nodup) (new:∀a∈G++Fs2.flatten,a∈Fs.flatten\/H a=none) (o:Own K (G++O++Fs2.flatten) H2 s G' v d):Q v H2:=by
 have sub2:∀a∈G'++O,a∈G++O:=fun a ha=>by
  rcases List.mem_append.mp ha with z | z
  ·exact mem_append_left _ (sub a z)
  ·exact mem_append_right _ z
 obtain ⟨n1,n2,n3⟩:=List.nodup_append.mp E.ndO
 refine h v H2 G' Fs2 ⟨e,E.drop sub2 (List.nodup_append.mpr ⟨nd,n2,fun a ha b hb=>n3 a (sub a ha) b hb⟩),fun a ha=>new a ?_,o.perm fun a ha=>?_⟩
 ·rcases List.mem_append.mp ha with z | z
  ·exact mem_append_left _ (sub a z)
  ·exact mem_append_right _ z
 ·rcases List.mem_append.mp ha with z | z
  ·exact mem_append_left _ (sub2 a z)
  ·exact mem_append_right _ z
theorem atI_of {α β:Type} {xs:List α} {ys:List β} {i:Int} {j:Nat} {v:α} (hl:xs.length=ys.length) (h:ixN ys.length i=some j) (hv:xs[j]?=some v):atI xs i=some v:=by
 unfold atI
 rw [hl,h]
 exact hv
section
variable {K:Fg} {W:XW} {σ:St} {H:Hp} {Q:VK} {fa fb:F1}
theorem rd_idx (h:tE K W (eIdx fa fb) σ H Q):tOp (rIx K) (tE K W fa) (tE K W fb) σ H Q:=by
 refine zJI h ?_
 intro He O Fs Γ2 p q v u H1 H2 G1 G2 Fs2 nd s1 s2 E new o1 o2 w
 obtain ⟨ps,pd⟩:=p
 obtain ⟨qs,qd⟩:=q
 have ri:=o2.rep
 cases qd<;>try exact w.elim
 rename_i i
 cases ri
 have E':EnvOk K He ((G2++G1)++O) Fs2 H2 σ Γ2:=by rw [append_assoc];exact E
 have new':∀a∈(G2++G1)++Fs2.flatten,a∈Fs.flatten\/H a=none:=fun a ha=>new a (by rw [<-append_assoc];exact ha)
 have o1':Own K ((G2++G1)++O++Fs2.flatten) H2 ps G1 v pd:=o1.perm fun a ha=>by rw [append_assoc G2] at ha;exact ha
 have rp:=o1.rep
 cases pd with
 | list ds=>
  obtain ⟨p0,rfl⟩:∃p0,v=.ref p0:=by cases rp;exact ⟨_,rfl⟩
  have w:Wants K W He O Fs H σ Q (match ixN ds.length i with | some j=>(match ds[j]? with | some d=>(match zC5 ps j d with | some s=>.ok ⟨s,d⟩ Γ2 | none=>.no) | none=>.no) | none=>.no):=w
  cases e1:ixN ds.length i with
  | none=>rw [e1] at w;exact w.elim
  | some j=>
   rw [e1] at w
   have w:Wants K W He O Fs H σ Q (match ds[j]? with | some d=>(match zC5 ps j d with | some s=>.ok ⟨s,d⟩ Γ2 | none=>.no) | none=>.no):=w
   cases e2:ds[j]? with
   | none=>rw [e2] at w;exact w.elim
   | some d=>
    rw [e2] at w
    have w:Wants K W He O Fs H σ Q (match zC5 ps j d with | some s=>.ok ⟨s,d⟩ Γ2 | none=>.no):=w
    cases e3:zC5 ps j d with
    | none=>rw [e3] at w;exact w.elim
    | some s=>
     rw [e3] at w
     obtain ⟨vs,v',G',h1,h2,h3,h4,h5,h6⟩:=o1'.item e2 e3
     exact .inl ⟨p0,vs,i,v',rfl,rfl,h1,atI_of h2 e1 h3,Wants.part w (s1.trans s2) E' (fun a ha=>mem_append_right _ (h4 a ha)) h5 new' h6⟩
 | tuple ds=>
  obtain ⟨p0,rfl⟩:∃p0,v=.ref p0:=by cases rp;exact ⟨_,rfl⟩
  have w:Wants K W He O Fs H σ Q (match ixN ds.length i with | some j=>(match ds[j]? with | some d=>(match zC5 ps j d with | some s=>.ok ⟨s,d⟩ Γ2 | none=>.no) | none=>.no) | none=>.no):=w
  cases e1:ixN ds.length i with
  | none=>rw [e1] at w;exact w.elim
  | some j=>
   rw [e1] at w
   have w:Wants K W He O Fs H σ Q (match ds[j]? with | some d=>(match zC5 ps j d with | some s=>.ok ⟨s,d⟩ Γ2 | none=>.no) | none=>.no):=w
   cases e2:ds[j]? with
   | none=>rw [e2] at w;exact w.elim
   | some d=>
    rw [e2] at w
    have w:Wants K W He O Fs H σ Q (match zC5 ps j d with | some s=>.ok ⟨s,d⟩ Γ2 | none=>.no):=w
    cases e3:zC5 ps j d with
    | none=>rw [e3] at w;exact w.elim
    | some s=>
     rw [e3] at w
     obtain ⟨vs,v',G',h1,h2,h3,h4,h5,h6⟩:=o1'.itemT e2 e3
     exact .inr (.inl ⟨p0,vs,i,v',rfl,rfl,h1,atI_of h2 e1 h3,Wants.part w (s1.trans s2) E' (fun a ha=>mem_append_right _ (h4 a ha)) h5 new' h6⟩)
 | str z=>
  cases rp
  have w:Wants K W He O Fs H σ Q (if z.length<=sizeLine then (match atI z.cps.toList i with | some c=>.ok ⟨.leaf,.str ⟨#[c]⟩⟩ Γ2 | none=>.no) else .no):=w
  by_cases hz:z.length<=sizeLine
  ·rw [if_pos hz] at w
   cases e1:atI z.cps.toList i with
   | none=>rw [e1] at w;exact w.elim
   | some c=>
    rw [e1] at w
    exact .inr (.inr ⟨z,i,c,rfl,rfl,hz,e1,Wants.scal w (.str _) (s1.trans s2) E (fun a ha=>mem_append_right _ (mem_append_right _ ha)) nd fun a ha=>new a (mem_append_right _ (mem_append_right _ ha))⟩)
  ·rw [if_neg hz] at w
   exact w.elim
 | none=>exact w.elim
 | bool b=>exact w.elim
 | int k=>exact w.elim
 | dict k=>exact w.elim
end
theorem keep_sub (s:Sh):∀Gs:List (List Addr),((Gs.map (keepG s)).flatten).Sublist Gs.flatten
 | []=>List.Sublist.refl _
 | G::Gs=>by
  simp only [map_cons,flatten_cons]
  refine List.Sublist.append ?_ (keep_sub s Gs)
  unfold keepG
  split
  ·exact List.nil_sublist _
  ·exact List.Sublist.refl _
theorem keep_leaf:∀Gs:List (List Addr),(Gs.map (keepG .leaf)).flatten=[]
 | []=>rfl
 | _::Gs=>by simp only [map_cons,flatten_cons,keep_leaf Gs];rfl
section
variable {K:Fg} {W:XW} {σ:St} {He H H':Hp} {O:List Addr} {Fs Fs' Gs:List (List Addr)} {Γ':Ev} {ps:List PV} {vs:List V} {Q:VK}
theorem AftL.newList {s:Sh} {p:Addr} (A:AftL K He O Fs H σ Γ' ps vs H' Gs Fs') (hs:s.isView=false) (hc:ps.all (T.coer s)=true) (hp:H' p=none) :
  Aft K He O Fs H σ Γ' ⟨.lst s,.list (ps.map (·.d))⟩ (.ref p) (upd H' p (.lst vs)) (p::(Gs.map (keepG s)).flatten) Fs':=by
 obtain ⟨n1,n2,n3⟩:=List.nodup_append.mp A.env.ndO
 obtain ⟨m1,m2,m3⟩:=List.nodup_append.mp A.env.nd
 have hsub:=keep_sub s Gs
 have E1:EnvOk K He ((Gs.map (keepG s)).flatten++O) Fs' H' σ Γ':=A.env.drop (fun a ha=>by
   rcases List.mem_append.mp ha with z | z
   ·exact mem_append_left _ (hsub.subset z)
   ·exact mem_append_right _ z) (List.nodup_append.mpr ⟨n1.sublist hsub,n2,fun a ha b hb=>n3 a (hsub.subset ha) b hb⟩)
 have E2:=E1.hide (G:=[p]) (zA4 (o:=.lst vs) hp) (by simp) (fun a ha=>by simp at ha;rw [ha];exact hp) (fun a ha=>by simp at ha;rw [ha,zAU];exact Option.some_ne_none _)
 have pn:∀{a},a∈Gs.flatten++O++Fs'.flatten->a≠p:=fun {a} ha z=>A.env.inH a ha (by rw [z];exact hp)
 refine ⟨A.same.trans (zA4 hp),E2,fun a ha=>?_,?_⟩
 ·rcases List.mem_append.mp ha with z | z
  ·rcases List.mem_cons.mp z with z | z
   ·rw [z];exact .inr (A.same.free hp)
   ·exact A.new a (mem_append_left _ (hsub.subset z))
  ·exact A.new a (mem_append_right _ z)
 ·refine .lst hs zAU (by rw [length_map];exact A.len1) (by rw [length_map,length_map];exact A.len2) ?_ fun i v d F h1 h2 h3=>?_
  ·refine List.nodup_cons.mpr ⟨fun z=>pn (mem_append_left _ (mem_append_left _ (hsub.subset z))) rfl,n1.sublist hsub⟩
  ·rw [getElem?_map] at h2 h3
   cases e2:ps[i]? with
   | none=>rw [e2] at h2;cases h2
   | some q=>
    cases e3:Gs[i]? with
    | none=>rw [e3] at h3;cases h3
    | some G=>
     rw [e2] at h2
     rw [e3] at h3
     cases h2
     cases h3
     have cq:T.coer s q=true:=List.all_eq_true.mp hc q (mem_of_getElem? e2)
     have o1:=(A.own i v q G h1 e2 e3).mono (O':=p::(Gs.flatten++O++Fs'.flatten)) (zA4 (o:=.lst vs) hp) fun a ha=>by
      rcases List.mem_cons.mp ha with z | z
      ·rw [z];exact .inr hp
      ·exact .inl z
     refine o1.coer cq (fun a ha=>?_) fun a ha hO=>?_
     ·rw [append_assoc] at ha
      rcases List.mem_append.mp ha with z | z
      ·rcases List.mem_cons.mp z with z | z
       ·rw [z];exact mem_cons_self
       ·exact mem_cons_of_mem _ (mem_append_left _ (mem_append_left _ (hsub.subset z)))
      ·rcases List.mem_append.mp z with z | z
       ·exact mem_cons_of_mem _ (mem_append_left _ (mem_append_right _ z))
       ·exact mem_cons_of_mem _ (mem_append_right _ z)
     ·have hG:a∈Gs.flatten:=zBA e3 ha
      cases s with
      | leaf=>
       rw [keep_leaf] at hO
       exfalso
       rw [append_assoc] at hO
       rcases List.mem_append.mp hO with z | z
       ·have z:a=p:=by simpa using z
        exact pn (mem_append_left _ (mem_append_left _ hG)) z
       ·rcases List.mem_append.mp z with z | z
        ·exact n3 a hG a z rfl
        ·exact m3 a (mem_append_left _ hG) a z rfl
      | view=>cases hs
      | lst s=>exact ha
      | tup ss=>exact ha
def eList (s:Sh) (fl:FL):F1:=fun Γ=>(fl Γ).bind fun ps Γ'=>if !s.isView&&ps.all (T.coer s)&&decide (ps.length<=sizeLine) then .ok ⟨.lst s,.list (ps.map (·.d))⟩ Γ' else .no
theorem rd_list {s:Sh} {fl:FL} (h:tE K W (eList s fl) σ H Q):tLst (tA K W fl) σ H Q:=by
 obtain ⟨He,O,Fs,Γ,E,h⟩:=h
 refine ⟨He,O,Fs,Γ,E,?_⟩
 unfold eList at h
 cases e:fl Γ with
 | ok ps Γ'=>
  rw [e] at h
  intro vs H' Gs Fs' A
  have h:Wants K W He O Fs H σ Q (if (!s.isView&&ps.all (T.coer s)&&decide (ps.length<=sizeLine))=true then .ok ⟨.lst s,.list (ps.map (·.d))⟩ Γ' else .no):=h
  by_cases hc:(!s.isView&&ps.all (T.coer s)&&decide (ps.length<=sizeLine))=true
  ·rw [if_pos hc] at h
   simp only [Bool.and_eq_true,decide_eq_true_eq,Bool.not_eq_true'] at hc
   exact ⟨by rw [A.len1];exact hc.2,fun p hp=>h _ _ _ _ (A.newList hc.1.1 hc.1.2 hp)⟩
  ·rw [if_neg hc] at h
   exact h.elim
 | er c Γ'=>rw [e] at h;exact h
 | no=>rw [e] at h;exact h
def tsh (p:PV):Sh:=if p.s.isView then .leaf else p.s
def tok (p:PV):Bool:=!p.s.isView||scalD p.d
theorem AftL.newTup {p:Addr} (A:AftL K He O Fs H σ Γ' ps vs H' Gs Fs') (hc:ps.all tok=true) (hp:H' p=none) :
  Aft K He O Fs H σ Γ' ⟨.tup (ps.map tsh),.tuple (ps.map (·.d))⟩ (.ref p) (upd H' p (.tup vs)) Gs.flatten Fs':=by
 obtain ⟨n1,n2,n3⟩:=List.nodup_append.mp A.env.ndO
 have pn:p∉Gs.flatten++O++Fs'.flatten:=fun ha=>A.env.inH p ha hp
 refine ⟨A.same.trans (zA4 hp),A.env.grow (zA4 hp),A.new,?_⟩
 refine .tup (fun s hs=>?_) zAU pn (by rw [length_map];exact A.len1) (by rw [length_map];exact A.len2) (by rw [length_map,length_map]) n1 fun i v d F s h1 h2 h3 h4=>?_
 ·obtain ⟨q,_,rfl⟩:=List.mem_map.mp hs
  unfold tsh
  split
  ·rfl
  ·rename_i z;simpa using z
 ·rw [getElem?_map] at h2 h4
  cases e2:ps[i]? with
  | none=>rw [e2] at h2;cases h2
  | some q=>
   rw [e2] at h2 h4
   cases h2
   cases h4
   have cq:tok q=true:=List.all_eq_true.mp hc q (mem_of_getElem? e2)
   have o1:=(A.own i v q F h1 e2 h3).mono (O':=Gs.flatten++O++Fs'.flatten) (zA4 (o:=.tup vs) hp) fun a ha=>.inl ha
   unfold tsh
   cases hv:q.s.isView with
   | false=>exact o1
   | true=>
    unfold tok at cq
    rw [hv] at cq
    obtain ⟨s,d⟩:=q
    cases s with
    | view=>
     cases o1 with
     | view r=>exact .leaf (r.sc (by simpa using cq)).rep
    | _=>cases hv
def eTup (fl:FL):F1:=fun Γ=>(fl Γ).bind fun ps Γ'=>if ps.all tok&&decide (ps.length<=sizeLine) then .ok ⟨.tup (ps.map tsh),.tuple (ps.map (·.d))⟩ Γ' else .no
theorem rd_tup {fl:FL} (h:tE K W (eTup fl) σ H Q):tTup (tA K W fl) σ H Q:=by
 obtain ⟨He,O,Fs,Γ,E,h⟩:=h
 refine ⟨He,O,Fs,Γ,E,?_⟩
 unfold eTup at h
 cases e:fl Γ with
 | ok ps Γ'=>
  rw [e] at h
  intro vs H' Gs Fs' A
  have h:Wants K W He O Fs H σ Q (if (ps.all tok&&decide (ps.length<=sizeLine))=true then .ok ⟨.tup (ps.map tsh),.tuple (ps.map (·.d))⟩ Γ' else .no):=h
  by_cases hc:(ps.all tok&&decide (ps.length<=sizeLine))=true
  ·rw [if_pos hc] at h
   simp only [Bool.and_eq_true,decide_eq_true_eq] at hc
   exact ⟨by rw [A.len1];exact hc.2,fun p hp=>h _ _ _ _ (A.newTup hc.1 hp)⟩
  ·rw [if_neg hc] at h
   exact h.elim
 | er c Γ'=>rw [e] at h;exact h
 | no=>rw [e] at h;exact h
end
def zAP (p:PV) (ds:List D):Bool:=!p.s.isView||ds.all scalD
theorem Own.items {K:Fg} {O O':List Addr} {H:Hp} {s:Sh} {G:List Addr} {v:V} {ds:List D} (h:Own K O H s G v (.list ds)) (hc:zAP ⟨s,.list ds⟩ ds=true) (h1:∀a∈O',a∈O) (h2:∀a∈G,a∉O') :
  ∃p vs,v=.ref p/\SqL K H p vs/\(s.isView=false->SqL K (hid H O') p vs)/\Reps K (hid H O') vs ds:=by
 have hr:=h.rep
 cases hv:s.isView with
 | false=>
  have r:=h.freeze hv h1 h2
  cases r with
  | @lst p vs _ hq hl hr=>exact ⟨p,vs,rfl,hid_le.seq hq,fun _=>hq,hl,hr⟩
 | true=>
  unfold zAP at hc
  have hc:ds.all scalD=true:=by simpa [hv] using hc
  cases hr with
  | @lst p vs _ hq hl hr=>exact ⟨p,vs,rfl,hq,nofun,hl,fun i v d e1 e2=>((hr i v d e1 e2).sc (List.all_eq_true.mp hc d (mem_of_getElem? e2))).rep⟩
theorem Own.itemsT {K:Fg} {O O':List Addr} {H:Hp} {s:Sh} {G:List Addr} {v:V} {ds:List D} (h:Own K O H s G v (.tuple ds)) (hc:zAP ⟨s,.tuple ds⟩ ds=true) (h1:∀a∈O',a∈O) (h2:∀a∈G,a∉O') :
  ∃p vs,v=.ref p/\SqT K H p vs/\(s.isView=false->SqT K (hid H O') p vs)/\Reps K (hid H O') vs ds:=by
 have hr:=h.rep
 cases hv:s.isView with
 | false=>
  have r:=h.freeze hv h1 h2
  cases r with
  | @tup p vs _ hq hl hr=>exact ⟨p,vs,rfl,SameT hid_le hq,fun _=>hq,hl,hr⟩
 | true=>
  unfold zAP at hc
  have hc:ds.all scalD=true:=by simpa [hv] using hc
  cases hr with
  | @tup p vs _ hq hl hr=>exact ⟨p,vs,rfl,hq,nofun,hl,fun i v d e1 e2=>((hr i v d e1 e2).sc (List.all_eq_true.mp hc d (mem_of_getElem? e2))).rep⟩
theorem zHS {K:Fg} {σ:St} {He H H1:Hp} {O:List Addr} {Fs Fs1:List (List Addr)} {Γ1:Ev} {vs:List V} {ds:List D} {p:Addr} (E:EnvOk K He O Fs1 H1 σ Γ1) (s:Same H H1) (n:∀a∈Fs1.flatten,a∈Fs.flatten\/H a=none)
  (hr:Reps K (hid H1 (O++Fs1.flatten)) vs ds) (hp:H1 p=none):Aft K He O Fs H σ Γ1 ⟨.lst .leaf,.list ds⟩ (.ref p) (upd H1 p (.lst vs)) [p] Fs1:=by
 have E2:=E.hide (G:=[p]) (zA4 (o:=.lst vs) hp) (by simp) (fun a ha=>by simp at ha;rw [ha];exact hp) (fun a ha=>by simp at ha;rw [ha,zAU];exact Option.some_ne_none _)
 refine ⟨s.trans (zA4 hp),E2,fun a ha=>?_,?_⟩
 ·rcases List.mem_append.mp ha with z | z
  ·have z:a=p:=by simpa using z
   rw [z];exact .inr (s.free hp)
  ·exact n a z
 ·have fl:(List.replicate ds.length ([]:List Addr)).flatten=[]:=by simp
  have:[p]=p::(List.replicate ds.length ([]:List Addr)).flatten:=by rw [fl]
  rw [this]
  refine .lst rfl zAU hr.1 (by simp) (by rw [fl];simp) fun i v d F h1 h2 h3=>?_
  rw [getElem?_replicate] at h3
  split at h3
  ·cases h3
   refine .leaf ((hr.2 i v d h1 h2).mono (zB2 (zA4 hp) fun a ha=>?_))
   rw [fl] at ha
   rcases List.mem_append.mp ha with z | z
   ·rcases List.mem_append.mp z with z | z
    ·have z:a=p:=by simpa using z
     rw [z];exact .inr hp
    ·exact .inl (mem_append_left _ z)
   ·exact .inl (mem_append_right _ z)
  ·cases h3
def zCO (fa:F1):F1:=eBind fa fun p Γ=>match p.d with
 | .list ds=>if zAP p ds then .ok ⟨.lst .leaf,.list ds⟩ Γ else .no
 | .tuple ds=>if zAP p ds then .ok ⟨.lst .leaf,.list ds⟩ Γ else .no
 | _=>.no
section
variable {K:Fg} {W:XW} {σ:St} {H:Hp} {Q:VK} {fa fb:F1}
theorem Aft.disj {He H1:Hp} {O G:List Addr} {Fs Fs1:List (List Addr)} {Γ1:Ev} {p:PV} {v:V} (A:Aft K He O Fs H σ Γ1 p v H1 G Fs1):∀a∈G,a∉O++Fs1.flatten:=fun a ha z=>by
 have nd:=A.env.nd
 rw [append_assoc] at nd
 exact (List.nodup_append.mp nd).2.2 a ha a z rfl
theorem sub3 {G O F:List Addr}:∀a∈O++F,a∈G++O++F:=fun a ha=>by
 rw [append_assoc];exact mem_append_right _ ha
theorem rd_listOf (h:tE K W (zCO fa) σ H Q):tCB (fun xs H Q=>∃p ys,xs=[.ref p]/\(SqL K H p ys\/SqT K H p ys)/\∀l,H l=none->Q (.ref l) (upd H l (.lst ys))) (tA K W (eCons fa eNil)) σ H Q:=by
 have h1:tE K W fa σ H fun x H1=>∃p ys,x=.ref p/\(SqL K H1 p ys\/SqT K H1 p ys)/\∀l,H1 l=none->Q (.ref l) (upd H1 l (.lst ys)):=by
  refine zJ9 h fun He O Fs Γ1 p v H1 G Fs1 nd A w=>?_
  obtain ⟨s,d⟩:=p
  cases d with
  | list ds=>
   have w:Wants K W He O Fs H σ Q (if zAP ⟨s,.list ds⟩ ds then .ok ⟨.lst .leaf,.list ds⟩ Γ1 else .no):=w
   cases hc:zAP ⟨s,.list ds⟩ ds with
   | false=>rw [hc] at w;exact w.elim
   | true=>
    rw [hc] at w
    obtain ⟨p,vs,rfl,hq,_,hr⟩:=A.own.items (O':=O++Fs1.flatten) hc sub3 A.disj
    exact ⟨p,vs,rfl,.inl hq,fun l hl=>w _ _ _ _ (zHS A.go A.same A.newF hr hl)⟩
  | tuple ds=>
   have w:Wants K W He O Fs H σ Q (if zAP ⟨s,.tuple ds⟩ ds then .ok ⟨.lst .leaf,.list ds⟩ Γ1 else .no):=w
   cases hc:zAP ⟨s,.tuple ds⟩ ds with
   | false=>rw [hc] at w;exact w.elim
   | true=>
    rw [hc] at w
    obtain ⟨p,vs,rfl,hq,_,hr⟩:=A.own.itemsT (O':=O++Fs1.flatten) hc sub3 A.disj
    exact ⟨p,vs,rfl,.inr hq,fun l hl=>w _ _ _ _ (zHS A.go A.same A.newF hr hl)⟩
  | _=>exact w.elim
 obtain ⟨He,O,Fs,Γ,E,h1⟩:=h1
 refine ⟨He,O,Fs,Γ,E,?_⟩
 unfold eCons eNil
 cases e:fa Γ with
 | ok p Γ'=>
  rw [e] at h1
  intro vs H' Gs Fs' A
  match vs,Gs,A.len1,A.len2 with
  | [v],[G],_,_=>
   have A':Aft K He O Fs H σ Γ' p v H' G Fs':=⟨A.same,by simpa using A.env,by simpa using A.new,by simpa using A.own 0 v p G rfl rfl rfl⟩
   obtain ⟨q,ys,rfl,h2,h3⟩:=h1 v H' G Fs' A'
   exact ⟨q,ys,rfl,h2,h3⟩
 | er c Γ'=>rw [e] at h1;exact h1
 | no=>rw [e] at h1;exact h1
end
structure ItOk (J:It) (P:Hp->Prop) (vs:List V):Prop where
 go:∀(i:Nat) H v,P H->vs[i]?=some v->J.go i H/\∀x H',J.yld i H x H'->H'=H/\x=v
 stop:∀H,P H->J.stop vs.length H
theorem it_list {K:Fg} {a:Addr} {vs:List V}:ItOk (Itl K a) (fun H=>SqL K H a vs) vs:=
 ⟨fun i H v hp hv=>⟨⟨vs,v,hp,hv⟩,fun x H' ⟨e,q⟩=>⟨e,Option.some.inj ((q vs hp).symm.trans hv)⟩⟩,fun H hp=>⟨vs,hp,Nat.le_refl _⟩⟩
def rngV (lo:Int) (n:Nat):List V:=(List.range n).map fun i=>.int (lo+(i:Nat))
def rngD (lo:Int) (n:Nat):List D:=(List.range n).map fun i=>.int (lo+(i:Nat))
theorem it_rng {lo:Int} {n:Nat}:ItOk (Itr lo n) (fun _=>True) (rngV lo n):=by
 refine ⟨fun i H v _ hv=>?_,fun H _=>?_⟩
 ·unfold rngV at hv
  rw [getElem?_map] at hv
  cases e:(List.range n)[i]? with
  | none=>rw [e] at hv;cases hv
  | some k=>
   rw [e] at hv
   obtain ⟨h1,h2⟩:=List.getElem?_eq_some_iff.mp e
   simp at h1 h2
   subst h2
   cases hv
   exact ⟨h1,fun x H' ⟨q1,q2⟩=>⟨q1,q2⟩⟩
 ·show n<=(rngV lo n).length
  simp [rngV]
theorem zIZ {K:Fg} {H:Hp} {lo:Int} {n:Nat}:Reps K H (rngV lo n) (rngD lo n):=by
 refine ⟨by simp [rngV,rngD],fun i v d h1 h2=>?_⟩
 unfold rngV at h1
 unfold rngD at h2
 rw [getElem?_map] at h1 h2
 cases e:(List.range n)[i]? with
 | none=>rw [e] at h1;cases h1
 | some k=>
  rw [e] at h1 h2
  cases h1
  cases h2
  exact .int _
structure Its where
 ds:List D
 st:Bool
abbrev FI:=Ev->Out Its
def zKJ (K:Fg) (W:XW) (He:Hp) (O:List Addr) (Fs:List (List Addr)) (H:Hp) (σ:St) (R:It->Hp->Prop) (o:Out Its):Prop:=match o with
 | .ok t Γ'=>∀J H' Fs' vs P,Same H H'->EnvOk K He O Fs' H' σ Γ'->(∀a∈Fs'.flatten,a∈Fs.flatten\/H a=none)->ItOk J P vs->P H'->(∀H2,Same H' H2->P H2)->(t.st=true->∀H2,Same (hid H' Fs'.flatten) H2->P H2) ->
   Reps K (hid H' (O++Fs'.flatten)) vs t.ds->R J H'
 | .er c Γ'=>∀H' Fs',Same H H'->EnvOk K He O Fs' H' σ Γ'->W c σ H'
 | .no=>False
def tI (K:Fg) (W:XW) (f:FI):TI:=fun σ H R=>∃He O Fs Γ,EnvOk K He O Fs H σ Γ/\zKJ K W He O Fs H σ R (f Γ)
theorem PIimp {X:Cx} {tg iter:Expr} {t t':TI} (h:PI X tg iter t) (i:∀σ H R,t' σ H R->t σ H R):PI X tg iter t':=fun pins s σ H R I q=>h pins s σ H R I (i σ H R q)
def iSeq (fa:F1):FI:=fun Γ=>(fa Γ).bind fun p Γ'=>match p.d with
 | .list ds=>if zAP p ds then .ok ⟨ds,!p.s.isView⟩ Γ' else .no
 | _=>.no
def iTupS (fa:F1):FI:=fun Γ=>(fa Γ).bind fun p Γ'=>match p.d with
 | .tuple ds=>if zAP p ds then .ok ⟨ds,!p.s.isView⟩ Γ' else .no
 | _=>.no
section
variable {K:Fg} {W:XW} {σ:St} {H:Hp} {R:It->Hp->Prop} {fa fb:F1}
theorem sub_hid {H:Hp} {O F:List Addr}:Same (hid H (O++F)) (hid H F):=zB2 (Same.refl _) fun a ha=>.inl (mem_append_right _ ha)
theorem rd_iSeq (h:tI K W (iSeq fa) σ H R):iList K (tE K W fa) σ H R:=by
 obtain ⟨He,O,Fs,Γ,E,h⟩:=h
 refine ⟨He,O,Fs,Γ,E,?_⟩
 unfold iSeq at h
 cases e:fa Γ with
 | ok p Γ1=>
  rw [e] at h
  intro v H1 G Fs1 A
  obtain ⟨s,d⟩:=p
  cases d with
  | list ds=>
   have h:zKJ K W He O Fs H σ R (if zAP ⟨s,.list ds⟩ ds then .ok ⟨ds,!s.isView⟩ Γ1 else .no):=h
   cases hc:zAP ⟨s,.list ds⟩ ds with
   | false=>rw [hc] at h;exact h.elim
   | true=>
    rw [hc] at h
    obtain ⟨p,vs,rfl,hq,hst,hr⟩:=A.own.items (O':=O++Fs1.flatten) hc sub3 A.disj
    exact ⟨p,rfl,⟨vs,hq⟩,h (Itl K p) H1 Fs1 vs (fun H=>SqL K H p vs) A.same A.go A.newF it_list hq (fun H2 s2=>s2.seq hq) (fun ht H2 s2=>s2.seq (sub_hid.seq (hst (by simpa using ht)))) hr⟩
  | _=>exact h.elim
 | er c Γ'=>rw [e] at h;exact h
 | no=>rw [e] at h;exact h
def inRng (j:Int):Bool:=decide (-(2 ^ 62)<=j)&&decide (j<2 ^ 62)
def rng1:List D->Option Int
 | [.int j]=>if inRng j then some j else none
 | _=>none
def rng2:List D->Option (Int×Int)
 | [.int i,.int j]=>if inRng i&&inRng j then some (i,j) else none
 | _=>none
theorem rng1_eq {ds:List D} {j:Int} (h:rng1 ds=some j):ds=[.int j]/\-(2 ^ 62)<=j/\j<2 ^ 62:=by
 unfold rng1 at h
 split at h
 ·split at h
  ·rename_i hc
   cases h
   simp only [inRng,Bool.and_eq_true,decide_eq_true_eq] at hc
   exact ⟨rfl,hc.1,hc.2⟩
  ·cases h
 ·cases h
theorem rng2_eq {ds:List D} {i j:Int} (h:rng2 ds=some (i,j)):ds=[.int i,.int j]/\(-(2 ^ 62)<=i/\i<2 ^ 62/\-(2 ^ 62)<=j/\j<2 ^ 62):=by
 unfold rng2 at h
 split at h
 ·split at h
  ·rename_i hc
   cases h
   simp only [inRng,Bool.and_eq_true,decide_eq_true_eq] at hc
   exact ⟨rfl,hc.1.1,hc.1.2,hc.2.1,hc.2.2⟩
  ·cases h
 ·cases h
def iR1 (fl:FL):FI:=fun Γ=>(fl Γ).bind fun ps Γ'=>match rng1 (ps.map (·.d)) with
 | some j=>.ok ⟨rngD 0 j.toNat,true⟩ Γ'
 | none=>.no
def iR2 (fl:FL):FI:=fun Γ=>(fl Γ).bind fun ps Γ'=>match rng2 (ps.map (·.d)) with
 | some (i,j)=>.ok ⟨rngD i (j-i).toNat,true⟩ Γ'
 | none=>.no
theorem rd_iR1 {fl:FL} (h:tI K W (iR1 fl) σ H R):iRng1 (tA K W fl) σ H R:=by
 obtain ⟨He,O,Fs,Γ,E,h⟩:=h
 refine ⟨He,O,Fs,Γ,E,?_⟩
 unfold iR1 at h
 cases e:fl Γ with
 | ok ps Γ1=>
  rw [e] at h
  intro vs H1 Gs Fs1 A
  have h:zKJ K W He O Fs H σ R (match rng1 (ps.map (·.d)) with | some j=>.ok ⟨rngD 0 j.toNat,true⟩ Γ1 | none=>.no):=h
  have rs:=A.reps
  cases e1:rng1 (ps.map (·.d)) with
  | none=>rw [e1] at h;exact h.elim
  | some j=>
   rw [e1] at h
   obtain ⟨e2,h1,h2⟩:=rng1_eq e1
   rw [e2] at rs
   obtain ⟨v,rfl,r⟩:=rs.one
   cases r
   exact ⟨j,rfl,h1,h2,h (Itr 0 j.toNat) H1 Fs1 (rngV 0 j.toNat) (fun _=>True) A.same A.env.dropL (fun a ha=>A.new a (mem_append_right _ ha)) it_rng trivial (fun _ _=>trivial) (fun _ _ _=>trivial) zIZ⟩
 | er c Γ'=>rw [e] at h;exact h
 | no=>rw [e] at h;exact h
theorem rd_iR2 {fl:FL} (h:tI K W (iR2 fl) σ H R):iRng2 (tA K W fl) σ H R:=by
 obtain ⟨He,O,Fs,Γ,E,h⟩:=h
 refine ⟨He,O,Fs,Γ,E,?_⟩
 unfold iR2 at h
 cases e:fl Γ with
 | ok ps Γ1=>
  rw [e] at h
  intro vs H1 Gs Fs1 A
  have h:zKJ K W He O Fs H σ R (match rng2 (ps.map (·.d)) with | some (i,j)=>.ok ⟨rngD i (j-i).toNat,true⟩ Γ1 | none=>.no):=h
  have rs:=A.reps
  cases e1:rng2 (ps.map (·.d)) with
  | none=>rw [e1] at h;exact h.elim
  | some ij=>
   obtain ⟨i,j⟩:=ij
   rw [e1] at h
   obtain ⟨e2,hb⟩:=rng2_eq e1
   rw [e2] at rs
   obtain ⟨v,u,rfl,r,r'⟩:=rs.two
   cases r
   cases r'
   exact ⟨i,j,rfl,hb,h (Itr i (j-i).toNat) H1 Fs1 (rngV i (j-i).toNat) (fun _=>True) A.same A.env.dropL (fun a ha=>A.new a (mem_append_right _ ha)) it_rng trivial (fun _ _=>trivial) (fun _ _ _=>trivial) zIZ⟩
 | er c Γ'=>rw [e] at h;exact h
 | no=>rw [e] at h;exact h
end
def zE0 (i:Nat) (fc:FB) (fe:F1) (s:Sh):List D->Ev->List D->Out (List D)
 | [],Γ,acc=>.ok acc Γ
 | d::r,Γ,acc=>match fc (Γ.set i (some ⟨.leaf,d⟩)) with
  | .ok true Γ1=>(match fe Γ1 with
   | .ok p Γ2=>if T.coer s p&&decide (acc.length<sizeLine) then zE0 i fc fe s r (Γ2.set i none) (acc++[p.d]) else .no
   | _=>.no)
  | .ok false Γ1=>if acc.length<sizeLine then zE0 i fc fe s r (Γ1.set i none) acc else .no
  | _=>.no
def eComp (s:Sh) (i:Nat) (fi:FI) (fc:FB) (fe:F1):F1:=fun Γ=>(fi Γ).bind fun t Γ1=>match zE0 i fc fe s t.ds (Γ1.set i none) [] with
 | .ok ds Γ2=>if !s.isView&&decide (i<Γ1.length) then .ok ⟨.lst s,.list ds⟩ (Γ2.set i (Γ1.getD i none)) else .no
 | _=>.no
abbrev W0:XW:=fun _ _ _=>False
section
variable {K:Fg} {He H H1 H2:Hp} {O G:List Addr} {Fs Fs1 Fs2:List (List Addr)} {σ:St} {Γ Γ1 Γ2:Ev}
theorem zJA {is:List Nat} {σ:St} {j:Nat} (h:j∉is):(blank is σ)[j]?=σ[j]?:=by
 unfold blank
 rw [List.getElem?_mapIdx]
 cases σ[j]? with
 | none=>rfl
 | some o=>simp [h]
theorem zEB {Γ:Ev} {i j:Nat} {p:PV} (h:(Γ.set i none)[j]?=some (some p)):j≠i/\Γ[j]?=some (some p):=by
 by_cases hj:j=i
 ·subst hj
  rw [getElem?_set] at h
  split at h
  ·split at h<;>cases h
  ·rename_i z;exact absurd rfl z
 ·rw [getElem?_set_ne (Ne.symm hj)] at h
  exact ⟨hj,h⟩
theorem EnvOk.shut {i:Nat} (E:EnvOk K He O Fs H σ Γ) (hi:i<Γ.length) :
  ∃F,Fs[i]?=some F/\EnvOk K He (F++O) (Fs.set i []) H (blank [i] σ) (Γ.set i none)/\∀a,a∈F++(Fs.set i []).flatten↔a∈Fs.flatten:=by
 obtain ⟨F,hF⟩:=E.lt hi
 have pm:(F++(Fs.set i []).flatten).Perm Fs.flatten:=by simpa using zBD (G:=[]) hF
 have pm2:(F++O++(Fs.set i []).flatten).Perm (O++Fs.flatten):=by
  rw [append_assoc]
  exact (perm3 _ _ _).trans (List.Perm.append_left _ pm)
 refine ⟨F,hF,⟨by rw [zB1,length_set];exact E.len1,by rw [length_set,length_set];exact E.len2,E.same,pm2.nodup_iff.mpr E.nd,fun a ha=>E.inH a (pm2.mem_iff.mp ha),fun a ha=>E.fresh a (pm.mem_iff.mp (mem_append_right _ ha)),fun j q hq=>?_⟩,fun a=>pm.mem_iff⟩
 obtain ⟨hj,hq⟩:=zEB hq
 obtain ⟨w1,v',F',e1,e2,e3⟩:=E.slot j q hq
 exact ⟨w1,v',F',by rw [zJA (by simpa using hj)];exact e1,by rw [getElem?_set_ne (Ne.symm hj)];exact e2,e3.mono (Same.refl _) fun a ha=>.inl (pm2.mem_iff.mp ha)⟩
theorem EnvOk.forget {i:Nat} {x:Option V} (E:EnvOk K He O Fs H ((blank [i] σ).set i x) Γ) (hi:i<Γ.length):EnvOk K He O (Fs.set i []) H (blank [i] σ) (Γ.set i none):=by
 obtain ⟨F,hF⟩:=E.lt hi
 have pm:(F++(Fs.set i []).flatten).Perm Fs.flatten:=by simpa using zBD (G:=[]) hF
 have sub:∀a∈O++(Fs.set i []).flatten,a∈O++Fs.flatten:=fun a ha=>by
  rcases List.mem_append.mp ha with z | z
  ·exact mem_append_left _ z
  ·exact mem_append_right _ (pm.mem_iff.mp (mem_append_right _ z))
 have l1:=E.len1
 rw [length_set] at l1
 obtain ⟨n1,n2,n3⟩:=List.nodup_append.mp E.nd
 have n4:((Fs.set i []).flatten).Nodup:=(List.nodup_append.mp (pm.nodup_iff.mpr n2)).2.1
 refine ⟨by rw [length_set];exact l1,by rw [length_set,length_set];exact E.len2,E.same,List.nodup_append.mpr ⟨n1,n4,fun a ha b hb=>n3 a ha b (pm.mem_iff.mp (mem_append_right _ hb))⟩,fun a ha=>E.inH a (sub a ha),fun a ha=>E.fresh a (pm.mem_iff.mp (mem_append_right _ ha)),fun j q hq=>?_⟩
 obtain ⟨hj,hq⟩:=zEB hq
 obtain ⟨w1,v',F',e1,e2,e3⟩:=E.slot j q hq
 rw [getElem?_set_ne (Ne.symm hj)] at e1
 exact ⟨w1,v',F',e1,by rw [getElem?_set_ne (Ne.symm hj)];exact e2,e3.mono (Same.refl _) fun a ha=>.inl (sub a ha)⟩
theorem EnvOk.reopen {i:Nat} {F:List Addr} (E1:EnvOk K He O Fs1 H1 σ Γ1) (hF:Fs1[i]?=some F) (E2:EnvOk K He (G++(F++O)) Fs2 H2 (blank [i] σ) Γ2) (hl:Γ2.length=Γ1.length) (s:Same H1 H2)
  (hn:Γ2[i]?=some none) (hF2:Fs2[i]?=some []) (new:∀a∈G++Fs2.flatten,a∈Fs1.flatten\/H1 a=none):EnvOk K He (G++O) (Fs2.set i F) H2 σ (Γ2.set i (Γ1.getD i none)):=by
 have pm:((Fs2.set i F).flatten).Perm (F++Fs2.flatten):=by simpa using zBD (G:=F) hF2
 have pm2:(G++O++(Fs2.set i F).flatten).Perm (G++(F++O)++Fs2.flatten):=by
  refine (List.Perm.append_left _ pm).trans ?_
  rw [append_assoc,append_assoc]
  refine List.Perm.append_left _ ?_
  rw [append_assoc]
  exact perm3 _ _ _
 have hi:i<Γ2.length:=(List.getElem?_eq_some_iff.mp hn).1
 refine ⟨by rw [length_set,hl];exact E1.len1,by rw [length_set,length_set];exact E2.len2,E2.same,pm2.nodup_iff.mpr E2.nd,fun a ha=>E2.inH a (pm2.mem_iff.mp ha),fun a ha=>?_,fun j q hq=>?_⟩
 ·rcases List.mem_append.mp (pm.mem_iff.mp ha) with z | z
  ·exact E1.fresh a (zBA hF z)
  ·exact E2.fresh a z
 ·by_cases hj:j=i
  ·subst hj
   rw [getElem?_set_self hi] at hq
   have hq:Γ1.getD j none=some q:=Option.some.inj hq
   rw [getD_eq_getElem?_getD] at hq
   have hq':Γ1[j]?=some (some q):=by
    cases e:Γ1[j]? with
    | none=>rw [e] at hq;cases hq
    | some o=>rw [e] at hq;simp only [Option.getD_some] at hq;rw [hq]
   obtain ⟨w1,v',F',e1,e2,e3⟩:=E1.slot j q hq'
   rw [hF] at e2
   cases e2
   refine ⟨w1,v',F,e1,getElem?_set_self (by rw [E2.len2];exact hi),e3.mono s fun a ha=>?_⟩
   rcases List.mem_append.mp ha with z | z
   ·rcases List.mem_append.mp z with z | z
    ·exact (new a (mem_append_left _ z)).elim (fun y=>.inl (mem_append_right _ y)) .inr
    ·exact .inl (mem_append_left _ z)
   ·rcases List.mem_append.mp (pm.mem_iff.mp z) with y | y
    ·exact .inl (mem_append_right _ (zBA hF y))
    ·exact (new a (mem_append_right _ y)).elim (fun y=>.inl (mem_append_right _ y)) .inr
  ·rw [getElem?_set_ne (Ne.symm hj)] at hq
   obtain ⟨w1,v',F',e1,e2,e3⟩:=E2.slot j q hq
   rw [zJA (by simpa using hj)] at e1
   exact ⟨w1,v',F',e1,by rw [getElem?_set_ne (Ne.symm hj)];exact e2,e3.mono (Same.refl _) fun a ha=>.inl (pm2.mem_iff.mp ha)⟩
theorem EnvOk.mutO {p:Addr} {o:HO} {xs:List V} (E:EnvOk K He O Fs H σ Γ) (hp:p∈O) (hl:H p=some (.lst xs)) (hn:He p=none):EnvOk K He O Fs (upd H p o) σ Γ:=by
 obtain ⟨n1,n2,n3⟩:=List.nodup_append.mp E.nd
 refine ⟨E.len1,E.len2,fun b u e=>?_,E.nd,fun a ha=>?_,E.fresh,fun j q hq=>?_⟩
 ·rw [zA6 (zBF e hn)]
  exact E.same b u e
 ·by_cases h:a=p
  ·rw [h,zAU];exact Option.some_ne_none _
  ·rw [zA6 h];exact E.inH a ha
 ·obtain ⟨w1,v',F',e1,e2,e3⟩:=E.slot j q hq
  exact ⟨w1,v',F',e1,e2,e3.mut w1 (mem_append_left _ hp) (fun z=>n3 p hp p (zBA e2 z) rfl) hl⟩
end
structure Gath (K:Fg) (He:Hp) (O F:List Addr) (Fs1:List (List Addr)) (H1:Hp) (σ:St) (i:Nat) (s:Sh) (A0:Addr) (n:Nat) (ys:List V) (H:Hp) (Γk:Ev) (Fk Gs:List (List Addr)) (acc:List D):Prop where
 env:EnvOk K He (A0::Gs.flatten++(F++O)) Fk H (blank [i] σ) Γk
 same:Same H1 H
 at_:H A0=some (.lst ys)
 new:∀a∈Gs.flatten++Fk.flatten,a∈Fs1.flatten\/H1 a=none
 l1:ys.length=acc.length
 l2:Gs.length=acc.length
 own:∀(j:Nat) v d G,ys[j]?=some v->acc[j]?=some d->Gs[j]?=some G->Own K (A0::Gs.flatten++(F++O)++Fk.flatten) H s G v d
 noneG:Γk[i]?=some none
 noneF:Fk[i]?=some []
 len:Γk.length=n
theorem zAZ {α:Type} (Gs:List (List α)) (G:List α):(Gs++[G]).flatten=Gs.flatten++G:=by simp
section
variable {K:Fg} {W:XW} {σ:St} {H:Hp} {Q:VK} {fe:F1} {fc:FB} {fi:FI} {s:Sh} {i:Nat}
theorem rd_comp (h:tE K W (eComp s i fi fc fe) σ H Q):tComp [i] (tI K W fi) (gName i) (tT K W0 fc) (tE K W0 fe) σ H Q:=by
 obtain ⟨He,O,Fs,Γ,E,h⟩:=h
 refine ⟨He,O,Fs,Γ,E,?_⟩
 unfold eComp at h
 cases e:fi Γ with
 | er c Γ'=>rw [e] at h;exact h
 | no=>rw [e] at h;exact h
 | ok t Γ1=>
  rw [e] at h
  intro J H1 Fs1 vs P s1 E1 n1 it hP hP1 _ hr A0 hD
  have h:Wants K W He O Fs H σ Q (match zE0 i fc fe s t.ds (Γ1.set i none) [] with | .ok ds Γ2=>if !s.isView&&decide (i<Γ1.length) then .ok ⟨.lst s,.list ds⟩ (Γ2.set i (Γ1.getD i none)) else .no | _=>.no):=h
  cases eg:zE0 i fc fe s t.ds (Γ1.set i none) [] with
  | er c Γ'=>rw [eg] at h;exact h.elim
  | no=>rw [eg] at h;exact h.elim
  | ok ds' Γ2=>
   rw [eg] at h
   have h:Wants K W He O Fs H σ Q (if (!s.isView&&decide (i<Γ1.length))=true then .ok ⟨.lst s,.list ds'⟩ (Γ2.set i (Γ1.getD i none)) else .no):=h
   by_cases hc:(!s.isView&&decide (i<Γ1.length))=true
   case neg=>rw [if_neg hc] at h;exact h.elim
   rw [if_pos hc] at h
   simp only [Bool.and_eq_true,decide_eq_true_eq,Bool.not_eq_true'] at hc
   obtain ⟨hsv,hi⟩:=hc
   obtain ⟨F,hF,E0,hmem⟩:=E1.shut hi
   have hHeD:He A0=none:=E1.same.free hD
   have E0':EnvOk K He (A0::([]:List (List Addr)).flatten++(F++O)) (Fs1.set i []) (upd H1 A0 (.lst [])) (blank [i] σ) (Γ1.set i none):=
    E0.hide (G:=[A0]) (zA4 hD) (by simp) (fun a ha=>by simp at ha;rw [ha];exact hD) (fun a ha=>by simp at ha;rw [ha,zAU];exact Option.some_ne_none _)
   refine ⟨fun k m ys H'=>m=vs.length-k/\k<=vs.length/\∃Γk Fk Gs acc,Gath K He O F Fs1 H1 σ i s A0 Γ1.length ys H' Γk Fk Gs acc/\zE0 i fc fe s (t.ds.drop k) Γk acc=.ok ds' Γ2,⟨vs.length,by simp,Nat.zero_le _,Γ1.set i none,Fs1.set i [],[],[],⟨E0',zA4 hD,zAU,fun a ha=>.inl ((hmem a).mp (mem_append_right _ (by simpa using ha))),rfl,rfl,fun j v d G h1=>by simp at h1,getElem?_set_self hi,getElem?_set_self (by rw [E1.len2];exact hi),by rw [length_set]⟩,by simpa using eg⟩,?_⟩
   rintro k m ys H' ⟨rfl,hk,Γk,Fk,Gs,acc,g,eg'⟩
   refine ⟨g.at_,?_⟩
   have hPk:P H':=hP1 H' g.same
   have hlen:vs.length=t.ds.length:=hr.1
   by_cases hlt:k<vs.length
   case neg=>
    have hke:k=vs.length:=by omega
    left
    have:t.ds.drop k=[]:=drop_eq_nil_of_le (by omega)
    rw [this] at eg'
    have eg'':(Out.ok acc Γk:Out (List D))=.ok ds' Γ2:=eg'
    injection eg'' with e1 e2
    subst e1
    subst e2
    refine ⟨by rw [hke];exact it.stop H' hPk,?_⟩
    have E3:EnvOk K He ((A0::Gs.flatten)++O) (Fk.set i F) H' σ (Γk.set i (Γ1.getD i none)):=
     EnvOk.reopen (G:=A0::Gs.flatten) E1 hF g.env g.len g.same g.noneG g.noneF fun a ha=>by
      rcases List.mem_append.mp ha with z | z
      ·rcases List.mem_cons.mp z with z | z
       ·rw [z];exact .inr hD
       ·exact g.new a (mem_append_left _ z)
      ·exact g.new a (mem_append_right _ z)
    have pmF:((Fk.set i F).flatten).Perm (F++Fk.flatten):=by simpa using zBD (G:=F) g.noneF
    obtain ⟨n1',_,n3'⟩:=List.nodup_append.mp g.env.ndO
    refine h (.ref A0) H' (A0::Gs.flatten) (Fk.set i F) ⟨s1.trans g.same,E3,fun a ha=>?_,?_⟩
    ·have up:a∈Fs1.flatten\/H1 a=none->a∈Fs.flatten\/H a=none:=fun z=>z.elim (n1 a) fun y=>.inr (s1.free y)
     rcases List.mem_append.mp ha with z | z
     ·rcases List.mem_cons.mp z with z | z
      ·exact up (.inr (by rw [z];exact hD))
      ·exact up (g.new a (mem_append_left _ z))
     ·rcases List.mem_append.mp (pmF.mem_iff.mp z) with y | y
      ·exact up (.inl (zBA hF y))
      ·exact up (g.new a (mem_append_right _ y))
    ·refine .lst hsv g.at_ g.l1 g.l2 n1' fun j v d G h1 h2 h3=>(g.own j v d G h1 h2 h3).perm fun a ha=>?_
     rw [append_assoc] at ha ⊢
     rcases List.mem_append.mp ha with z | z
     ·exact mem_append_left _ z
     ·refine mem_append_right _ ?_
      rcases List.mem_append.mp z with z | z
      ·exact mem_append_left _ (mem_append_right _ z)
      ·rcases List.mem_append.mp (pmF.mem_iff.mp z) with y | y
       ·exact mem_append_left _ (mem_append_left _ y)
       ·exact mem_append_right _ y
   case pos=>
    right
    have hv:vs[k]?=some vs[k]:=getElem?_eq_getElem hlt
    have hkd:k<t.ds.length:=by omega
    have hd:t.ds[k]?=some t.ds[k]:=getElem?_eq_getElem hkd
    have hdr:t.ds.drop k=t.ds[k]::t.ds.drop (k+1):=drop_eq_getElem_cons hkd
    rw [hdr] at eg'
    generalize hdk:t.ds[k]=d at hd eg'
    generalize hvk:vs[k]=v at hv
    obtain ⟨hgo,hyld⟩:=it.go k H' v hPk hv
    simp only [zE0] at eg'
    have hik:i<Γk.length:=by rw [g.len];exact hi
    have rep:Rep K (hid H' (A0::Gs.flatten++(F++O)++Fk.flatten)) v d:=(hr.2 k v d hv hd).mono (zB2 g.same fun a ha=>by
     rcases List.mem_append.mp ha with z | z
     ·rcases List.mem_append.mp z with z | z
      ·rcases List.mem_cons.mp z with z | z
       ·rw [z];exact .inr hD
       ·exact (g.new a (mem_append_left _ z)).elim (fun y=>.inl (mem_append_right _ y)) .inr
      ·rcases List.mem_append.mp z with z | z
       ·exact .inl (mem_append_right _ (zBA hF z))
       ·exact .inl (mem_append_left _ z)
     ·exact (g.new a (mem_append_right _ z)).elim (fun y=>.inl (mem_append_right _ y)) .inr)
    have Ep:EnvOk K He (A0::Gs.flatten++(F++O)) (Fk.set i []) H' ((blank [i] σ).set i (some v)) (Γk.set i (some ⟨.leaf,d⟩)):=
     EnvOk.put (G:=[]) (p:=⟨.leaf,d⟩) (v:=v) g.env (.leaf rep) rfl (fun a ha=>by simp at ha) hik
    have hsl:ys.length<sizeLine:=by
     rw [g.l1]
     cases ec:fc (Γk.set i (some ⟨.leaf,d⟩)) with
     | no=>rw [ec] at eg';cases eg'
     | er c Γ'=>rw [ec] at eg';cases eg'
     | ok b Γa=>
      rw [ec] at eg'
      cases b with
      | false=>
       dsimp only at eg'
       split at eg'
       ·assumption
       ·cases eg'
      | true=>
       dsimp only at eg'
       split at eg'
       ·split at eg'
        ·rename_i z
         simp only [Bool.and_eq_true,decide_eq_true_eq] at z
         exact z.2
        ·cases eg'
       ·cases eg'
    refine ⟨hgo,hsl,fun x Hx hx=>?_⟩
    obtain ⟨rfl,rfl⟩:=hyld x Hx hx
    show LeS (blank [i] σ) ((blank [i] σ).set i (some x))/\_
    refine ⟨⟨by rw [length_set],fun j u hj=>?_⟩,?_⟩
    ·have:=(zF1 hj).1
     rw [getElem?_set_ne (by simp at this;exact fun z=>this z.symm)]
     exact hj
    refine ⟨He,_,_,_,Ep,?_⟩
    cases ec:fc (Γk.set i (some ⟨.leaf,d⟩)) with
    | no=>rw [ec] at eg';cases eg'
    | er c Γ'=>rw [ec] at eg';cases eg'
    | ok b Γa=>
     rw [ec] at eg'
     intro H3 Fs3 s3 E3 n3
     have lena:Γa.length=Γ1.length:=by
      have:=E3.len1
      rw [length_set,zB1,E1.len1] at this
      exact this.symm
     have n3':∀a∈Fs3.flatten,a∈Fs1.flatten\/H1 a=none:=fun a ha=>(n3 a ha).elim (fun z=>by
      have pm:((Fk.set i []).flatten).Perm Fk.flatten:=by simpa using zBD (G:=[]) g.noneF
      exact g.new a (mem_append_right _ (pm.mem_iff.mp z))) fun z=>.inr (g.same.free z)
     cases b with
     | false=>
      dsimp only at eg'
      split at eg'
      case isFalse=>cases eg'
      refine iteF ⟨vs.length-(k+1),by omega,rfl,hlt,Γa.set i none,Fs3.set i [],Gs,acc,⟨E3.forget (by rw [lena];exact hi),g.same.trans s3,s3 _ _ g.at_,fun a ha=>?_,g.l1,g.l2,fun j v d G h1 h2 h3=>(g.own j v d G h1 h2 h3).mono s3 fun a ha=>?_,getElem?_set_self (by rw [lena];exact hi),getElem?_set_self (by rw [E3.len2,lena];exact hi),by rw [length_set];exact lena⟩,eg'⟩
      ·rcases List.mem_append.mp ha with z | z
       ·exact g.new a (mem_append_left _ z)
       ·obtain ⟨F3,hF3⟩:=E3.lt (i:=i) (by rw [lena];exact hi)
        have pm:(F3++(Fs3.set i []).flatten).Perm Fs3.flatten:=by simpa using zBD (G:=[]) hF3
        exact n3' a (pm.mem_iff.mp (mem_append_right _ z))
      ·rcases List.mem_append.mp ha with z | z
       ·exact .inl (mem_append_left _ z)
       ·obtain ⟨F3,hF3⟩:=E3.lt (i:=i) (by rw [lena];exact hi)
        have pm:(F3++(Fs3.set i []).flatten).Perm Fs3.flatten:=by simpa using zBD (G:=[]) hF3
        have pm2:((Fk.set i []).flatten).Perm Fk.flatten:=by simpa using zBD (G:=[]) g.noneF
        exact (n3 a (pm.mem_iff.mp (mem_append_right _ z))).elim (fun y=>.inl (mem_append_right _ (pm2.mem_iff.mp y))) .inr
     | true=>
      refine iteT ⟨He,_,_,_,E3,?_⟩
      dsimp only at eg'
      cases ee:fe Γa with
      | no=>rw [ee] at eg';cases eg'
      | er c Γ'=>rw [ee] at eg';cases eg'
      | ok p Γb=>
       rw [ee] at eg'
       dsimp only at eg'
       split at eg'
       case isFalse=>cases eg'
       rename_i hco
       simp only [Bool.and_eq_true,decide_eq_true_eq] at hco
       obtain ⟨hco,_⟩:=hco
       intro u H4 G Fs4 A4
       have lenb:Γb.length=Γ1.length:=by
        have:=A4.env.len1
        rw [length_set,zB1,E1.len1] at this
        exact this.symm
       have hib:i<Γb.length:=by rw [lenb];exact hi
       have at4:H4 A0=some (.lst ys):=A4.same _ _ (s3 _ _ g.at_)
       have s14:Same H1 H4:=(g.same.trans s3).trans A4.same
       have pmk:((Fk.set i []).flatten).Perm Fk.flatten:=by simpa using zBD (G:=[]) g.noneF
       obtain ⟨F4,hF4⟩:=A4.env.lt hib
       have pm4:(F4++(Fs4.set i []).flatten).Perm Fs4.flatten:=by simpa using zBD (G:=[]) hF4
       have new4:∀a∈G++Fs4.flatten,a∈Fs1.flatten\/H1 a=none:=fun a ha=>(A4.new a ha).elim (n3' a) fun z=>.inr ((g.same.trans s3).free z)
       have hG':∀a∈keepG s G,a∈G:=fun a ha=>zG7 ha
       obtain ⟨k1,k2,k3⟩:=List.nodup_append.mp A4.env.ndO
       have ndk:(keepG s G).Nodup:=by
        cases s<;>first | exact nodup_nil | exact k1
       have pmO:(A0::(Gs++[keepG s G]).flatten++(F++O)).Perm (keepG s G++(A0::Gs.flatten++(F++O))):=by
        rw [zAZ]
        show (A0::((Gs.flatten++keepG s G)++(F++O))).Perm _
        refine List.Perm.trans ?_ List.perm_middle.symm
        refine List.Perm.cons _ ?_
        rw [append_assoc]
        exact perm3 _ _ _
       have E5:EnvOk K He (keepG s G++(A0::Gs.flatten++(F++O))) Fs4 H4 ((blank [i] σ).set i (some x)) Γb:=A4.env.drop (fun a ha=>by
        rcases List.mem_append.mp ha with z | z
        ·exact mem_append_left _ (hG' a z)
        ·exact mem_append_right _ z) (List.nodup_append.mpr ⟨ndk,k2,fun a ha b hb=>k3 a (hG' a ha) b hb⟩)
       have E6:=(E5.perm pmO).forget hib
       have hDin:A0∈A0::(Gs++[keepG s G]).flatten++(F++O):=mem_cons_self
       have E7:=E6.mutO (o:=.lst (ys++[u])) hDin at4 hHeD
       have subH:∀a∈A0::(Gs++[keepG s G]).flatten++(F++O)++(Fs4.set i []).flatten,a∈G++(A0::Gs.flatten++(F++O))++Fs4.flatten:=fun a ha=>by
        rcases List.mem_append.mp ha with z | z
        ·rcases List.mem_append.mp (pmO.mem_iff.mp z) with y | y
         ·exact mem_append_left _ (mem_append_left _ (hG' a y))
         ·exact mem_append_left _ (mem_append_right _ y)
        ·exact mem_append_right _ (pm4.mem_iff.mp (mem_append_right _ z))
       have Dnot:∀{j:Nat} {Gj:List Addr},Gs[j]?=some Gj->A0∉Gj:=fun {j Gj} hj z=>by
        have nd:=g.env.ndO
        exact (List.nodup_cons.mp nd).1 (mem_append_left _ (zBA hj z))
       refine ⟨at4,vs.length-(k+1),by omega,rfl,hlt,Γb.set i none,Fs4.set i [],Gs++[keepG s G],acc++[p.d],⟨E7,fun b o hb=>?_,zAU,fun a ha=>?_,by simp [g.l1],by simp [g.l2],fun j w d' G' h1 h2 h3=>?_,getElem?_set_self hib,getElem?_set_self (by rw [A4.env.len2];exact hib),by rw [length_set];exact lenb⟩,eg'⟩
       ·rw [zA6 (zBF hb hD)]
        exact s14 b o hb
       ·rcases List.mem_append.mp ha with z | z
        ·rw [zAZ] at z
         rcases List.mem_append.mp z with z | z
         ·exact g.new a (mem_append_left _ z)
         ·exact new4 a (mem_append_left _ (hG' a z))
        ·exact new4 a (mem_append_right _ (pm4.mem_iff.mp (mem_append_right _ z)))
       ·by_cases hj:j<ys.length
        ·rw [getElem?_append_left hj] at h1
         rw [getElem?_append_left (by rw [<-g.l1];exact hj)] at h2
         rw [getElem?_append_left (by rw [g.l2,<-g.l1];exact hj)] at h3
         have o1:=g.own j w d' G' h1 h2 h3
         have o2:=o1.mono (O':=A0::(Gs++[keepG s G]).flatten++(F++O)++(Fs4.set i []).flatten) (s3.trans A4.same) fun a ha=>by
          have up:a∈G++Fs4.flatten->a∈A0::Gs.flatten++(F++O)++Fk.flatten\/Hx a=none:=fun z=>(A4.new a z).elim (fun y=>(n3 a y).elim (fun y=>.inl (mem_append_right _ (pmk.mem_iff.mp y))) .inr) fun y=>.inr (s3.free y)
          rcases List.mem_append.mp (subH a ha) with z | z
          ·rcases List.mem_append.mp z with z | z
           ·exact up (mem_append_left _ z)
           ·exact .inl (mem_append_left _ z)
          ·exact up (mem_append_right _ z)
         exact o2.mut hsv (mem_append_left _ hDin) (Dnot h3) at4
        ·have hj':j=ys.length:=by
          have:=(List.getElem?_eq_some_iff.mp h1).1
          rw [length_append,length_singleton] at this
          omega
         subst hj'
         rw [getElem?_append_right (Nat.le_refl _),Nat.sub_self] at h1
         rw [getElem?_append_right (by rw [g.l1];exact Nat.le_refl _),show ys.length-acc.length=0 by rw [g.l1];exact Nat.sub_self _] at h2
         rw [getElem?_append_right (by rw [g.l2,g.l1];exact Nat.le_refl _),show ys.length-Gs.length=0 by rw [g.l2,g.l1];exact Nat.sub_self _] at h3
         cases h1
         cases h2
         cases h3
         have o3:=A4.own.coer (s:=s) (O':=A0::(Gs++[keepG s G]).flatten++(F++O)++(Fs4.set i []).flatten) hco subH fun a ha hO=>by
          cases s with
          | leaf=>
           exfalso
           have hO':a∈(A0::Gs.flatten++(F++O))++(Fs4.set i []).flatten:=by
            rw [zAZ] at hO
            simpa [keepG] using hO
           rcases List.mem_append.mp hO' with z | z
           ·exact k3 a ha a z rfl
           ·have nd:=A4.env.nd
            exact (List.nodup_append.mp nd).2.2 a (mem_append_left _ ha) a (pm4.mem_iff.mp (mem_append_right _ z)) rfl
          | view=>cases hsv
          | lst s=>exact ha
          | tup ss=>exact ha
         refine o3.mut hsv (mem_append_left _ hDin) (fun z=>?_) at4
         exact k3 A0 (hG' A0 z) A0 mem_cons_self rfl
end
inductive OutS where
 | nx (e:Ev) | bk (e:Ev) | ct (e:Ev) | rt (p:PV) | er (c:Str) (e:Ev) | no
abbrev FS:=Ev->OutS
structure RetOk (K:Fg) (He:Hp) (O:List Addr) (p:PV) (v:V) (H':Hp) (G:List Addr):Prop where
 same:Same He H'
 fresh:∀a∈G,He a=none
 inH:∀a∈G,H' a≠none
 nd:G.Nodup
 own:Own K (G++O) H' p.s G v p.d
 nv:p.s.isView=false
def zCJ (K:Fg) (W:XW) (He:Hp) (O:List Addr) (D:Ends):OutS->Prop
 | .nx Γ'=>∀σ' H' Fs',EnvOk K He O Fs' H' σ' Γ'->D.nx σ' H'
 | .bk Γ'=>∀σ' H' Fs',EnvOk K He O Fs' H' σ' Γ'->D.bk σ' H'
 | .ct Γ'=>∀σ' H' Fs',EnvOk K He O Fs' H' σ' Γ'->D.ct σ' H'
 | .rt p=>∀v H' G,RetOk K He O p v H' G->D.rt v H'
 | .er c Γ'=>∀σ' H' Fs',EnvOk K He O Fs' H' σ' Γ'->W c σ' H'
 | .no=>False
def tS (K:Fg) (W:XW) (g:FS):TS:=fun D σ H=>∃He O Fs Γ,EnvOk K He O Fs H σ Γ/\zCJ K W He O D (g Γ)
def sNext:FS:=fun Γ=>.nx Γ
def sSeq (g1 g2:FS):FS:=fun Γ=>match g1 Γ with
 | .nx Γ'=>g2 Γ'
 | o=>o
def sOf (f:F1) (k:PV->Ev->OutS):FS:=fun Γ=>match f Γ with
 | .ok p Γ'=>k p Γ'
 | .er c Γ'=>.er c Γ'
 | .no=>.no
def sIf (c:FB) (a b:FS):FS:=fun Γ=>match c Γ with
 | .ok t Γ'=>if t then a Γ' else b Γ'
 | .er c Γ'=>.er c Γ'
 | .no=>.no
section
variable {K:Fg} {W:XW} {σ:St} {H:Hp} {D:Ends} {fa fb:F1} {ga gb:FB} {g1 g2:FS}
theorem rd_next (h:tS K W sNext D σ H):tNext D σ H:=by
 obtain ⟨He,O,Fs,Γ,E,h⟩:=h
 exact h σ H Fs E
theorem rd_seq (h:tS K W (sSeq g1 g2) D σ H):tSeq (tS K W g1) (tS K W g2) D σ H:=by
 obtain ⟨He,O,Fs,Γ,E,h⟩:=h
 refine ⟨He,O,Fs,Γ,E,?_⟩
 unfold sSeq at h
 cases e:g1 Γ with
 | nx Γ'=>rw [e] at h;exact fun σ' H' Fs' E'=>⟨He,O,Fs',Γ',E',h⟩
 | bk Γ'=>rw [e] at h;exact h
 | ct Γ'=>rw [e] at h;exact h
 | rt p=>rw [e] at h;exact h
 | er c Γ'=>rw [e] at h;exact h
 | no=>rw [e] at h;exact h
theorem tS_of {k:PV->Ev->OutS} {R:VK} (h:tS K W (sOf fa k) D σ H)
  (hk:∀He O Fs Γ1 p v H1 G Fs1,EnvOk K He O Fs H σ Γ1\/True->(∀a∈G,He a=none)->Aft K He O Fs H σ Γ1 p v H1 G Fs1->zCJ K W He O D (k p Γ1)->R v H1):tE K W fa σ H R:=by
 obtain ⟨He,O,Fs,Γ,E,h⟩:=h
 refine ⟨He,O,Fs,Γ,E,?_⟩
 unfold sOf at h
 cases e:fa Γ with
 | ok p Γ1=>rw [e] at h;exact fun v H' G Fs' A=>hk He O Fs Γ1 p v H' G Fs' (.inr trivial) (A.freshG E) A h
 | er c Γ1=>rw [e] at h;exact fun H' Fs' s E'=>h σ H' Fs' E'
 | no=>rw [e] at h;exact h
theorem rd_ifS (h:tS K W (sIf ga g1 g2) D σ H):tIfS (tT K W ga) (tS K W g1) (tS K W g2) D σ H:=by
 obtain ⟨He,O,Fs,Γ,E,h⟩:=h
 refine ⟨He,O,Fs,Γ,E,?_⟩
 unfold sIf at h
 cases e:ga Γ with
 | ok b Γ1=>
  rw [e] at h
  intro H' Fs' s E' n
  cases b with
  | true=>exact iteT ⟨He,O,Fs',Γ1,E',h⟩
  | false=>exact iteF ⟨He,O,Fs',Γ1,E',h⟩
 | er c Γ1=>rw [e] at h;exact fun H' Fs' s E'=>h σ H' Fs' E'
 | no=>rw [e] at h;exact h
def sRet (f:F1):FS:=sOf f fun p _=>if p.s.isView then (if scalD p.d then .rt ⟨.leaf,p.d⟩ else .no) else .rt p
theorem rd_ret (h:tS K W (sRet fa) D σ H):tRet (tE K W fa) D σ H:=by
 refine tS_of h fun He O Fs Γ1 p v H1 G Fs1 _ fr A w=>?_
 obtain ⟨n1,n2,n3⟩:=List.nodup_append.mp A.env.ndO
 have inH:∀a∈G,H1 a≠none:=fun a ha=>A.env.inH a (mem_append_left _ (mem_append_left _ ha))
 cases hv:p.s.isView with
 | false=>
  have w:zCJ K W He O D (.rt p):=by simpa [hv] using w
  exact w v H1 G ⟨A.env.same,fr,inH,n1,A.own.perm fun a ha=>mem_append_left _ ha,hv⟩
 | true=>
  cases hs:scalD p.d with
  | false=>rw [hv,hs] at w;exact w.elim
  | true=>
   have w:zCJ K W He O D (.rt ⟨.leaf,p.d⟩):=by simpa [hv,hs] using w
   exact w v H1 [] ⟨A.env.same,(fun _ z=>nomatch z),(fun _ z=>nomatch z),nodup_nil,.leaf (A.own.rep.sc hs).rep,rfl⟩
def sSet (own:Bool) (i:Nat) (f:F1):FS:=sOf f fun p Γ=>if i<Γ.length then (if own&&!p.s.isView then .nx (Γ.set i (some p)) else if T.coer .leaf p then .nx (Γ.set i (some ⟨.leaf,p.d⟩)) else .no) else .no
theorem zKC {own:Bool} {i:Nat} (h:tS K W (sSet own i fa) D σ H):tAsg (tE K W fa) (gName i) D σ H:=by
 refine tS_of h fun He O Fs Γ1 p v H1 G Fs1 _ fr A w=>?_
 show D.nx (σ.set i (some v)) H1
 have w:zCJ K W He O D (if i<Γ1.length then (if own&&!p.s.isView then .nx (Γ1.set i (some p)) else if T.coer .leaf p then .nx (Γ1.set i (some ⟨.leaf,p.d⟩)) else .no) else .no):=w
 by_cases hi:i<Γ1.length
 case neg=>rw [if_neg hi] at w;exact w.elim
 rw [if_pos hi] at w
 cases ho:(own&&!p.s.isView) with
 | true=>
  rw [ho] at w
  have hv:p.s.isView=false:=by
   simp only [Bool.and_eq_true,Bool.not_eq_true'] at ho
   exact ho.2
  exact w _ H1 _ (EnvOk.put A.env A.own hv fr hi)
 | false=>
  rw [ho] at w
  cases hc:T.coer .leaf p with
  | false=>rw [hc] at w;exact w.elim
  | true=>
   rw [hc] at w
   have o:=A.own.coer (s:=.leaf) (O':=O++Fs1.flatten) hc sub3 fun a ha z=>absurd z (A.disj a ha)
   exact w _ H1 _ (EnvOk.put (G:=[]) (p:=⟨.leaf,p.d⟩) (v:=v) A.go o rfl (fun a ha=>by simp at ha) hi)
def sDrop (f:F1):FS:=sOf f fun _ Γ=>.nx Γ
theorem rd_drop (h:tS K W (sDrop fa) D σ H):tDrop (tE K W fa) D σ H:=
 tS_of h fun He O Fs Γ1 p v H1 G Fs1 _ fr A w=>w σ H1 Fs1 A.go
theorem zC8 {α:Type} {l:List α} {i:Nat} {x:α} (h:l[i]?=some x):l.set i x=l:=by
 apply ext_getElem?
 intro j
 by_cases hj:j=i
 ·subst hj
  rw [getElem?_set_self (List.getElem?_eq_some_iff.mp h).1,h]
 ·rw [getElem?_set_ne (Ne.symm hj)]
def appK (i:Nat) (p:PV) (Γ:Ev):OutS:=match Γ[i]? with
 | some (some ⟨.lst s,.list ds⟩)=>if T.coer s p&&decide (ds.length<sizeLine) then .nx (Γ.set i (some ⟨.lst s,.list (ds++[p.d])⟩)) else .no
 | _=>.no
def zIQ:Option (Option PV)->Bool
 | some (some ⟨.lst _,.list _⟩)=>true
 | _=>false
def zAW (i:Nat) (f:F1):FS:=fun Γ=>if zIQ Γ[i]? then sOf f (appK i) Γ else .no
theorem app_env {He H:Hp} {O G:List Addr} {Fs:List (List Addr)} {Γ:Ev} {i:Nat} {s:Sh} {ds:List PySem.PyData} {p:PV} {v:V} (E:EnvOk K He (G++O) Fs H σ Γ) (o:Own K (G++O++Fs.flatten) H p.s G v p.d) (fr:∀a∈G,He a=none)
  (h:Γ[i]?=some (some ⟨.lst s,.list ds⟩)) (hc:T.coer s p=true) :
  ∃l vs,σ[i]?=some (some (.ref l))/\H l=some (.lst vs)/\vs.length=ds.length/\∃Fs',EnvOk K He O Fs' (upd H l (.lst (vs++[v]))) σ (Γ.set i (some ⟨.lst s,.list (ds++[p.d])⟩)):=by
 obtain ⟨hv,u,F,h1,E1,o1,sub⟩:=E.move h
 have hi:i<Γ.length:=(List.getElem?_eq_some_iff.mp h).1
 cases o1 with
 | @lst _ l vs _ Fs0 hsv hp hl hf nd q=>
  refine ⟨l,vs,h1,hp,hl,Fs.set i (l::(Fs0++[keepG s G]).flatten),?_⟩
  have hlF:l∈Fs.flatten:=sub l (mem_append_left _ mem_cons_self)
  have hHe:He l=none:=E.fresh l hlF
  have hG':∀a∈keepG s G,a∈G:=fun a ha=>zG7 ha
  obtain ⟨k1,k2,k3⟩:=List.nodup_append.mp E1.ndO
  obtain ⟨g1,g2,g3⟩:=List.nodup_append.mp k2
  have ndk:(keepG s G).Nodup:=by
   cases s<;>first | exact nodup_nil | exact g1
  have pmO:((l::(Fs0++[keepG s G]).flatten)++O).Perm ((l::Fs0.flatten)++(keepG s G++O)):=by
   rw [zAZ]
   show (l::((Fs0.flatten++keepG s G)++O)).Perm (l::(Fs0.flatten++(keepG s G++O)))
   rw [append_assoc]
  have E2:EnvOk K He ((l::Fs0.flatten)++(keepG s G++O)) (Fs.set i []) H σ (Γ.set i none):=E1.drop (fun a ha=>by
   rcases List.mem_append.mp ha with z | z
   ·exact mem_append_left _ z
   ·refine mem_append_right _ ?_
    rcases List.mem_append.mp z with z | z
    ·exact mem_append_left _ (hG' a z)
    ·exact mem_append_right _ z) (List.nodup_append.mpr ⟨k1,List.nodup_append.mpr ⟨ndk,g2,fun a ha b hb=>g3 a (hG' a ha) b hb⟩,fun a ha b hb=>k3 a ha b (by
     rcases List.mem_append.mp hb with z | z
     ·exact mem_append_left _ (hG' b z)
     ·exact mem_append_right _ z)⟩)
  have E3:=E2.perm pmO
  have hlin:l∈(l::(Fs0++[keepG s G]).flatten)++O:=mem_cons_self
  have E4:=E3.mutO (o:=.lst (vs++[v])) hlin hp hHe
  have lnG:l∉G:=fun z=>k3 l mem_cons_self l (mem_append_left _ z) rfl
  have subH:∀a∈(l::(Fs0++[keepG s G]).flatten)++O++(Fs.set i []).flatten,a∈(l::Fs0.flatten)++(G++O)++(Fs.set i []).flatten:=fun a ha=>by
   rcases List.mem_append.mp ha with z | z
   ·refine mem_append_left _ ?_
    rcases List.mem_append.mp (pmO.mem_iff.mp z) with y | y
    ·exact mem_append_left _ y
    ·refine mem_append_right _ ?_
     rcases List.mem_append.mp y with y | y
     ·exact mem_append_left _ (hG' a y)
     ·exact mem_append_right _ y
   ·exact mem_append_right _ z
  have ownL:Own K ((l::(Fs0++[keepG s G]).flatten)++O++(Fs.set i []).flatten) (upd H l (.lst (vs++[v]))) (.lst s) (l::(Fs0++[keepG s G]).flatten) (.ref l) (.list (ds++[p.d])):=by
   refine .lst hsv zAU (by simp [hl]) (by simp [hf]) ?_ fun j w d' G' e1 e2 e3=>?_
   ·have nd2:=E3.ndO
    exact (List.nodup_append.mp nd2).1
   ·by_cases hj:j<vs.length
    ·rw [getElem?_append_left hj] at e1
     rw [getElem?_append_left (by omega)] at e2
     rw [getElem?_append_left (by omega)] at e3
     exact ((q j w d' G' e1 e2 e3).perm subH).mut hsv (mem_append_left _ hlin) (fun z=>(List.nodup_cons.mp nd).1 (zBA e3 z)) hp
    ·have hj':j=vs.length:=by
      have:=(List.getElem?_eq_some_iff.mp e1).1
      rw [length_append,length_singleton] at this
      omega
     subst hj'
     rw [getElem?_append_right (Nat.le_refl _),Nat.sub_self] at e1
     rw [getElem?_append_right (by omega),show vs.length-ds.length=0 by omega] at e2
     rw [getElem?_append_right (by omega),show vs.length-Fs0.length=0 by omega] at e3
     cases e1
     cases e2
     cases e3
     have osub:∀a∈(l::(Fs0++[keepG s G]).flatten)++O++(Fs.set i []).flatten,a∈G++O++Fs.flatten:=fun a ha=>by
      rcases List.mem_append.mp (subH a ha) with z | z
      ·rcases List.mem_append.mp z with z | z
       ·exact mem_append_right _ (sub a (mem_append_left _ z))
       ·exact mem_append_left _ z
      ·exact mem_append_right _ (sub a (mem_append_right _ z))
     have o3:=o.coer (s:=s) hc osub fun a ha hO=>by
      cases s with
      | leaf=>
       exfalso
       rw [zAZ] at hO
       have hO':a∈(l::Fs0.flatten)++O++(Fs.set i []).flatten:=by simpa [keepG] using hO
       have ndE:=E.nd
       rw [append_assoc] at ndE
       have dis:=(List.nodup_append.mp ndE).2.2
       rcases List.mem_append.mp hO' with z | z
       ·rcases List.mem_append.mp z with z | z
        ·exact dis a ha a (mem_append_right _ (sub a (mem_append_left _ z))) rfl
        ·exact dis a ha a (mem_append_left _ z) rfl
       ·exact dis a ha a (mem_append_right _ (sub a (mem_append_right _ z))) rfl
      | view=>cases hsv
      | lst s=>exact ha
      | tup ss=>exact ha
     exact o3.mut hsv (mem_append_left _ hlin) (fun z=>lnG (hG' l z)) hp
  have fin:=EnvOk.put (i:=i) (p:=⟨.lst s,.list (ds++[p.d])⟩) (v:=.ref l) E4 ownL rfl (fun a ha=>?_) (by rw [length_set];exact hi)
  ·rw [set_set,set_set,zC8 h1] at fin
   exact fin
  ·rcases List.mem_cons.mp ha with z | z
   ·rw [z];exact hHe
   ·rw [zAZ] at z
    rcases List.mem_append.mp z with z | z
    ·exact E.fresh a (sub a (mem_append_left _ (mem_cons_of_mem _ z)))
    ·exact fr a (hG' a z)
theorem zKA {QL:List V->Hp->Prop} (h1:tE K W fa σ H fun v H'=>QL [v] H'):tA K W (eCons fa eNil) σ H QL:=by
 obtain ⟨He,O,Fs,Γ,E,h1⟩:=h1
 refine ⟨He,O,Fs,Γ,E,?_⟩
 unfold eCons eNil
 cases e:fa Γ with
 | ok p Γ'=>
  rw [e] at h1
  intro vs H' Gs Fs' A
  match vs,Gs,A.len1,A.len2 with
  | [v],[G],_,_=>exact h1 v H' G Fs' ⟨A.same,by simpa using A.env,by simpa using A.new,by simpa using A.own 0 v p G rfl rfl rfl⟩
 | er c Γ'=>rw [e] at h1;exact h1
 | no=>rw [e] at h1;exact h1
theorem isOwnL_eq {o:Option (Option PV)} (h:zIQ o=true):∃s ds,o=some (some ⟨.lst s,.list ds⟩):=by
 unfold zIQ at h
 split at h
 ·exact ⟨_,_,rfl⟩
 ·cases h
theorem EnvOk.ownL {He H:Hp} {O:List Addr} {Fs:List (List Addr)} {Γ:Ev} {i:Nat} {s:Sh} {ds:List PySem.PyData} (E:EnvOk K He O Fs H σ Γ) (h:Γ[i]?=some (some ⟨.lst s,.list ds⟩)):∃l vs,σ[i]?=some (some (.ref l))/\H l=some (.lst vs)/\vs.length=ds.length:=by
 obtain ⟨hv,v,F,h1,h2,h3⟩:=E.slot i _ h
 cases h3 with
 | @lst _ l vs _ Fs0 hsv hp hl hf nd q=>exact ⟨l,vs,h1,hp,hl⟩
theorem rd_append {i:Nat} (h:tS K W (zAW i fa) D σ H):tDrop (tBM K "list" rAppend (tVar i) (tA K W (eCons fa eNil))) D σ H:=by
 obtain ⟨He,O,Fs,Γ,E,h⟩:=h
 unfold zAW at h
 cases ho:zIQ Γ[i]? with
 | false=>rw [ho] at h;exact h.elim
 | true=>
  rw [ho] at h
  obtain ⟨s,ds,e0⟩:=isOwnL_eq ho
  obtain ⟨l,vs,h1,h2,h3⟩:=E.ownL e0
  refine ⟨.ref l,h1,.inl ⟨rfl,vs,.of h2⟩,zKA (tS_of (D:=D) ⟨He,O,Fs,Γ,E,h⟩ fun He O Fs Γ1 p v H1 G Fs1 _ fr A w=>?_)⟩
  unfold appK at w
  split at w
  ·rename_i s1 ds1 e1
   cases hc:(T.coer s1 p&&decide (ds1.length<sizeLine)) with
   | false=>rw [hc] at w;exact w.elim
   | true=>
    rw [hc] at w
    simp only [Bool.and_eq_true,decide_eq_true_eq] at hc
    obtain ⟨l1,vs1,q1,q2,q3,Fs',E'⟩:=app_env A.env A.own fr e1 hc.1
    rw [h1] at q1
    cases q1
    exact ⟨l,vs1,v,rfl,rfl,q2,by rw [q3];exact hc.2,w σ _ Fs' E'⟩
  ·exact w.elim
def forGo (i:Nat) (body:FS):List PySem.PyData->Ev->OutS
 | [],Γ=>.nx Γ
 | d::r,Γ=>if i<Γ.length then (match body (Γ.set i (some ⟨.leaf,d⟩)) with
  | .nx Γ'=>forGo i body r Γ'
  | .ct Γ'=>forGo i body r Γ'
  | .bk Γ'=>.nx Γ'
  | .rt p=>.rt p
  | .er c Γ'=>.er c Γ'
  | .no=>.no) else .no
def sFor (i:Nat) (fi:FI) (body:FS):FS:=fun Γ=>match fi Γ with
 | .ok t Γ1=>if t.st then forGo i body t.ds Γ1 else .no
 | .er c Γ1=>.er c Γ1
 | .no=>.no
theorem EnvOk.rebase {He H:Hp} {O:List Addr} {Fs:List (List Addr)} {Γ:Ev} (E:EnvOk K He O Fs H σ Γ):EnvOk K (hid H Fs.flatten) O Fs H σ Γ/\Same He (hid H Fs.flatten):=
 ⟨⟨E.len1,E.len2,hid_le,E.nd,E.inH,fun a ha=>by unfold hid;rw [if_pos ha],E.slot⟩,fun b o e=>zIC (E.same b o e) fun z=>by have:=E.fresh b z;rw [e] at this;cases this⟩
theorem EnvOk.unbase {He He' H:Hp} {O:List Addr} {Fs:List (List Addr)} {Γ:Ev} (E:EnvOk K He' O Fs H σ Γ) (s:Same He He'):EnvOk K He O Fs H σ Γ:=
 ⟨E.len1,E.len2,s.trans E.same,E.nd,E.inH,fun a ha=>s.free (E.fresh a ha),E.slot⟩
theorem RetOk.unbase {He He' H:Hp} {O G:List Addr} {p:PV} {v:V} (r:RetOk K He' O p v H G) (s:Same He He'):RetOk K He O p v H G:=
 ⟨s.trans r.same,fun a ha=>s.free (r.fresh a ha),r.inH,r.nd,r.own,r.nv⟩
theorem rd_for {i:Nat} {fi:FI} {body:FS} (h:tS K W (sFor i fi body) D σ H):tFor (tI K W fi) (gName i) (tS K W body) D σ H:=by
 obtain ⟨He,O,Fs,Γ,E,h⟩:=h
 refine ⟨He,O,Fs,Γ,E,?_⟩
 unfold sFor at h
 cases e:fi Γ with
 | er c Γ1=>rw [e] at h;exact fun H' Fs' s E'=>h σ H' Fs' E'
 | no=>rw [e] at h;exact h
 | ok t Γ1=>
  rw [e] at h
  intro J H1 Fs1 vs P s1 E1 n1 it hP hP1 hst hr
  have h:zCJ K W He O D (if t.st then forGo i body t.ds Γ1 else .no):=h
  cases ht:t.st with
  | false=>rw [ht] at h;exact h.elim
  | true=>
   rw [ht] at h
   have h:zCJ K W He O D (forGo i body t.ds Γ1):=h
   obtain ⟨E1',sHe⟩:=E1.rebase
   have hlen:vs.length=t.ds.length:=hr.1
   refine ⟨fun k m σ' H'=>m=vs.length-k/\k<=vs.length/\∃Γk Fk,EnvOk K (hid H1 Fs1.flatten) O Fk H' σ' Γk/\zCJ K W He O D (forGo i body (t.ds.drop k) Γk),⟨vs.length,by simp,Nat.zero_le _,Γ1,Fs1,E1',by simpa using h⟩,?_⟩
   rintro k m σ' H' ⟨rfl,hk,Γk,Fk,Ek,hw⟩
   have hPk:P H':=hst ht H' Ek.same
   by_cases hlt:k<vs.length
   case neg=>
    left
    have hke:k=vs.length:=by omega
    have:t.ds.drop k=[]:=drop_eq_nil_of_le (by omega)
    rw [this] at hw
    exact ⟨by rw [hke];exact it.stop H' hPk,hw σ' H' Fk (Ek.unbase sHe)⟩
   case pos=>
    right
    have hv:vs[k]?=some vs[k]:=getElem?_eq_getElem hlt
    have hkd:k<t.ds.length:=by omega
    have hd:t.ds[k]?=some t.ds[k]:=getElem?_eq_getElem hkd
    have hdr:t.ds.drop k=t.ds[k]::t.ds.drop (k+1):=drop_eq_getElem_cons hkd
    rw [hdr] at hw
    generalize hdk:t.ds[k]=d at hd hw
    generalize hvk:vs[k]=v at hv
    obtain ⟨hgo,hyld⟩:=it.go k H' v hPk hv
    simp only [forGo] at hw
    by_cases hi:i<Γk.length
    case neg=>rw [if_neg hi] at hw;exact hw.elim
    rw [if_pos hi] at hw
    have rep:Rep K (hid H' (O++Fk.flatten)) v d:=by
     refine (hr.2 k v d hv hd).mono fun b o hb=>?_
     have hb1:hid H1 Fs1.flatten b=some o:=sub_hid b o hb
     have hbO:b∉O:=fun z=>by
      unfold hid at hb
      rw [if_pos (mem_append_left _ z)] at hb
      cases hb
     have hbF:b∉Fk.flatten:=fun z=>by
      have:=Ek.fresh b z
      rw [hb1] at this
      cases this
     exact zIC (Ek.same b o hb1) fun z=>(List.mem_append.mp z).elim hbO hbF
    have Ep:EnvOk K (hid H1 Fs1.flatten) O (Fk.set i []) H' (σ'.set i (some v)) (Γk.set i (some ⟨.leaf,d⟩)):=
     EnvOk.put (G:=[]) (p:=⟨.leaf,d⟩) (v:=v) Ek (.leaf rep) rfl (fun a ha=>by simp at ha) hi
    refine ⟨hgo,fun σ2 H2=>∃Γk Fk,EnvOk K (hid H1 Fs1.flatten) O Fk H2 σ2 Γk/\zCJ K W He O D (forGo i body (t.ds.drop (k+1)) Γk),fun σ2 H2 q=>⟨vs.length-(k+1),by omega,rfl,hlt,q⟩,fun x Hx hx=>?_⟩
    obtain ⟨rfl,rfl⟩:=hyld x Hx hx
    show tS K W body _ (σ'.set i (some x)) Hx
    refine ⟨hid H1 Fs1.flatten,O,_,_,Ep,?_⟩
    cases eb:body (Γk.set i (some ⟨.leaf,d⟩)) with
    | nx Γ'=>rw [eb] at hw;exact fun σ2 H2 F2 E2=>⟨Γ',F2,E2,hw⟩
    | ct Γ'=>rw [eb] at hw;exact fun σ2 H2 F2 E2=>⟨Γ',F2,E2,hw⟩
    | bk Γ'=>rw [eb] at hw;exact fun σ2 H2 F2 E2=>hw σ2 H2 F2 (E2.unbase sHe)
    | rt p=>rw [eb] at hw;exact fun u H2 G r=>hw u H2 G (r.unbase sHe)
    | er c Γ'=>rw [eb] at hw;exact fun σ2 H2 F2 E2=>hw σ2 H2 F2 (E2.unbase sHe)
    | no=>rw [eb] at hw;exact hw
end
inductive Res where
 | ok (p:PV) | er (c:Str) | no
def spD (K:Fg) (n:Nat) (den:List PySem.PyData->Res):Sp:=fun vs H Q _=>vs.length=n/\∃O ds,O.Nodup/\(∀a∈O,H a≠none)/\Reps K (hid H O) vs ds/\match den ds with
 | .ok p=>∀v H' G,RetOk K H O p v H' G->Q v H'
 | .er _=>False
 | .no=>False
def zAL (n:Nat) (ds:List PySem.PyData):Ev:=ds.map (fun d=>some ⟨.leaf,d⟩)++List.replicate (n-ds.length) none
def denOf (n:Nat) (g:FS) (ds:List PySem.PyData):Res:=match g (zAL n ds) with
 | .nx _=>.ok ⟨.leaf,.none⟩
 | .rt p=>.ok p
 | .er c _=>.er c
 | _=>.no
section
variable {P:Program} {w:World} {K:Fg} {mg:Str->Option Value} {base:Heap}
theorem env_start {N:List Str} {H:Hp} {O:List Addr} {vs:List V} {ds:List PySem.PyData} (hn:vs.length<=N.length) (nd:O.Nodup) (inH:∀a∈O,H a≠none) (rs:Reps K (hid H O) vs ds) :
  EnvOk K H O (List.replicate N.length []) H (L2.start N vs) (zAL N.length ds):=by
 have fl:(List.replicate N.length ([]:List Addr)).flatten=[]:=by simp
 have hl:=rs.1
 refine ⟨by simp [L2.start,zAL,hl],by simp [zAL];omega,Same.refl _,by rw [fl];simpa using nd,by rw [fl];simpa using inH,fun a ha=>by rw [fl] at ha;simp at ha,fun i p hp=>?_⟩
 unfold zAL at hp
 by_cases hi:i<ds.length
 ·rw [getElem?_append_left (by simpa using hi),getElem?_map,getElem?_eq_getElem hi] at hp
  cases hp
  refine ⟨rfl,vs[i]'(by omega),[],?_,?_,?_⟩
  ·unfold L2.start
   rw [getElem?_append_left (by simp;omega),getElem?_map,getElem?_eq_getElem (by omega)]
   rfl
  ·rw [getElem?_replicate,if_pos (by omega)]
  ·refine .leaf ?_
   rw [fl,append_nil]
   exact rs.2 i _ _ (getElem?_eq_getElem _) (getElem?_eq_getElem hi)
 ·rw [getElem?_append_right (by simpa using hi),getElem?_replicate] at hp
  split at hp<;>cases hp
theorem zA1 {x qual:Str} {st:Stmt} {f:Addr} {fd:FuncData} {N ps:List Str} {k:Nat} {g:FS} (F:Fun K x qual st f fd) (S:FnScope N ps (zAH st))
  (hb:∀(cdv:Value) (A:Around) (outer:List Env) (s:Shared) (H:Hp) (E:XK),Room k (A.deeper (envOfC qual (zAH st) s.heap.objs.size f cdv)) ->
   PSs (cxOf CX0 P w K mg base N qual (zAH st) f cdv A outer s H E).nox (zAQ st) (tS K W0 g)):FnOk P w K mg base CX0 (k+1) f fd ps (spD K ps.length (denOf N.length g)):=by
 have hpl:ps.length<=N.length:=by have:=congrArg List.length S.pre;rw [length_take] at this;omega
 refine F.ok S (fun vs H Q E h=>h.1) (fun cdv A outer s H vs Q E hr h=>⟨_,hb cdv A outer s H E hr,?_⟩)
 obtain ⟨hl,O,ds,nd,inH,rs,w⟩:=h
 refine ⟨H,O,List.replicate N.length [],zAL N.length ds,env_start (by omega) nd inH rs,?_⟩
 unfold denOf at w
 cases e:g (zAL N.length ds) with
 | nx Γ'=>
  rw [e] at w
  exact fun σ' H' Fs' E'=>w .non H' [] ⟨E'.same,(fun _ z=>nomatch z),(fun _ z=>nomatch z),nodup_nil,.leaf .non,rfl⟩
 | rt p=>rw [e] at w;exact w
 | bk Γ'=>rw [e] at w;exact w.elim
 | ct Γ'=>rw [e] at w;exact w.elim
 | er c Γ'=>rw [e] at w;exact w.elim
 | no=>rw [e] at w;exact w.elim
end
def eCall (n:Nat) (den:List PySem.PyData->Res) (fl:FL):F1:=fun Γ=>(fl Γ).bind fun ps Γ'=>if ps.length=n then (match den (ps.map (·.d)) with
 | .ok p=>if ps.all (T.coer .leaf) then .ok p Γ' else if scalD p.d then .ok ⟨.leaf,p.d⟩ Γ' else .ok ⟨.view,p.d⟩ Γ'
 | _=>.no) else .no
section
variable {K:Fg} {W:XW} {σ:St} {H:Hp} {Q:VK} {fl:FL}
theorem rd_call {n:Nat} {den:List PySem.PyData->Res} {E:XK} (h:tE K W (eCall n den fl) σ H Q):tCall (spD K n den) [] E (tA K W fl) σ H Q:=by
 obtain ⟨He,O,Fs,Γ,E0,h⟩:=h
 refine ⟨He,O,Fs,Γ,E0,?_⟩
 unfold eCall at h
 cases e:fl Γ with
 | er c Γ'=>rw [e] at h;exact h
 | no=>rw [e] at h;exact h
 | ok ps Γ1=>
  rw [e] at h
  intro vs H1 Gs Fs1 A
  have h:Wants K W He O Fs H σ Q (if ps.length=n then (match den (ps.map (·.d)) with | .ok p=>if ps.all (T.coer .leaf) then .ok p Γ1 else if scalD p.d then .ok ⟨.leaf,p.d⟩ Γ1 else .ok ⟨.view,p.d⟩ Γ1 | _=>.no) else .no):=h
  by_cases hn:ps.length=n
  case neg=>rw [if_neg hn] at h;exact h.elim
  rw [if_pos hn] at h
  have hl:(vs++[]).length=n:=by rw [append_nil,A.len1];exact hn
  cases ed:den (ps.map (·.d)) with
  | er c=>rw [ed] at h;exact h.elim
  | no=>rw [ed] at h;exact h.elim
  | ok p=>
   rw [ed] at h
   have h:Wants K W He O Fs H σ Q (if ps.all (T.coer .leaf) then .ok p Γ1 else if scalD p.d then .ok ⟨.leaf,p.d⟩ Γ1 else .ok ⟨.view,p.d⟩ Γ1):=h
   obtain ⟨n1,n2,n3⟩:=List.nodup_append.mp A.env.nd
   obtain ⟨m1,m2,m3⟩:=List.nodup_append.mp n1
   have newF:∀a∈Fs1.flatten,a∈Fs.flatten\/H a=none:=fun a ha=>A.new a (mem_append_right _ ha)
   cases hc:ps.all (T.coer .leaf) with
   | true=>
    rw [hc] at h
    have h:Wants K W He O Fs H σ Q (.ok p Γ1):=h
    refine ⟨hl,O++Fs1.flatten,ps.map (·.d),A.env.dropL.nd,A.env.dropL.inH,?_,?_⟩
    ·rw [append_nil]
     refine ⟨A.reps.1,fun i v d h1 h2=>?_⟩
     rw [getElem?_map] at h2
     cases e2:ps[i]? with
     | none=>rw [e2] at h2;cases h2
     | some q=>
      rw [e2] at h2
      cases h2
      have hi:=(List.getElem?_eq_some_iff.mp e2).1
      have e3:Gs[i]?=some (Gs[i]'(by rw [A.len2];exact hi)):=getElem?_eq_getElem _
      have o:=A.own i v q _ h1 e2 e3
      have o2:=o.coer (s:=.leaf) (O':=O++Fs1.flatten) (List.all_eq_true.mp hc q (mem_of_getElem? e2)) sub3 fun a ha z=>by
       exfalso
       have hG:=zBA e3 ha
       rcases List.mem_append.mp z with y | y
       ·exact m3 a hG a y rfl
       ·exact n3 a (mem_append_left _ hG) a y rfl
      cases o2 with
      | leaf r=>exact r
    ·rw [ed]
     intro v H2 G r
     refine h v H2 G Fs1 ⟨A.same.trans r.same,A.env.dropL.hide r.same r.nd r.fresh r.inH,fun a ha=>?_,by rw [append_assoc];exact r.own⟩
     rcases List.mem_append.mp ha with z | z
     ·exact .inr (A.same.free (r.fresh a z))
     ·exact newF a z
   | false=>
    rw [hc] at h
    have h:Wants K W He O Fs H σ Q (if scalD p.d then .ok ⟨.leaf,p.d⟩ Γ1 else .ok ⟨.view,p.d⟩ Γ1):=h
    refine ⟨hl,[],ps.map (·.d),nodup_nil,(fun _ z=>nomatch z),by rw [append_nil,zJ2];exact A.reps,?_⟩
    rw [ed]
    intro v H2 G r
    cases hs:scalD p.d with
    | true=>
     rw [hs] at h
     exact Wants.scal h (r.own.rep.sc hs) (A.same.trans r.same) (A.env.dropL.grow r.same) (fun a ha=>ha) E0.ndO newF
    | false=>
     rw [hs] at h
     have h:Wants K W He O Fs H σ Q (.ok ⟨.view,p.d⟩ Γ1):=h
     exact h v H2 [] Fs1 ⟨A.same.trans r.same,by simpa using A.env.dropL.grow r.same,by simpa using newF,.view r.own.rep⟩
end
theorem b_len:bootBuiltins "len"=some (.builtin "len"):=by decide +kernel
theorem b_all:bootBuiltins "all"=some (.builtin "all"):=by decide +kernel
theorem b_any:bootBuiltins "any"=some (.builtin "any"):=by decide +kernel
theorem b_sorted:bootBuiltins "sorted"=some (.builtin "sorted"):=by decide +kernel
theorem b_int:bootBuiltins "int"=some (.type "int"):=by decide +kernel
theorem b_list:bootBuiltins "list"=some (.type "list"):=by decide +kernel
section
variable {X:Cx} {W:XW} {a b c e:Expr} {es:List Expr} {pos:Pos} {fa fb fc:F1} {fl:FL} {ga gb:FB} {g1 g2:FS}
theorem de_cmp {op:CmpOp} {r:R2} {g:PySem.PyData->PySem.PyData->Option PySem.PyData} (ho:OpR X (compareOp op) r) (hg:GOp X.K r g) (ha:PE X a (tE X.K W fa)) (hb:PE X b (tE X.K W fb)) (hm:behindInMarks op b=false:=by with_unfolding_all rfl) :
  PE X (.Compare a [op] [b] pos) (tE X.K W (eOp g fa fb)):=PEimp (pe_cmpR ho ha hb hm) fun _ _ _=>rd_op hg
theorem dt_cmp {op:CmpOp} {r:R2} {g:PySem.PyData->PySem.PyData->Option PySem.PyData} (ho:OpR X (compareOp op) r) (hg:GOp X.K r g) (ha:PE X a (tE X.K W fa)) (hb:PE X b (tE X.K W fb)) (hm:behindInMarks op b=false:=by with_unfolding_all rfl) :
  PT X (.Compare a [op] [b] pos) (tT X.K W (bOf gBool (eOp g fa fb))):=PTimp (pt_cmpR ho ha hb hm) fun σ H QB=>rd_test fun Q=>rd_op hg
theorem de_chain {op op':CmpOp} {r r':R2} {g g':PySem.PyData->PySem.PyData->Option PySem.PyData} (ho:OpR X (compareOp op) r) (hg:GOp X.K r g) (ho':OpR X (compareOp op') r') (hg':GOp X.K r' g') (ha:PE X a (tE X.K W fa)) (hb:PE X b (tE X.K W fb)) (hc:PE X c (tE X.K W fc))
  (hm:lastMarks [op,op'] [b,c]=false:=by with_unfolding_all rfl):PE X (.Compare a [op,op'] [b,c] pos) (tE X.K W (zFM g g' fa fb fc)):=PEimp (pe_chain ho ho' ha hb hc hm) fun _ _ _=>rd_chain hg hg'
theorem dt_chain {op op':CmpOp} {r r':R2} {g g':PySem.PyData->PySem.PyData->Option PySem.PyData} (ho:OpR X (compareOp op) r) (hg:GOp X.K r g) (ho':OpR X (compareOp op') r') (hg':GOp X.K r' g') (ha:PE X a (tE X.K W fa)) (hb:PE X b (tE X.K W fb)) (hc:PE X c (tE X.K W fc))
  (hm:lastMarks [op,op'] [b,c]=false:=by with_unfolding_all rfl):PT X (.Compare a [op,op'] [b,c] pos) (tT X.K W (bOf gBool (zFM g g' fa fb fc))):=PTimp (pt_chain ho ho' ha hb hc hm) fun σ H QB=>rd_test fun Q=>rd_chain hg hg'
theorem dt_tru (ha:PE X a (tE X.K W fa)) (he:∀whole,isTrue a X.env whole=(do let v <-whole;standAt a.pos;holding [v] (truthy v)):=by intro _;rfl):PT X a (tT X.K W (bOf gTru fa)):=PTimp (pt_truth ha he) fun _ _ _=>rd_tru
theorem dt_not (ha:PT X a (tT X.K W ga)):PT X (.UnaryOp .Not a pos) (tT X.K W (bNot ga)):=PTimp (pt_not ha) fun _ _ _=>rd_bNot
theorem dw_and1 (ha:PT X a (tT X.K W ga)):PW X (.BoolOp .And [a] pos) (tT X.K W ga):=pw_and1 ha
theorem dw_or1 (ha:PT X a (tT X.K W ga)):PW X (.BoolOp .Or [a] pos) (tT X.K W ga):=pw_or1 ha
theorem dw_and (ha:PT X a (tT X.K W ga)) (hb:PW X (.BoolOp .And (b::es) pos) (tT X.K W gb)):PW X (.BoolOp .And (a::b::es) pos) (tT X.K W (bAnd ga gb)):=PWimp (pw_and ha hb) fun _ _ _=>rd_bAnd
theorem dw_or (ha:PT X a (tT X.K W ga)) (hb:PW X (.BoolOp .Or (b::es) pos) (tT X.K W gb)):PW X (.BoolOp .Or (a::b::es) pos) (tT X.K W (bOr ga gb)):=PWimp (pw_or ha hb) fun _ _ _=>rd_bOr
theorem de_and (ha:PE X a (tE X.K W fa)) (hb:PE X (.BoolOp .And (b::es) pos) (tE X.K W fb)):PE X (.BoolOp .And (a::b::es) pos) (tE X.K W (eAnd fa fb)):=PEimp (pe_and ha hb) fun _ _ _=>rd_and
theorem de_if (hc:PT X c (tT X.K W ga)) (ha:PE X a (tE X.K W fa)) (hb:PE X b (tE X.K W fb)):PE X (.IfExp c a b pos) (tE X.K W (eIf ga fa fb)):=PEimp (pe_ifExp hc ha hb) fun _ _ _=>rd_if
theorem da_nil:PA X [] (tA X.K W eNil):=PAimp pa_nil fun _ _ _=>rd_nil
theorem da_cons (ha:PE X e (tE X.K W fa)) (hr:PA X es (tA X.K W fl)) (hs:starEach (e::es) X.env=(false,eval e X.env)::starEach es X.env:=by rfl):PA X (e::es) (tA X.K W (eCons fa fl)):=PAimp (pa_cons ha hr hs) fun _ _ _=>rd_cons
theorem de_idx (ha:PE X a (tE X.K W fa)) (hb:PE X b (tE X.K W fb)) (hs:zJ7 b:=by intro _ _;rfl):PE X (.Subscript a b pos) (tE X.K W (eIdx fa fb)):=PEimp (pe_ix ix_seq ha hb hs) fun _ _ _=>rd_idx
theorem de_list (s:Sh) (h:PA X es (tA X.K W fl)):PE X (.List es pos) (tE X.K W (eList s fl)):=PEimp (pe_lst h) fun _ _ _=>rd_list
theorem de_tup {x1} (h:PA X es (tA X.K W fl)):PE X (.Tuple es x1 pos) (tE X.K W (eTup fl)):=PEimp (pe_tup h) fun _ _ _=>rd_tup
theorem de_bi {x:Str} {id:String} {r:List V->Hp->VK->Prop} {g:List PySem.PyData->Option PySem.PyData} {p:Pos} (hc:CallR X (.builtin id) r) (hg:GCall X.K r g) (hv:bootBuiltins x=some (.builtin id)) (hm:X.mg x=none) (ha:PA X (e::es) (tA X.K W fl)) (hG:Gl X x:=by rfl)
  (hn:x ≠ "__name__":=by decide) (hdb:(x==("__debug__":Str))=false:=by decide) (he:starEach (e::es) X.env=(false,eval e X.env)::starEach es X.env:=by rfl) (hpl:(backTo pos (starEach es X.env)).any (·.1)=false:=by rfl) :
  PE X (.Call (.Name x p) (e::es) [] pos) (tE X.K W (eCB g fl)):=PEimp (pe_callB hc hG hm hv ha hn hdb he hpl) fun _ _ _=>rd_cb hg
theorem de_ty {x:Str} {id:String} {r:List V->Hp->VK->Prop} {g:List PySem.PyData->Option PySem.PyData} {p:Pos} (hc:CallR X (.type id) r) (hg:GCall X.K r g) (hv:bootBuiltins x=some (.type id)) (hm:X.mg x=none) (ha:PA X (e::es) (tA X.K W fl)) (hG:Gl X x:=by rfl)
  (hn:x ≠ "__name__":=by decide) (hdb:(x==("__debug__":Str))=false:=by decide) (he:starEach (e::es) X.env=(false,eval e X.env)::starEach es X.env:=by rfl) (hpl:(backTo pos (starEach es X.env)).any (·.1)=false:=by rfl) :
  PE X (.Call (.Name x p) (e::es) [] pos) (tE X.K W (eCB g fl)):=PEimp (pe_callTy hc hG hm hv ha hn hdb he hpl) fun _ _ _=>rd_cb hg
theorem de_listOf {p:Pos} (hm:X.mg "list"=none) (ha:PE X e (tE X.K W fa)) (hG:Gl X "list":=by rfl) (hs:starEach [e] X.env=[(false,eval e X.env)]:=by rfl) :
  PE X (.Call (.Name "list" p) [e] [] pos) (tE X.K W (zCO fa)):=PEimp (pe_callTy call_list_of hG hm b_list (da_cons ha da_nil hs) (by decide) (by decide) hs rfl) fun _ _ _=>rd_listOf
theorem de_call {f:Addr} {fd:FuncData} {ps:List Str} {k n:Nat} {den:List PySem.PyData->Res} {x:Str} {p:Pos} (F:FnOk X.prog X.w X.K X.mg X.base CX0 k f fd ps (spD X.K n den)) (hr:Room k X.A) (hm:X.mg x=some (.ref f)) (hk:PySem.W.keepIn X.K (.ref f)=true)
  (hb:Binds X.K fd ps []) (ha:PA X (e::es) (tA X.K W fl)) (hg:Gl X x:=by rfl) (hdb:(x==("__debug__":Str))=false:=by decide) (he:starEach (e::es) X.env=(false,eval e X.env)::starEach es X.env:=by rfl)
  (hpl:(backTo pos (starEach es X.env)).any (·.1)=false:=by rfl):PE X (.Call (.Name x p) (e::es) [] pos) (tE X.K W (eCall n den fl)):=PEimp (pe_call F hr hg hm hk hb .nil pass0 ha hdb he hpl) fun _ _ _=>rd_call
theorem di_seq {tg:Expr} (ha:PE X a (tE X.K W fa)):PI X tg a (tI X.K W (iSeq fa)):=PIimp (pi_list ha) fun _ _ _=>rd_iSeq
theorem di_r1 {tg:Expr} {p:Pos} (hm:X.mg "range"=none) (ha:PA X [a] (tA X.K W fl)) (hg:Gl X "range":=by rfl) (hs:starEach [a] X.env=[(false,eval a X.env)]:=by rfl):PI X tg (.Call (.Name "range" p) [a] [] pos) (tI X.K W (iR1 fl)):=PIimp (pi_range1 hg hm ha hs) fun _ _ _=>rd_iR1
theorem di_r2 {tg:Expr} {p:Pos} (hm:X.mg "range"=none) (ha:PA X [a,b] (tA X.K W fl)) (hg:Gl X "range":=by rfl) (hs:starEach [a,b] X.env=[(false,eval a X.env),(false,eval b X.env)]:=by rfl) (hs2:starEach [b] X.env=[(false,eval b X.env)]:=by rfl) :
  PI X tg (.Call (.Name "range" p) [a,b] [] pos) (tI X.K W (iR2 fl)):=PIimp (pi_range2 hg hm ha hs hs2) fun _ _ _=>rd_iR2
def bTrue:FB:=fun Γ=>.ok true Γ
theorem df_nil:PF X [] (tT X.K W0 bTrue):=PFimp pf_nil fun σ H Q h=>by
 obtain ⟨He,O,Fs,Γ,E,h⟩:=h
 exact h H Fs (Same.refl _) E fun _ z=>.inl z
theorem df_one (h:PT X c (tT X.K W0 ga)):PF X [c] (tT X.K W0 ga):=pf_one h
theorem de_comp {scope:Scope} {x:Str} {px:Pos} {iter elt:Expr} {ifs:List Expr} {fi:FI} {fe:F1} {fc:FB} (s:Sh) (i:Nat) (S:CompSc X.N [i] X.env.scope scope) (hN:X.N.Nodup) (hi':PI X (.Name x px) iter (tI X.K W fi))
  (hc:∀cells C s₀ H₀ ex,PF (blk X scope cells C s₀ H₀ ex) ifs (tT X.K W0 fc)) (he:∀cells C s₀ H₀ ex,PE (blk X scope cells C s₀ H₀ ex) elt (tE X.K W0 fe))
  (hcalm:X.calm=true:=by rfl) (hx:X.N[i]?=some x:=by rfl) (hl:∀cells C s₀ H₀ ex,Loc (blk X scope cells C s₀ H₀ ex).env.scope x:=by first | exact fun _ _ _ _ _=>Or.inl rfl | exact fun _ _ _ _ _=>Or.inr rfl)
  (hf:∀cells C s₀ H₀ ex,(blk X scope cells C s₀ H₀ ex).fn x=true\/(blk X scope cells C s₀ H₀ ex).env.scope.names.lookup x=some .local:=by first | exact fun _ _ _ _ _=>Or.inr rfl | exact fun _ _ _ _ _=>Or.inl rfl)
  (hs:∀x,foldedSetIterable iter X.env x=pure x:=by intro _;rfl):PE X (.ListComp elt [⟨.Name x px,iter,ifs,0⟩] scope pos) (tE X.K W (eComp s i fi fc fe)):=
 PEimp (pe_comp S hcalm hi' (fun cells C s₀ H₀ ex=>zCL (X:=blk X scope cells C s₀ H₀ ex) (i:=i) hN hx (hl cells C s₀ H₀ ex) (hf cells C s₀ H₀ ex)) hc he hs) fun _ _ _=>rd_comp
theorem ds_nil:PSs X [] (tS X.K W sNext):=zKR pss_nil fun _ _ _=>rd_next
theorem ds_cons {st:Stmt} {rest:List Stmt} (h1:PS X st (tS X.K W g1)) (h2:PSs X rest (tS X.K W g2)):PSs X (st::rest) (tS X.K W (sSeq g1 g2)):=zKR (pss_cons h1 h2) fun _ _ _=>rd_seq
theorem ds_one {st:Stmt} (h1:PS X st (tS X.K W g1)):PSs X [st] (tS X.K W g1):=pss_one h1
theorem ds_if {A B:List Stmt} (hc:PT X c (tT X.K W ga)) (ha:PSs X A (tS X.K W g1)) (hb:PSs X B (tS X.K W g2)):PS X (.If c A B pos) (tS X.K W (sIf ga g1 g2)):=PSimp (ps_if hc ha hb) fun _ _ _=>rd_ifS
theorem ds_ret (ha:PE X a (tE X.K W fa)):PS X (.Return (some a) pos) (tS X.K W (sRet fa)):=PSimp (ps_ret ha) fun _ _ _=>rd_ret
theorem ds_set (own:Bool) (i:Nat) {x:Str} {pos':Pos} (hN:X.N.Nodup) (ha:PE X a (tE X.K W fa)) (hi:X.N[i]?=some x:=by rfl) (hx:Loc X.env.scope x:=by first | exact Or.inl rfl | exact Or.inr rfl) (hs:swapsWith a (some (.Name x pos')) pos.line X.env=pure false:=by rfl)
  (hf:X.fn x=true\/X.env.scope.names.lookup x=some .local:=by first | exact .inl rfl | exact .inr rfl):PS X (.Assign [.Name x pos'] a pos) (tS X.K W (sSet own i fa)):=PSimp (ps_set hN hi hx ha hs hf) fun _ _ _=>zKC
theorem ds_setComp (own:Bool) (j:Nat) {scope:Scope} {x y:Str} {px pos' spos:Pos} {iter elt:Expr} {ifs:List Expr} {fi:FI} {fe:F1} {fc:FB} (s:Sh) (i:Nat) (S:CompSc X.N [i] X.env.scope scope) (hN:X.N.Nodup) (hi':PI X (.Name x px) iter (tI X.K W fi))
  (hc:∀cells C s₀ H₀ ex,PF (blk X scope cells C s₀ H₀ ex) ifs (tT X.K W0 fc)) (he:∀cells C s₀ H₀ ex,PE (blk X scope cells C s₀ H₀ ex) elt (tE X.K W0 fe))
  (hsw:swapsWith (.ListComp elt [⟨.Name x px,iter,ifs,0⟩] scope pos) (some (.Name y pos')) spos.line X.env=pure true:=by rfl)
  (hy:X.N[j]?=some y:=by rfl) (hly:X.env.scope.names.lookup y=some .local:=by rfl)
  (hcalm:X.calm=true:=by rfl) (hx:X.N[i]?=some x:=by rfl) (hl:∀cells C s₀ H₀ ex,Loc (blk X scope cells C s₀ H₀ ex).env.scope x:=by first | exact fun _ _ _ _ _=>Or.inl rfl | exact fun _ _ _ _ _=>Or.inr rfl)
  (hf:∀cells C s₀ H₀ ex,(blk X scope cells C s₀ H₀ ex).fn x=true\/(blk X scope cells C s₀ H₀ ex).env.scope.names.lookup x=some .local:=by first | exact fun _ _ _ _ _=>Or.inr rfl | exact fun _ _ _ _ _=>Or.inl rfl)
  (hs:∀x,foldedSetIterable iter X.env x=pure x:=by intro _;rfl):PS X (.Assign [.Name y pos'] (.ListComp elt [⟨.Name x px,iter,ifs,0⟩] scope pos) spos) (tS X.K W (sSet own j (eComp s i fi fc fe))):=
 PSimp (zHC hN hy hly S hcalm hi' (fun cells C s₀ H₀ ex=>zCL (X:=blk X scope cells C s₀ H₀ ex) (i:=i) hN hx (hl cells C s₀ H₀ ex) (hf cells C s₀ H₀ ex)) hc he hsw hs) fun D σ H h=>by
  have h2:tAsg (tE X.K W (eComp s i fi fc fe)) (gName j) D σ H:=zKC h
  exact rd_comp h2
theorem ds_append (i:Nat) {x:Str} {p apos cpos:Pos} (ha:PE X a (tE X.K W fa)) (hN:X.N[i]?=some x:=by rfl) (hv:Vis X.env.scope x:=by first | exact Or.inl rfl | exact Or.inr (Or.inl rfl) | exact Or.inr (Or.inr rfl)) (hd:(x==("__debug__":Str))=false:=by decide)
  (hcd:(x==("__classdict__":Str))=false:=by decide) (hs:starEach [a] X.env=[(false,eval a X.env)]:=by rfl)
  (hbase:attributeBase (.Name x p) "append" X.env (eval (.Name x p) X.env)=eval (.Name x p) X.env:=by rfl) (hline:(apos.endLine==cpos.line)=true:=by rfl)
  (hfew:((backTo cpos (starEach [a] X.env)).all (fun x=>!x.1)&&(backToKw cpos (keywordEach [] X.env)).all (fun x=>x.1.isSome)
   && decide ([a].length+([]:List Keyword).length+(if ([]:List Keyword).isEmpty then 0 else 1)<30))=true:=by rfl)
  (hsw:swapsWith (.Call (.Attribute (.Name x p) "append" apos) [a] [] cpos) none pos.line X.env=pure false:=by rfl) :
  PS X (.Expr (.Call (.Attribute (.Name x p) "append" apos) [a] [] cpos) pos) (tS X.K W (zAW i fa)):=
 PSimp (zJU (pe_bm PySem.F.plainAttrs_list PySem.F.slot_list_append PySem.F.type_list_append mt_append (zIP hN hv hd hcd) (da_cons ha da_nil hs) hbase hfew hline hs rfl) hsw) fun _ _ _=>rd_append
theorem ds_for (i:Nat) {x:Str} {px:Pos} {iter:Expr} {body:List Stmt} {fi:FI} {g:FS} (hp:PassesOwn (model X.prog X.w) X.A X.env X.xe) (hN:X.N.Nodup) (hi':PI X (.Name x px) iter (tI X.K W fi)) (hb:PSs X body (tS X.K W g)) (hcalm:X.calm=true:=by rfl)
  (hx:X.N[i]?=some x:=by rfl) (hl:Loc X.env.scope x:=by first | exact Or.inl rfl | exact Or.inr rfl) (hf:X.fn x=true\/X.env.scope.names.lookup x=some .local:=by first | exact .inl rfl | exact .inr rfl)
  (hs:∀x,foldedSetIterable iter X.env x=pure x:=by intro _;rfl):PS X (.For (.Name x px) iter body [] pos) (tS X.K W (sFor i fi g)):=
 PSimp (ps_for hp hcalm hi' (zCL hN hx hl hf) hb hs) fun _ _ _=>rd_for
end
structure Cp (X:Cx) (N gl:List Str) (vs cs ls lo gs:List Nat):Prop where
 hN:X.N=N
 nd:N.Nodup
 nm:∀x∈N,(x==("__debug__":Str))=false/\(x==("__classdict__":Str))=false
 ng:∀x∈gl,(x==("__debug__":Str))=false/\x ≠ "__name__"
 vis:∀(i:Nat) x,N[i]?=some x->vs.contains i=true->Vis X.env.scope x
 cel:∀(i:Nat) x,N[i]?=some x->cs.contains i=true->X.env.scope.names.lookup x=some .cell\/X.env.scope.names.lookup x=some .free
 loc:∀(i:Nat) x,N[i]?=some x->ls.contains i=true->Loc X.env.scope x/\(X.fn x=true\/X.env.scope.names.lookup x=some .local)
 loo:∀(i:Nat) x,N[i]?=some x->lo.contains i=true->X.env.scope.names.lookup x=some .local
 glb:∀(j:Nat) x,gl[j]?=some x->gs.contains j=true->Gl X x
 calm:X.calm=true
 kind:X.env.scope.kind=.function
def zIA (sc:Scope) (ks:List NameKind) (o:Option Str):Bool:=match o with
 | some x=>(match sc.names.lookup x with
  | some k=>ks.any fun z=>decide (z=k)
  | none=>false)
 | none=>true
def cpB (N gl:List Str) (vs cs ls lo gs:List Nat) (sc:Scope):Bool:=
 decide (sc.kind=.function)&&(vs.all fun i=>zIA sc [.local,.cell,.free] N[i]?)&&(cs.all fun i=>zIA sc [.cell,.free] N[i]?)&&(ls.all fun i=>zIA sc [.local,.cell] N[i]?)&&(lo.all fun i=>zIA sc [.local] N[i]?)&&(gs.all fun j=>zIA sc [.globalImplicit] gl[j]?)
def nmB (N gl:List Str):Bool:=decide N.Nodup&&(N.all fun x=>!(x==("__debug__":Str))&&!(x==("__classdict__":Str)))&&(gl.all fun x=>!(x==("__debug__":Str))&&!decide (x = "__name__"))
theorem zDZ {sc:Scope} {ks:List NameKind} {x:Str} (h:zIA sc ks (some x)=true):∃k∈ks,sc.names.lookup x=some k:=by
 unfold zIA at h
 simp only at h
 split at h
 ·rename_i k e
  simp only [any_eq_true,decide_eq_true_eq] at h
  obtain ⟨z,hz,rfl⟩:=h
  exact ⟨z,hz,e⟩
 ·cases h
theorem zJN {P:Nat->Bool} {l:List Nat} {i:Nat} (h:l.all P=true) (hi:l.contains i=true):P i=true:=by
 rw [all_eq_true] at h
 exact h i (by simpa using hi)
structure CpB (N gl:List Str) (vs cs ls lo gs:List Nat) (sc:Scope):Prop where
 kind:sc.kind=.function
 vis:∀(i:Nat) x,N[i]?=some x->vs.contains i=true->Vis sc x
 cel:∀(i:Nat) x,N[i]?=some x->cs.contains i=true->sc.names.lookup x=some .cell\/sc.names.lookup x=some .free
 loc:∀(i:Nat) x,N[i]?=some x->ls.contains i=true->Loc sc x
 loo:∀(i:Nat) x,N[i]?=some x->lo.contains i=true->sc.names.lookup x=some .local
 glb:∀(j:Nat) x,gl[j]?=some x->gs.contains j=true->sc.names.lookup x=some .globalImplicit
theorem cpB_ok {N gl:List Str} {vs cs ls lo gs:List Nat} {sc:Scope} (h:cpB N gl vs cs ls lo gs sc=true):CpB N gl vs cs ls lo gs sc:=by
 unfold cpB at h
 simp only [Bool.and_eq_true,decide_eq_true_eq] at h
 obtain ⟨⟨⟨⟨⟨h0,h1⟩,h2⟩,h3⟩,h4⟩,h5⟩:=h
 refine ⟨h0,fun i x e hi=>?_,fun i x e hi=>?_,fun i x e hi=>?_,fun i x e hi=>?_,fun i x e hi=>?_⟩
 ·have q:=zJN h1 hi
  rw [e] at q
  obtain ⟨k,hk,q⟩:=zDZ q
  simp only [mem_cons,not_mem_nil,or_false] at hk
  rcases hk with rfl | rfl | rfl
  ·exact .inl q
  ·exact .inr (.inl q)
  ·exact .inr (.inr q)
 ·have q:=zJN h2 hi
  rw [e] at q
  obtain ⟨k,hk,q⟩:=zDZ q
  simp only [mem_cons,not_mem_nil,or_false] at hk
  rcases hk with rfl | rfl
  ·exact .inl q
  ·exact .inr q
 ·have q:=zJN h3 hi
  rw [e] at q
  obtain ⟨k,hk,q⟩:=zDZ q
  simp only [mem_cons,not_mem_nil,or_false] at hk
  rcases hk with rfl | rfl
  ·exact .inl q
  ·exact .inr q
 ·have q:=zJN h4 hi
  rw [e] at q
  obtain ⟨k,hk,q⟩:=zDZ q
  simp only [mem_cons,not_mem_nil,or_false] at hk
  rw [hk] at q
  exact q
 ·have q:=zJN h5 hi
  rw [e] at q
  obtain ⟨k,hk,q⟩:=zDZ q
  simp only [mem_cons,not_mem_nil,or_false] at hk
  rw [hk] at q
  exact q
theorem nmB_ok {N gl:List Str} (h:nmB N gl=true):N.Nodup/\(∀x∈N,(x==("__debug__":Str))=false/\(x==("__classdict__":Str))=false)/\∀x∈gl,(x==("__debug__":Str))=false/\x ≠ "__name__":=by
 unfold nmB at h
 simp only [Bool.and_eq_true,decide_eq_true_eq,all_eq_true,Bool.not_eq_true',decide_eq_false_iff_not] at h
 exact ⟨h.1.1,h.1.2,h.2⟩
theorem Cp.fn {P:Program} {w:World} {K:Fg} {mg:Str->Option Value} {base:Heap} {N gl:List Str} {vs cs ls lo gs:List Nat} {qual:Str} {sc:Scope} {f:Addr} {cd:Value} {A:Around} {outer:List Env} {s:Shared} {H:Hp} {E:XK}
  (h:cpB N gl vs cs ls lo gs sc=true) (h':nmB N gl=true):Cp (cxOf CX0 P w K mg base N qual sc f cd A outer s H E).nox N gl vs cs ls lo gs:=by
 obtain ⟨a,b,c⟩:=nmB_ok h'
 have q:=cpB_ok h
 exact ⟨rfl,a,b,c,q.vis,q.cel,fun i x e hi=>⟨q.loc i x e hi,.inl rfl⟩,q.loo,q.glb,rfl,q.kind⟩
theorem relab {env:Env} {x:Str} {k:NameKind}:∀{names:List (Str×NameKind)},names.lookup x=some k ->
  (names.map fun (n,k)=>if (k==NameKind.free&&env.scope.kind==.function&&env.kindOf n==some .cell) then (n,NameKind.cell) else (n,k)).lookup x=some k \/
  (k=.free/\(names.map fun (n,k)=>if (k==NameKind.free&&env.scope.kind==.function&&env.kindOf n==some .cell) then (n,NameKind.cell) else (n,k)).lookup x=some .cell)
 | [],h=>by simp at h
 | (n,k')::r,h=>by
  have ih:=@relab env x k r
  rw [map_cons]
  show List.lookup x ((if (k'==NameKind.free&&env.scope.kind==.function&&env.kindOf n==some .cell)=true then (n,NameKind.cell) else (n,k'))::_)=_\/_/\List.lookup x ((if (k'==NameKind.free&&env.scope.kind==.function&&env.kindOf n==some .cell)=true then (n,NameKind.cell) else (n,k'))::_)=_
  by_cases hc:(k'==NameKind.free&&env.scope.kind==.function&&env.kindOf n==some .cell)=true
  ·rw [if_pos hc]
   cases hx:x==n with
   | true=>
    simp only [lookup_cons,hx] at h ⊢
    cases h
    simp only [Bool.and_eq_true,beq_iff_eq] at hc
    exact .inr ⟨hc.1.1,trivial⟩
   | false=>
    simp only [lookup_cons,hx] at h ⊢
    exact ih h
  ·rw [if_neg hc]
   cases hx:x==n with
   | true=>
    simp only [lookup_cons,hx] at h ⊢
    cases h
    exact .inl rfl
   | false=>
    simp only [lookup_cons,hx] at h ⊢
    exact ih h
theorem zG3 {scope:Scope} {env:Env} {x:Str} {k:NameKind} (h:scope.names.lookup x=some k):(relabel scope env).names.lookup x=some k\/(k=.free/\(relabel scope env).names.lookup x=some .cell):=relab h
theorem Cp.blk {X:Cx} {N gl:List Str} {vs cs ls lo gs vs' cs' ls' lo' gs':List Nat} {scope:Scope} (S:Cp X N gl vs cs ls lo gs) (h:cpB N gl vs' cs' ls' lo' gs' scope=true) (cells C s₀ H₀ ex) :
  Cp (blk X scope cells C s₀ H₀ ex) N gl vs' cs' ls' lo' gs':=by
 have q:=cpB_ok h
 refine ⟨S.hN,S.nd,S.nm,S.ng,fun i x e hi=>?_,fun i x e hi=>?_,fun i x e hi=>?_,fun i x e hi=>?_,fun i x e hi=>?_,S.calm,q.kind⟩
 ·show Vis (relabel scope X.env) x
  rcases q.vis i x e hi with z | z | z
  ·rcases zG3 (env:=X.env) z with y | ⟨y,_⟩
   ·exact .inl y
   ·cases y
  ·rcases zG3 (env:=X.env) z with y | ⟨y,_⟩
   ·exact .inr (.inl y)
   ·cases y
  ·rcases zG3 (env:=X.env) z with y | ⟨_,y⟩
   ·exact .inr (.inr y)
   ·exact .inr (.inl y)
 ·show (relabel scope X.env).names.lookup x=some .cell\/(relabel scope X.env).names.lookup x=some .free
  rcases q.cel i x e hi with z | z
  ·rcases zG3 (env:=X.env) z with y | ⟨y,_⟩
   ·exact .inl y
   ·cases y
  ·rcases zG3 (env:=X.env) z with y | ⟨_,y⟩
   ·exact .inr y
   ·exact .inl y
 ·show Loc (relabel scope X.env) x/\((scope.names.any fun y=>y.1==x&&y.2==.cell)=true\/(relabel scope X.env).names.lookup x=some .local)
  rcases q.loc i x e hi with z | z
  ·rcases zG3 (env:=X.env) z with y | ⟨y,_⟩
   ·exact ⟨.inl y,.inr y⟩
   ·cases y
  ·rcases zG3 (env:=X.env) z with y | ⟨y,_⟩
   ·refine ⟨.inr y,.inl ?_⟩
    rw [any_eq_true]
    exact ⟨(x,.cell),lookup_mem z,by simp⟩
   ·cases y
 ·show (relabel scope X.env).names.lookup x=some .local
  rcases zG3 (env:=X.env) (q.loo i x e hi) with y | ⟨y,_⟩
  ·exact y
  ·cases y
 ·show (relabel scope X.env).names.lookup x=some .globalImplicit
  rcases zG3 (env:=X.env) (q.glb i x e hi) with y | ⟨y,_⟩
  ·exact y
  ·cases y
def compB (N:List Str) (i:Nat) (cs:List Nat) (sc:Scope):Bool:=
 decide (sc.kind=.function)&&(sc.names.all fun p=>!decide (p.2=.free)||cs.any fun j=>decide (N[j]?=some p.1)) &&
 ((List.range N.length).all fun j=>j==i||(sc.names.all fun p=>!decide (some p.1=N[j]?)||(!decide (p.2=.local)&&!decide (p.2=.cell)))) &&
 (sc.names.all fun p=>!decide (p.2=.local)||decide (sc.names.lookup p.1=some .local)) &&
 (sc.names.all fun p=>!decide (p.2=.free)||sc.names.all fun q=>!decide (q.1=p.1)||!decide (q.2=.cell))
theorem compB_ok {X:Cx} {N gl:List Str} {vs cs ls lo gs:List Nat} {scope:Scope} {i:Nat} (S:Cp X N gl vs cs ls lo gs) (h:compB N i cs scope=true):CompSc X.N [i] X.env.scope scope:=by
 unfold compB at h
 simp only [Bool.and_eq_true,decide_eq_true_eq,all_eq_true,Bool.or_eq_true,Bool.not_eq_true',decide_eq_false_iff_not,any_eq_true,mem_range,beq_iff_eq] at h
 obtain ⟨⟨⟨⟨h0,h1⟩,h2⟩,h3⟩,h4⟩:=h
 refine ⟨h0,fun n hn=>?_,fun j x e hj=>?_,fun x hx e=>?_,fun n hn hc=>?_⟩
 ·rcases h1 _ hn with z | ⟨j,hj,e⟩
  ·exact absurd rfl z
  ·exact S.cel j n e (by simpa using hj)
 ·rw [S.hN] at e
  rcases h2 j (List.getElem?_eq_some_iff.mp e).1 with z | z
  ·rw [z];exact List.mem_singleton.mpr rfl
  ·exfalso
   rcases hj with y | y
   ·rcases z _ y with w | w
    ·exact w e.symm
    ·exact w.1 rfl
   ·rcases z _ y with w | w
    ·exact w e.symm
    ·exact w.2 rfl
 ·rcases h3 x hx with z | z
  ·exact absurd e z
  ·exact z
 ·rcases h4 _ hn with z | z
  ·exact z rfl
  ·rcases z _ hc with w | w
   ·exact w rfl
   ·exact w rfl
structure Fx (X Y:Cx):Prop where
 prog:Y.prog=X.prog
 w:Y.w=X.w
 K:Y.K=X.K
 mg:Y.mg=X.mg
 base:Y.base=X.base
 A:Y.A=X.A
def Rm (X:Cx):Prop:=X.A.units+64<cLine
def Cal (X:Cx) (x:Str) (n:Nat) (den:List PySem.PyData->Res):Prop:=∃(k:Nat) (f:Addr) (fd:FuncData) (ps:List Str),FnOk X.prog X.w X.K X.mg X.base CX0 k f fd ps (spD X.K n den)/\Room k X.A/\X.mg x=some (.ref f)/\PySem.W.keepIn X.K (.ref f)=true/\Binds X.K fd ps []
def Con (X:Cx) (x:Str) (d:PySem.PyData):Prop:=∃u v,X.mg x=some u/\RelV v u/\∀H,Rep X.K H v d
section
variable {X Y:Cx} {x:Str} {m:Nat} {d:PySem.PyData}
theorem Fx.n (F:Fx X Y) (h:X.mg x=none):Y.mg x=none:=by rw [F.mg];exact h
theorem Fx.r (F:Fx X Y) (h:Rm X):Rm Y:=by unfold Rm;rw [F.A];exact h
theorem Fx.c {den:List PySem.PyData->Res} (F:Fx X Y) (h:Cal X x m den):Cal Y x m den:=by unfold Cal;rw [F.prog,F.w,F.K,F.mg,F.base,F.A];exact h
theorem Fx.h (F:Fx X Y) (h:Con X x d):Con Y x d:=by unfold Con;rw [F.mg,F.K];exact h
end
section
variable {X:Cx} {N gl:List Str} {vs cs ls lo gs:List Nat} {W:XW} {a b c e:Expr} {es:List Expr} {pos p:Pos} {fa fb fc:F1} {fl:FL} {ga gb:FB} {g1 g2:FS}
theorem cv (S:Cp X N gl vs cs ls lo gs) (i:Nat) {x:Str} (hN:N[i]?=some x) (hv:vs.contains i=true):PE X (.Name x pos) (tE X.K W (eVar i)):=by
 have m:=S.nm x (mem_of_getElem? hN)
 exact de_var (zIP (by rw [S.hN];exact hN) (S.vis i x hN hv) m.1 m.2)
theorem cm (S:Cp X N gl vs cs ls lo gs) (i:Nat) {x:Str} (hN:N[i]?=some x) (hv:vs.contains i=true):PE X (.Name x pos) (tE X.K W (eMove i)):=by
 have m:=S.nm x (mem_of_getElem? hN)
 exact de_move (zIP (by rw [S.hN];exact hN) (S.vis i x hN hv) m.1 m.2)
theorem Cp.g (S:Cp X N gl vs cs ls lo gs) {j:Nat} {x:Str} (hj:gl[j]?=some x) (hg:gs.contains j=true):Gl X x/\(x==("__debug__":Str))=false/\x ≠ "__name__":=
 ⟨S.glb j x hj hg,S.ng x (mem_of_getElem? hj)⟩
theorem ck (S:Cp X N gl vs cs ls lo gs) (j:Nat) {x:Str} {d:PySem.PyData} (hj:gl[j]?=some x) (hg:gs.contains j=true) (h:Con X x d):PE X (.Name x pos) (tE X.K W (eK d)):=by
 obtain ⟨u,v,h1,h2,h3⟩:=h
 have q:=S.g hj hg
 exact de_glob q.1 h1 h2 h3 q.2.1
def rLtA:R2:=fun x y H Q=>rI0 (fun i j=>.bl (decide (i<j))) x y H Q\/∃i j,x=.str i/\y=.str j/\Q (.bl (decide (i.cps.toList<j.cps.toList))) H
theorem ol_lt:OpR X (compareOp .Lt) rLtA:=op_lt.or op_lt_str
def gGeS:PySem.PyData->PySem.PyData->Option PySem.PyData
 | .str i,.str j=>some (.bool (!decide (i.cps.toList<j.cps.toList)))
 | _,_=>none
abbrev gGeA:PySem.PyData->PySem.PyData->Option PySem.PyData:=fun a b=>(gGe a b).or (gGeS a b)
def rGeA:R2:=fun x y H Q=>rI0 (fun i j=>.bl (decide (j<=i))) x y H Q\/∃i j,x=.str i/\y=.str j/\Q (.bl (!decide (i.cps.toList<j.cps.toList))) H
theorem op_ge_str:OpR X (compareOp .GtE) (fun x y H Q=>∃i j,x=.str i/\y=.str j/\Q (.bl (!decide (i.cps.toList<j.cps.toList))) H):=by
 intro pins s σ H x y v u Q I rx ry h
 obtain ⟨i,j,rfl,rfl,q⟩:=h
 obtain ⟨t,rfl⟩:=rx
 obtain ⟨t',rfl⟩:=ry
 exact PySem.P.ge_str (zKH I q rfl)
theorem ol_ge:OpR X (compareOp .GtE) rGeA:=op_ge.or op_ge_str
theorem gop_geS {K:Fg}:GOp K (fun x y H Q=>∃i j,x=.str i/\y=.str j/\Q (.bl (!decide (i.cps.toList<j.cps.toList))) H) gGeS:=by
 intro x y H Q a b d ra rb e k
 cases ra<;>cases rb<;>simp only [gGeS] at e<;>try cases e
 rename_i i j
 exact ⟨i,j,rfl,rfl,k _ (.bl _)⟩
theorem gop_ge {K:Fg}:GOp K rGeA gGeA:=(zIR fun _ _=>.bl _).or gop_geS
structure Ck (X:Cx) (op:CmpOp) (r:R2) (g:PySem.PyData->PySem.PyData->Option PySem.PyData):Prop where
 o:OpR X (compareOp op) r
 g:GOp X.K r g
theorem q_lt (R:Rm X):Ck X .Lt rLtA gLt:=⟨ol_lt,gop_lt⟩
theorem q_le (R:Rm X):Ck X .LtE (rI0 fun i j=>.bl (decide (i<=j))) gLe:=⟨op_le,zIR fun _ _=>.bl _⟩
theorem q_gt (R:Rm X):Ck X .Gt (rI0 fun i j=>.bl (decide (j<i))) gGt:=⟨op_gt,zIR fun _ _=>.bl _⟩
theorem q_ge (R:Rm X):Ck X .GtE rGeA gGeA:=⟨ol_ge,gop_ge⟩
theorem q_eq (R:Rm X):Ck X .Eq (rEqD X.K false) gEq:=⟨op_eqD R,gop_eq⟩
theorem q_ne (R:Rm X):Ck X .NotEq (rEqD X.K true) gNe:=⟨op_neD R,gop_ne⟩
theorem q_in (R:Rm X):Ck X .In (rInD X.K false) (gIn false):=⟨op_inD R,gop_in⟩
theorem zH4 (R:Rm X):Ck X .NotIn (rInD X.K true) (gIn true):=⟨op_notInD R,gop_in⟩
theorem ce {op:CmpOp} {r:R2} {g:PySem.PyData->PySem.PyData->Option PySem.PyData} (k:Ck X op r g) (ha:PE X a (tE X.K W fa)) (hb:PE X b (tE X.K W fb)) (hm:behindInMarks op b=false):PE X (.Compare a [op] [b] pos) (tE X.K W (eOp g fa fb)):=de_cmp k.o k.g ha hb hm
theorem ct {op:CmpOp} {r:R2} {g:PySem.PyData->PySem.PyData->Option PySem.PyData} (k:Ck X op r g) (ha:PE X a (tE X.K W fa)) (hb:PE X b (tE X.K W fb)) (hm:behindInMarks op b=false):PT X (.Compare a [op] [b] pos) (tT X.K W (bOf gBool (eOp g fa fb))):=dt_cmp k.o k.g ha hb hm
theorem ce2 {op op':CmpOp} {r r':R2} {g g':PySem.PyData->PySem.PyData->Option PySem.PyData} (k:Ck X op r g) (k':Ck X op' r' g') (ha:PE X a (tE X.K W fa)) (hb:PE X b (tE X.K W fb)) (hc:PE X c (tE X.K W fc)) (hm:lastMarks [op,op'] [b,c]=false) :
  PE X (.Compare a [op,op'] [b,c] pos) (tE X.K W (zFM g g' fa fb fc)):=de_chain k.o k.g k'.o k'.g ha hb hc hm
theorem ct2 {op op':CmpOp} {r r':R2} {g g':PySem.PyData->PySem.PyData->Option PySem.PyData} (k:Ck X op r g) (k':Ck X op' r' g') (ha:PE X a (tE X.K W fa)) (hb:PE X b (tE X.K W fb)) (hc:PE X c (tE X.K W fc)) (hm:lastMarks [op,op'] [b,c]=false) :
  PT X (.Compare a [op,op'] [b,c] pos) (tT X.K W (bOf gBool (zFM g g' fa fb fc))):=dt_chain k.o k.g k'.o k'.g ha hb hc hm
theorem cb_len (S:Cp X N gl vs cs ls lo gs) (j:Nat) (hj:gl[j]?=some ("len":Str)) (hg:gs.contains j=true) (hm:X.mg "len"=none) (ha:PA X (e::es) (tA X.K W fl)) (he:starEach (e::es) X.env=(false,eval e X.env)::starEach es X.env) (hpl:(backTo pos (starEach es X.env)).any (·.1)=false) :
  PE X (.Call (.Name "len" p) (e::es) [] pos) (tE X.K W (eCB gLen fl)):=de_bi (call_len_seq.or call_len_str) gc_len b_len hm ha (S.g hj hg).1 (S.g hj hg).2.2 (S.g hj hg).2.1 he hpl
theorem cb_all (S:Cp X N gl vs cs ls lo gs) (j:Nat) (hj:gl[j]?=some ("all":Str)) (hg:gs.contains j=true) (hm:X.mg "all"=none) (ha:PA X (e::es) (tA X.K W fl)) (he:starEach (e::es) X.env=(false,eval e X.env)::starEach es X.env) (hpl:(backTo pos (starEach es X.env)).any (·.1)=false) :
  PE X (.Call (.Name "all" p) (e::es) [] pos) (tE X.K W (eCB (gAll false) fl)):=de_bi (call_allD S.calm) gc_all b_all hm ha (S.g hj hg).1 (S.g hj hg).2.2 (S.g hj hg).2.1 he hpl
theorem cb_any (S:Cp X N gl vs cs ls lo gs) (j:Nat) (hj:gl[j]?=some ("any":Str)) (hg:gs.contains j=true) (hm:X.mg "any"=none) (ha:PA X (e::es) (tA X.K W fl)) (he:starEach (e::es) X.env=(false,eval e X.env)::starEach es X.env) (hpl:(backTo pos (starEach es X.env)).any (·.1)=false) :
  PE X (.Call (.Name "any" p) (e::es) [] pos) (tE X.K W (eCB (gAll true) fl)):=de_bi (call_anyD S.calm) gc_all b_any hm ha (S.g hj hg).1 (S.g hj hg).2.2 (S.g hj hg).2.1 he hpl
theorem cb_int (S:Cp X N gl vs cs ls lo gs) (j:Nat) (hj:gl[j]?=some ("int":Str)) (hg:gs.contains j=true) (hm:X.mg "int"=none) (ha:PA X (e::es) (tA X.K W fl)) (he:starEach (e::es) X.env=(false,eval e X.env)::starEach es X.env) (hpl:(backTo pos (starEach es X.env)).any (·.1)=false) :
  PE X (.Call (.Name "int" p) (e::es) [] pos) (tE X.K W (eCB gInt fl)):=de_ty call_int1 gc_int b_int hm ha (S.g hj hg).1 (S.g hj hg).2.2 (S.g hj hg).2.1 he hpl
theorem cb_list (S:Cp X N gl vs cs ls lo gs) (j:Nat) (hj:gl[j]?=some ("list":Str)) (hg:gs.contains j=true) (hm:X.mg "list"=none) (ha:PE X e (tE X.K W fa)) (hs:starEach [e] X.env=[(false,eval e X.env)]) :
  PE X (.Call (.Name "list" p) [e] [] pos) (tE X.K W (zCO fa)):=de_listOf hm ha (S.g hj hg).1 hs
theorem cc {x:Str} {n:Nat} {den:List PySem.PyData->Res} (S:Cp X N gl vs cs ls lo gs) (j:Nat) (hj:gl[j]?=some x) (hg:gs.contains j=true) (C:Cal X x n den) (ha:PA X (e::es) (tA X.K W fl)) (he:starEach (e::es) X.env=(false,eval e X.env)::starEach es X.env) (hpl:(backTo pos (starEach es X.env)).any (·.1)=false) :
  PE X (.Call (.Name x p) (e::es) [] pos) (tE X.K W (eCall n den fl)):=by
 obtain ⟨k,f,fd,ps,F,hr,hm,hk,hb⟩:=C
 exact de_call F hr hm hk hb ha (S.g hj hg).1 (S.g hj hg).2.1 he hpl
theorem cr1 {tg:Expr} (S:Cp X N gl vs cs ls lo gs) (j:Nat) (hj:gl[j]?=some ("range":Str)) (hg:gs.contains j=true) (hm:X.mg "range"=none) (ha:PA X [a] (tA X.K W fl)) (hs:starEach [a] X.env=[(false,eval a X.env)]) :
  PI X tg (.Call (.Name "range" p) [a] [] pos) (tI X.K W (iR1 fl)):=di_r1 hm ha (S.g hj hg).1 hs
theorem cr2 {tg:Expr} (S:Cp X N gl vs cs ls lo gs) (j:Nat) (hj:gl[j]?=some ("range":Str)) (hg:gs.contains j=true) (hm:X.mg "range"=none) (ha:PA X [a,b] (tA X.K W fl)) (hs:starEach [a,b] X.env=[(false,eval a X.env),(false,eval b X.env)]) (hs2:starEach [b] X.env=[(false,eval b X.env)]) :
  PI X tg (.Call (.Name "range" p) [a,b] [] pos) (tI X.K W (iR2 fl)):=di_r2 hm ha (S.g hj hg).1 hs hs2
abbrev Blk (X:Cx) (N gl:List Str) (vs cs ls lo gs:List Nat) (R:Cx->Prop):Prop:=∀Y:Cx,Cp Y N gl vs cs ls lo gs->Fx X Y->R Y
theorem co {scope:Scope} {x:Str} {px:Pos} {iter elt:Expr} {ifs:List Expr} {fi:FI} {fe:F1} {fc:FB} {vs' cs' lo' gs':List Nat} (S:Cp X N gl vs cs ls lo gs) (s:Sh) (i:Nat) (hx:N[i]?=some x) (h1:compB N i cs scope=true) (h2:cpB N gl vs' cs' [i] lo' gs' scope=true)
  (hi':PI X (.Name x px) iter (tI X.K W fi)) (hc:Blk X N gl vs' cs' [i] lo' gs' fun Y=>PF Y ifs (tT Y.K W0 fc)) (he:Blk X N gl vs' cs' [i] lo' gs' fun Y=>PE Y elt (tE Y.K W0 fe)) (hs:∀x,foldedSetIterable iter X.env x=pure x) :
  PE X (.ListComp elt [⟨.Name x px,iter,ifs,0⟩] scope pos) (tE X.K W (eComp s i fi fc fe)):=by
 have B:=fun cells C s₀ H₀ ex=>S.blk h2 cells C s₀ H₀ ex
 have L:=fun cells C s₀ H₀ ex=>(B cells C s₀ H₀ ex).loc i x hx (by simp)
 exact de_comp (X:=X) s i (compB_ok S h1) (by rw [S.hN];exact S.nd) hi' (fun cells C s₀ H₀ ex=>hc _ (B cells C s₀ H₀ ex) ⟨rfl,rfl,rfl,rfl,rfl,rfl⟩) (fun cells C s₀ H₀ ex=>he _ (B cells C s₀ H₀ ex) ⟨rfl,rfl,rfl,rfl,rfl,rfl⟩)
  S.calm (by rw [S.hN];exact hx) (fun cells C s₀ H₀ ex=>(L cells C s₀ H₀ ex).1) (fun cells C s₀ H₀ ex=>(L cells C s₀ H₀ ex).2) hs
theorem zHB {elt:Expr} {gens:List Comprehension} {scope:Scope} {y:Str} {pos':Pos} {line:Nat} (hk:X.env.scope.kind=.function) (hy:X.env.scope.names.lookup y=some .local) (hl:(pos'.line==pos.line)=true)
  (hn:(scope.names.any fun (n,k)=>n==y&&(k==NameKind.local||k==NameKind.cell))=false):swapsWith (.ListComp elt gens scope pos) (some (.Name y pos')) line X.env=pure true:=by
 have e1:(X.env.blockKind==ScopeKind.function)=true:=by unfold Env.blockKind;rw [hk];rfl
 have e2:(X.env.kindOf y==some NameKind.local)=true:=by unfold Env.kindOf;rw [hy];rfl
 show (pure (X.env.blockKind==.function&&X.env.kindOf y==some .local&&pos'.line==pos.line&&!(scope.names.any fun (n,k)=>n==y&&(k==NameKind.local||k==NameKind.cell))):Sem Bool)=pure true
 rw [e1,e2,hl,hn]
 rfl
theorem cs_set (S:Cp X N gl vs cs ls lo gs) (own:Bool) (i:Nat) {x:Str} {pos':Pos} (hi:N[i]?=some x) (hl:ls.contains i=true) (hs:swapsWith a (some (.Name x pos')) pos.line X.env=pure false) (ha:PE X a (tE X.K W fa)):PS X (.Assign [.Name x pos'] a pos) (tS X.K W (sSet own i fa)):=
 ds_set own i (by rw [S.hN];exact S.nd) ha (by rw [S.hN];exact hi) (S.loc i x hi hl).1 hs (S.loc i x hi hl).2
theorem cs_setComp {scope:Scope} {x y:Str} {px pos' spos:Pos} {iter elt:Expr} {ifs:List Expr} {fi:FI} {fe:F1} {fc:FB} {vs' cs' lo' gs':List Nat} (S:Cp X N gl vs cs ls lo gs) (own:Bool) (j:Nat) (s:Sh) (i:Nat) (hy:N[j]?=some y) (hyl:lo.contains j=true) (hx:N[i]?=some x)
  (hsl:(pos'.line==pos.line)=true) (hsn:(scope.names.any fun (n,k)=>n==y&&(k==NameKind.local||k==NameKind.cell))=false) (h1:compB N i cs scope=true) (h2:cpB N gl vs' cs' [i] lo' gs' scope=true)
  (hi':PI X (.Name x px) iter (tI X.K W fi)) (hc:Blk X N gl vs' cs' [i] lo' gs' fun Y=>PF Y ifs (tT Y.K W0 fc)) (he:Blk X N gl vs' cs' [i] lo' gs' fun Y=>PE Y elt (tE Y.K W0 fe)) (hs:∀x,foldedSetIterable iter X.env x=pure x) :
  PS X (.Assign [.Name y pos'] (.ListComp elt [⟨.Name x px,iter,ifs,0⟩] scope pos) spos) (tS X.K W (sSet own j (eComp s i fi fc fe))):=by
 have B:=fun cells C s₀ H₀ ex=>S.blk h2 cells C s₀ H₀ ex
 have L:=fun cells C s₀ H₀ ex=>(B cells C s₀ H₀ ex).loc i x hx (by simp)
 exact ds_setComp (X:=X) own j s i (compB_ok S h1) (by rw [S.hN];exact S.nd) hi' (fun cells C s₀ H₀ ex=>hc _ (B cells C s₀ H₀ ex) ⟨rfl,rfl,rfl,rfl,rfl,rfl⟩) (fun cells C s₀ H₀ ex=>he _ (B cells C s₀ H₀ ex) ⟨rfl,rfl,rfl,rfl,rfl,rfl⟩)
  (zHB S.kind (S.loo j y hy hyl) hsl hsn) (by rw [S.hN];exact hy) (S.loo j y hy hyl) S.calm (by rw [S.hN];exact hx) (fun cells C s₀ H₀ ex=>(L cells C s₀ H₀ ex).1) (fun cells C s₀ H₀ ex=>(L cells C s₀ H₀ ex).2) hs
theorem cs_append (S:Cp X N gl vs cs ls lo gs) (i:Nat) {x:Str} {apos cpos:Pos} (hi:N[i]?=some x) (hv:vs.contains i=true) (ha:PE X a (tE X.K W fa)) (hs:starEach [a] X.env=[(false,eval a X.env)])
  (hbase:attributeBase (.Name x p) "append" X.env (eval (.Name x p) X.env)=eval (.Name x p) X.env) (hline:(apos.endLine==cpos.line)=true)
  (hfew:((backTo cpos (starEach [a] X.env)).all (fun x=>!x.1)&&(backToKw cpos (keywordEach [] X.env)).all (fun x=>x.1.isSome)
   && decide ([a].length+([]:List Keyword).length+(if ([]:List Keyword).isEmpty then 0 else 1)<30))=true)
  (hsw:swapsWith (.Call (.Attribute (.Name x p) "append" apos) [a] [] cpos) none pos.line X.env=pure false) :
  PS X (.Expr (.Call (.Attribute (.Name x p) "append" apos) [a] [] cpos) pos) (tS X.K W (zAW i fa)):=
 ds_append i ha (by rw [S.hN];exact hi) (S.vis i x hi hv) (S.nm x (mem_of_getElem? hi)).1 (S.nm x (mem_of_getElem? hi)).2 hs hbase hline hfew hsw
theorem cs_for (S:Cp X N gl vs cs ls lo gs) (i:Nat) {x:Str} {px:Pos} {iter:Expr} {body:List Stmt} {fi:FI} {g:FS} (hx:N[i]?=some x) (hl:ls.contains i=true) (hp:PassesOwn (model X.prog X.w) X.A X.env X.xe) (hi':PI X (.Name x px) iter (tI X.K W fi)) (hb:PSs X body (tS X.K W g))
  (hs:∀x,foldedSetIterable iter X.env x=pure x):PS X (.For (.Name x px) iter body [] pos) (tS X.K W (sFor i fi g)):=
 ds_for i hp (by rw [S.hN];exact S.nd) hi' hb S.calm (by rw [S.hN];exact hx) (S.loc i x hx hl).1 (S.loc i x hx hl).2 hs
end
def gNeg:PySem.PyData->Option PySem.PyData
 | .int i=>some (.int (-i))
 | _=>none
def eRep (fa fb:F1):F1:=eBind fa fun p=>eBind fb fun q=>fun Γ=>match p.s,p.d,q.d with
 | .lst .leaf,.list ds,.int k=>if inRng k&&decide (ds.length*k.toNat<=sizeLine) then .ok ⟨.lst .leaf,.list (List.replicate k.toNat ds).flatten⟩ Γ else .no
 | _,_,_=>.no
def zFV:Option (Option PV)->Bool
 | some (some ⟨.lst .leaf,.list _⟩)=>true
 | _=>false
def setK (i:Nat) (p q:PV) (Γ:Ev):OutS:=match Γ[i]? with
 | some (some ⟨.lst .leaf,.list ds⟩)=>(match q.d with
  | .int k=>(match ixN ds.length k with
   | some j=>if T.coer .leaf p then .nx (Γ.set i (some ⟨.lst .leaf,.list (ds.set j p.d)⟩)) else .no
   | none=>.no)
  | _=>.no)
 | _=>.no
def sSetI (i:Nat) (fv fk:F1):FS:=fun Γ=>if zFV Γ[i]? then sOf fv (fun p=>sOf fk (setK i p)) Γ else .no
def sFrz (i:Nat) (g:FS):FS:=fun Γ=>match Γ[i]? with
 | some (some p)=>g (Γ.set i (some ⟨.leaf,p.d⟩))
 | _=>.no
section
variable {K:Fg} {W:XW} {σ:St} {H:Hp} {Q:VK} {D:Ends} {fa fb:F1} {fl:FL}
theorem zIF:∀{Fs:List (List Addr)},(∀F∈Fs,F=[])->Fs.flatten=[]
 | [],_=>rfl
 | F::r,h=>by rw [flatten_cons,h F mem_cons_self,zIF fun G hG=>h G (mem_cons_of_mem _ hG)];rfl
theorem Own.leaves {O:List Addr} {G:List Addr} {v:V} {ds:List PySem.PyData} (h:Own K O H (.lst .leaf) G v (.list ds)):∃l vs,v=.ref l/\G=[l]/\H l=some (.lst vs)/\vs.length=ds.length/\∀(j:Nat) u d,vs[j]?=some u->ds[j]?=some d->Rep K (hid H O) u d:=by
 cases h with
 | @lst _ l vs _ Fs hsv hp hl hf nd q=>
  have hF:∀F∈Fs,F=[]:=fun F hF=>by
   obtain ⟨j,hj,e⟩:=List.getElem_of_mem hF
   have o:=q j (vs[j]'(by omega)) (ds[j]'(by omega)) F (getElem?_eq_getElem _) (getElem?_eq_getElem _) (by rw [getElem?_eq_getElem hj,e])
   cases o
   rfl
  refine ⟨l,vs,rfl,by rw [zIF hF],hp,hl,fun j u d h1 h2=>?_⟩
  have hj:=(List.getElem?_eq_some_iff.mp h2).1
  have o:=q j u d (Fs[j]'(by omega)) h1 h2 (getElem?_eq_getElem _)
  generalize Fs[j]'(by omega)=F at o
  cases o with
  | leaf r=>exact r
theorem Own.mkLeaves {O:List Addr} {l:Addr} {vs:List V} {ds:List PySem.PyData} (hp:H l=some (.lst vs)) (hl:vs.length=ds.length) (q:∀(j:Nat) u d,vs[j]?=some u->ds[j]?=some d->Rep K (hid H O) u d):Own K O H (.lst .leaf) [l] (.ref l) (.list ds):=by
 have hF:(List.replicate ds.length ([]:List Addr)).flatten=[]:=zIF fun F hF=>(List.mem_replicate.mp hF).2
 have o:Own K O H (.lst .leaf) (l::(List.replicate ds.length ([]:List Addr)).flatten) (.ref l) (.list ds):=by
  refine .lst rfl hp hl (by simp) (by rw [hF];simp) fun j u d F h1 h2 h3=>?_
  have:F=[]:=(List.mem_replicate.mp (mem_of_getElem? h3)).2
  subst this
  exact .leaf (q j u d h1 h2)
 rw [hF] at o
 exact o
theorem tS_two {k:PV->PV->Ev->OutS} {R:V->V->Hp->Prop} (h:tS K W (sOf fa fun p=>sOf fb (k p)) D σ H)
  (hk:∀He O Γ2 p q v u H1 H2 G1 G2 Fs2,O.Nodup->Same H H1->Same H1 H2->EnvOk K He (G2++(G1++O)) Fs2 H2 σ Γ2->(∀a∈G2++G1,He a=none) ->
   Own K (G2++(G1++O)++Fs2.flatten) H2 p.s G1 v p.d->Own K (G2++(G1++O)++Fs2.flatten) H2 q.s G2 u q.d->zCJ K W He O D (k p q Γ2)->R v u H2) :
  tE K W fa σ H fun v H1=>tE K W fb σ H1 fun u H2=>R v u H2:=by
 refine tS_of h fun He O Fs Γ1 p v H1 G1 Fs1 _ fr A1 h1=>?_
 refine ⟨He,G1++O,Fs1,Γ1,A1.env,?_⟩
 unfold sOf at h1
 have nd:O.Nodup:=(List.nodup_append.mp A1.env.ndO).2.1
 cases e:fb Γ1 with
 | ok q Γ2=>
  rw [e] at h1
  intro u H2 G2 Fs2 A2
  refine hk He O Γ2 p q v u H1 H2 G1 G2 Fs2 nd A1.same A2.same A2.env (fun a ha=>?_) (A1.own.mono A2.same fun a ha=>?_) A2.own h1
  ·rcases List.mem_append.mp ha with z | z
   ·exact A2.freshG A1.env a z
   ·exact fr a z
  ·rcases List.mem_append.mp ha with z | z
   ·rcases List.mem_append.mp z with z | z
    ·rcases A2.new a (mem_append_left _ z) with y | y
     ·exact .inl (mem_append_right _ y)
     ·exact .inr y
    ·exact .inl (mem_append_left _ z)
   ·rcases A2.new a (mem_append_right _ z) with y | y
    ·exact .inl (mem_append_right _ y)
    ·exact .inr y
 | er c Γ2=>
  rw [e] at h1
  intro H2 Fs2 hs E2
  exact h1 σ H2 Fs2 E2.dropL
 | no=>
  rw [e] at h1
  exact h1
theorem tE_mono {Q':VK} (h:tE K W fa σ H Q) (hq:∀v H',Q v H'->Q' v H'):tE K W fa σ H Q':=by
 obtain ⟨He,O,Fs,Γ,E,h⟩:=h
 refine ⟨He,O,Fs,Γ,E,?_⟩
 cases e:fa Γ with
 | ok p Γ'=>rw [e] at h;exact fun v H' G Fs' A=>hq v H' (h v H' G Fs' A)
 | er c Γ'=>rw [e] at h;exact h
 | no=>rw [e] at h;exact h
theorem EnvOk.chg {He:Hp} {O:List Addr} {Fs:List (List Addr)} {Γ:Ev} {i:Nat} {ds:List PySem.PyData} (E:EnvOk K He O Fs H σ Γ) (h:Γ[i]?=some (some ⟨.lst .leaf,.list ds⟩)) :
  ∃l vs,σ[i]?=some (some (.ref l))/\H l=some (.lst vs)/\vs.length=ds.length/\(∀(j:Nat) u d,vs[j]?=some u->ds[j]?=some d->Rep K (hid H (O++Fs.flatten)) u d) /\
   ∀(vs':List V) (ds':List PySem.PyData),vs'.length=ds'.length->(∀(j:Nat) u d,vs'[j]?=some u->ds'[j]?=some d->Rep K (hid H (O++Fs.flatten)) u d)->∃Fs',EnvOk K He O Fs' (upd H l (.lst vs')) σ (Γ.set i (some ⟨.lst .leaf,.list ds'⟩)):=by
 obtain ⟨hv,v,F,h1,E1,o1,sub⟩:=E.move h
 have hi:i<Γ.length:=(List.getElem?_eq_some_iff.mp h).1
 obtain ⟨_,v0,F0,h10,h20,o0⟩:=E.slot i _ h
 obtain ⟨l,vs,rfl,rfl,hp,hl,hr⟩:=o1.leaves
 obtain ⟨l',vs',e0,e1,hp',hl',hr'⟩:=o0.leaves
 rw [h1] at h10
 cases h10
 cases e0
 rw [hp] at hp'
 cases hp'
 refine ⟨l,vs,h1,hp,hl,hr',fun ws ds' hw q=>?_⟩
 have hlF:l∈Fs.flatten:=sub l (mem_append_left _ (List.mem_singleton.mpr rfl))
 have hHe:He l=none:=E.fresh l hlF
 have E4:=E1.mutO (o:=.lst ws) (mem_append_left _ (List.mem_singleton.mpr rfl)) hp hHe
 have ownL:Own K ([l]++O++(Fs.set i []).flatten) (upd H l (.lst ws)) (.lst .leaf) [l] (.ref l) (.list ds'):=by
  refine Own.mkLeaves zAU hw fun j u d a1 a2=>?_
  rw [zJ1 (mem_append_left _ (mem_append_left _ (List.mem_singleton.mpr rfl)))]
  refine (q j u d a1 a2).mono (zB2 (Same.refl _) fun a ha=>.inl ?_)
  rcases List.mem_append.mp ha with z | z
  ·rcases List.mem_append.mp z with z | z
   ·rw [List.mem_singleton.mp z];exact mem_append_right _ hlF
   ·exact mem_append_left _ z
  ·exact mem_append_right _ (sub a (mem_append_right _ z))
 have fin:=EnvOk.put (i:=i) (p:=⟨.lst .leaf,.list ds'⟩) (v:=.ref l) E4 ownL rfl (fun a ha=>by rw [List.mem_singleton.mp ha];exact hHe) (by rw [length_set];exact hi)
 rw [set_set,set_set,zC8 h1] at fin
 exact ⟨_,fin⟩
theorem isOwnLf_eq {o:Option (Option PV)} (h:zFV o=true):∃ds,o=some (some ⟨.lst .leaf,.list ds⟩):=by
 unfold zFV at h
 split at h
 ·exact ⟨_,rfl⟩
 ·cases h
theorem rd_setI {i:Nat} (h:tS K W (sSetI i fa fb) D σ H):tAsg (tE K W fa) (L2.gSub (tVar i) (tE K W fb) rSetL) D σ H:=by
 obtain ⟨He,O,Fs,Γ,E,h⟩:=h
 unfold sSetI at h
 cases ho:zFV Γ[i]? with
 | false=>rw [ho] at h;exact h.elim
 | true=>
  rw [ho] at h
  obtain ⟨ds,e0⟩:=isOwnLf_eq ho
  obtain ⟨l,vs,h1,h2,h3,_,_⟩:=E.chg e0
  refine tE_mono (tS_two (D:=D) (R:=fun v u H2=>rSetL (.ref l) u v H2 fun H3=>D.nx σ H3) ⟨He,O,Fs,Γ,E,h⟩ fun He O Γ2 p q v u H1 H2 G1 G2 Fs2 nd s1 s2 E2 fr o1 o2 w=>?_) fun v H' q=>⟨.ref l,h1,q⟩
  unfold setK at w
  split at w
  ·rename_i ds1 e1
   split at w
   ·rename_i k ek
    split at w
    ·rename_i j ej
     cases hc:T.coer .leaf p with
     | false=>rw [hc] at w;exact w.elim
     | true=>
      rw [hc] at w
      have E3:EnvOk K He O Fs2 H2 σ Γ2:=E2.drop (fun a ha=>mem_append_right _ (mem_append_right _ ha)) nd
      obtain ⟨l1,vs1,q1,q2,q3,q4,q5⟩:=E3.chg e1
      rw [h1] at q1
      cases q1
      have hu:=o2.rep
      rw [ek] at hu
      cases hu
      have ov:Own K (O++Fs2.flatten) H2 .leaf [] v p.d:=by
       refine o1.coer (s:=.leaf) hc (fun a ha=>?_) fun a ha z=>?_
       ·rcases List.mem_append.mp ha with z | z
        ·exact mem_append_left _ (mem_append_right _ (mem_append_right _ z))
        ·exact mem_append_right _ z
       ·exfalso
        have ndE:=E2.nd
        rw [append_assoc] at ndE
        have n2:=(List.nodup_append.mp ndE).2.1
        rw [append_assoc] at n2
        exact (List.nodup_append.mp n2).2.2 a ha a z rfl
      cases ov with
      | leaf rv=>
       have ixl:ixN vs1.length k=some j:=by rw [q3];exact ej
       obtain ⟨Fs',E4⟩:=q5 (vs1.set j v) (ds1.set j p.d) (by rw [length_set,length_set,q3]) fun m x d a1 a2=>by
        by_cases hm:m=j
        ·subst hm
         rw [getElem?_set] at a1 a2
         rw [if_pos rfl] at a1 a2
         split at a1
         ·split at a2
          ·cases a1;cases a2;exact rv
          ·cases a2
         ·cases a1
        ·rw [getElem?_set_ne (Ne.symm hm)] at a1 a2
         exact q4 m x d a1 a2
       exact ⟨l,vs1,k,j,rfl,rfl,q2,ixl,w σ _ Fs' E4⟩
    ·exact w.elim
   ·exact w.elim
  ·exact w.elim
theorem rd_frz {i:Nat} {g:FS} (h:tS K W (sFrz i g) D σ H):tS K W g D σ H:=by
 obtain ⟨He,O,Fs,Γ,E,h⟩:=h
 unfold sFrz at h
 split at h
 ·rename_i p e0
  obtain ⟨hv,v,F,h1,E1,o1,sub⟩:=E.move e0
  have hi:i<Γ.length:=(List.getElem?_eq_some_iff.mp e0).1
  have c:T.coer .leaf p=true:=by show (!p.s.isView||scalD p.d)=true;rw [hv];rfl
  have o:=o1.coer (s:=.leaf) (O':=O++(Fs.set i []).flatten) c sub3 fun a ha z=>by
   exfalso
   have nd:=E1.nd
   rw [append_assoc] at nd
   exact (List.nodup_append.mp nd).2.2 a ha a z rfl
  have E2:EnvOk K He O ((Fs.set i []).set i []) H (σ.set i (some v)) ((Γ.set i none).set i (some ⟨.leaf,p.d⟩)):=
   EnvOk.put (G:=[]) (p:=⟨.leaf,p.d⟩) (v:=v) (by rw [nil_append];exact E1.dropL) (by rw [nil_append];exact o) rfl (fun a ha=>by simp at ha) (by rw [length_set];exact hi)
  rw [set_set,set_set,zC8 h1] at E2
  exact ⟨He,O,_,_,E2,h⟩
 ·exact h.elim
end
section
variable {P:Program} {w:World} {K:Fg} {mg:Str->Option Value} {base:Heap}
end
section
variable {K:Fg} {W:XW} {σ:St} {H:Hp} {Q:VK} {D:Ends} {fa fb:F1} {fl:FL}
end
section
variable {X:Cx}
end
section
variable {X:Cx}
end
section
variable {X:Cx}
variable {N gl:List Str} {vs cs ls lo gs:List Nat} {W:XW} {a b c e:Expr} {es:List Expr} {pos p:Pos} {fa fb fc:F1} {fl:FL} {g:FS}
theorem cs_setI (S:Cp X N gl vs cs ls lo gs) (i:Nat) {x:Str} {px pos':Pos} (hi:N[i]?=some x) (hv:vs.contains i=true) (ha:PE X a (tE X.K W fa)) (hb:PE X b (tE X.K W fb))
  (hs:swapsWithSole [.Subscript (.Name x px) b pos'] a pos.line X.env=pure false) (hw:swappedStores [.Subscript (.Name x px) b pos'] a X.env=pure none)
  (h1:(assignEach [.Subscript (.Name x px) b pos'] X.env).map (·.2)=[assign (.Subscript (.Name x px) b pos') X.env])
  (has:∀v,assign (.Subscript (.Name x px) b pos') X.env v=(do
   let ov <-holding [v] (eval (.Name x px) X.env)
   let iv <-holding [v,ov] (eval b X.env)
   standAt pos'
   holding [v,ov,iv] (setItem ov iv v)
   release [v,ov,iv] [])):PS X (.Assign [.Subscript (.Name x px) b pos'] a pos) (tS X.K W (sSetI i fa fb)):=by
 have m:=S.nm x (mem_of_getElem? hi)
 exact PSimp (ps_asg ha (pg_sub (zIP (by rw [S.hN];exact hi) (S.vis i x hi hv) m.1 m.2) hb set_list has) hs hw h1) fun _ _ _=>rd_setI
theorem cs_frz (i:Nat) {sts:List Stmt} (h:PSs X sts (tS X.K W g)):PSs X sts (tS X.K W (sFrz i g)):=zKR h fun _ _ _=>rd_frz
end
def zKE:Expr->Bool
 | .Starred ..=>true
 | _=>false
theorem zAA {e:Expr} {es:List Expr} {env:Env} (h:zKE e=false):starEach (e::es) env=(false,eval e env)::starEach es env:=by
 cases e<;>first | rfl | cases h
theorem zAR {a:Expr} {env:Env} (h:zKE a=false):starEach [a] env=[(false,eval a env)]:=zAA h
theorem star_two {a b:Expr} {env:Env} (h:zKE a=false) (h2:zKE b=false):starEach [a,b] env=[(false,eval a env),(false,eval b env)]:=by rw [zAA h,zAR h2]
def DefOk (P:Program) (w:World) (K:Fg) (mg:Str->Option Value) (base:Heap) (j:Nat) (x:Str) (n:Nat) (den:List PySem.PyData->Res):Prop:=
 ∃(f:Addr) (fd:FuncData) (ps:List Str),FnOk P w K mg base CX0 j f fd ps (spD K n den)/\mg x=some (.ref f)/\PySem.W.keepIn K (.ref f)=true/\Binds K fd ps []
def ConK (K:Fg) (mg:Str->Option Value) (x:Str) (d:PySem.PyData):Prop:=∃u v,mg x=some u/\RelV v u/\∀H,Rep K H v d
theorem DefOk.cal {X:Cx} {j k n:Nat} {x:Str} {den:List PySem.PyData->Res} (h:DefOk X.prog X.w X.K X.mg X.base j x n den) (hr:Room k X.A) (hj:decide (j<=k)=true):Cal X x n den:=by
 obtain ⟨f,fd,ps,F,a,b,c⟩:=h
 exact ⟨j,f,fd,ps,F,hr.mono (of_decide_eq_true hj),a,b,c⟩
def toV:PySem.PyData->V
 | .none=>.non
 | .bool b=>.bl b
 | .int i=>.int i
 | .str x=>.str x
 | _=>.non
def chkV:List Value->List PySem.PyData->Bool
 | .int i _::r,.int j::ds=>decide (i=j)&&chkV r ds
 | .str x _::r,.str y::ds=>decide (x=y)&&chkV r ds
 | [],[]=>true
 | _,_=>false
theorem zJ5:∀{us:List Value} {ds:List PySem.PyData},chkV us ds=true->Vals (ds.map toV) us/\∀d∈ds,Sc (toV d) d
 | [],[],_=>⟨.nil,fun d hd=>(nomatch hd)⟩
 | .int i t::r,.int j::ds,h=>by
  simp only [chkV,Bool.and_eq_true,decide_eq_true_eq] at h
  obtain ⟨rfl,h⟩:=h
  obtain ⟨a,b⟩:=zJ5 h
  refine ⟨.cons ⟨t,rfl⟩ a,fun d hd=>?_⟩
  rcases List.mem_cons.mp hd with z | z
  ·rw [z];exact .int i
  ·exact b d z
 | .str i t::r,.str j::ds,h=>by
  simp only [chkV,Bool.and_eq_true,decide_eq_true_eq] at h
  obtain ⟨rfl,h⟩:=h
  obtain ⟨a,b⟩:=zJ5 h
  refine ⟨.cons ⟨t,rfl⟩ a,fun d hd=>?_⟩
  rcases List.mem_cons.mp hd with z | z
  ·rw [z];exact .str i
  ·exact b d z
def chkT (its:Array Value) (ds:List PySem.PyData):Bool:=decide (its.size<=sizeLine)&&chkV its.toList ds
theorem con_tup {K:Fg} {mg:Str->Option Value} {x:Str} {a:Addr} {dd:Option Addr} {its:Array Value} {n:Nat} {sl:Array (Option Value)} {ds:List PySem.PyData} (hm:mg x=some (.ref a)) (l:K.lookup a=some ⟨.type "tuple",dd,.seq its n,sl⟩) (h:chkT its ds=true):ConK K mg x (.tuple ds):=by
 unfold chkT at h
 simp only [Bool.and_eq_true,decide_eq_true_eq] at h
 obtain ⟨v,s⟩:=zJ5 h.2
 refine ⟨.ref a,.ref a,hm,rfl,fun H=>.tup (vs:=ds.map toV) (.inr ⟨_,its,n,l,rfl,rfl,h.1,v⟩) (by simp) fun i v d h1 h2=>?_⟩
 rw [getElem?_map,h2] at h1
 cases h1
 exact (s d (mem_of_getElem? h2)).rep
theorem con_int {K:Fg} {mg:Str->Option Value} {x:Str} {i:Int} {t:Tok} (hm:mg x=some (.int i t)):ConK K mg x (.int i):=⟨.int i t,.int i,hm,⟨t,rfl⟩,fun H=>.int i⟩
theorem law_sp {K:Fg} {m:List PySem.PyData->Res} {H:Hp} {a:Addr} {ns:List Int} {E:XK} (h:m [.list (ns.map .int)]=.ok ⟨.leaf,.bool true⟩) (hS:SqL K H a (ns.map V.int)):spD K 1 m [.ref a] H (fun v _=>v=.bl true) E:=by
 refine ⟨rfl,[],[.list (ns.map .int)],nodup_nil,(fun _ z=>nomatch z),⟨rfl,fun i v d h1 h2=>?_⟩,?_⟩
 ·rw [zJ2]
  match i,h1,h2 with
  | 0,h1,h2=>
   cases h1
   cases h2
   refine .lst hS (by simp) fun i v d h1 h2=>?_
   rw [getElem?_map] at h1 h2
   cases e:ns[i]? with
   | none=>rw [e] at h1;cases h1
   | some z=>
    rw [e] at h1 h2
    cases h1
    cases h2
    exact .int z
  | i+1,h1,h2=>simp at h1
 ·rw [h]
  intro v H' G r
  have o:=r.own.rep
  cases o
  rfl
end T
namespace TQ
open PySem PySem.Spec L2 T
open PyProof.Rows hiding St
structure Q (p:Prop):Prop where
 p:p
section
variable {X:Cx} {N gl:List Str} {vs cs ls lo gs:List Nat} {W:XW} {a b c e:Expr} {es:List Expr} {pos p:Pos} {fa fb fc:F1} {fl:FL} {ga gb:FB} {g1 g2 g:FS}
theorem w_cv (S:Cp X N gl vs cs ls lo gs) (i:Nat) {x:Str} (hN:N[i]?=some x) (hv:vs.contains i=true):Q (PE X (.Name x pos) (tE X.K W (eVar i))):=⟨T.cv S i hN hv⟩
theorem w_cm (S:Cp X N gl vs cs ls lo gs) (i:Nat) {x:Str} (hN:N[i]?=some x) (hv:vs.contains i=true):Q (PE X (.Name x pos) (tE X.K W (eMove i))):=⟨T.cm S i hN hv⟩
theorem w_ck (S:Cp X N gl vs cs ls lo gs) (j:Nat) {x:Str} {d:PySem.PyData} (hj:gl[j]?=some x) (hg:gs.contains j=true) (h:Con X x d):Q (PE X (.Name x pos) (tE X.K W (eK d))):=⟨T.ck S j hj hg h⟩
theorem zAF {j:Int} {k pos}:Q (PE X (.Constant (.int j) k pos) (tE X.K W (eK (.int j)))):=⟨T.de_int ⟩
theorem zBT {j:Bool} {k pos}:Q (PE X (.Constant (.bool j) k pos) (tE X.K W (eK (.bool j)))):=⟨T.de_bool ⟩
theorem zAX {k pos}:Q (PE X (.Constant .none k pos) (tE X.K W (eK .none))):=⟨T.de_none ⟩
theorem zBE (ha:Q (PE X a (tE X.K W fa))) (hb:Q (PE X b (tE X.K W fb))):Q (PE X (.BinOp a .Add b pos) (tE X.K W (eOp gAddI fa fb))):=⟨T.de_addI ha.p hb.p⟩
theorem zGA (ha:Q (PE X a (tE X.K W fa))) (hb:Q (PE X b (tE X.K W fb))):Q (PE X (.BinOp a .Sub b pos) (tE X.K W (eOp gSub fa fb))):=⟨T.de_sub ha.p hb.p⟩
theorem zGX (ha:Q (PE X a (tE X.K W fa))) (hb:Q (PE X b (tE X.K W fb))):Q (PE X (.BinOp a .Mult b pos) (tE X.K W (eOp gMul fa fb))):=⟨T.de_mul ha.p hb.p⟩
theorem w_de_div (ha:Q (PE X a (tE X.K W fa))) (hb:Q (PE X b (tE X.K W fb))):Q (PE X (.BinOp a .FloorDiv b pos) (tE X.K W (eOp gDiv fa fb))):=⟨T.de_div ha.p hb.p⟩
theorem zD7 (ha:Q (PE X a (tE X.K W fa))) (hb:Q (PE X b (tE X.K W fb))):Q (PE X (.BinOp a .Mod b pos) (tE X.K W (eOp gMod fa fb))):=⟨T.de_mod ha.p hb.p⟩
theorem w_de_pow (ha:Q (PE X a (tE X.K W fa))) (hb:Q (PE X b (tE X.K W fb))):Q (PE X (.BinOp a .Pow b pos) (tE X.K W (eOp gPow fa fb))):=⟨T.de_pow ha.p hb.p⟩
theorem w_ce {op:CmpOp} {r:R2} {g:PySem.PyData->PySem.PyData->Option PySem.PyData} (k:Ck X op r g) (ha:Q (PE X a (tE X.K W fa))) (hb:Q (PE X b (tE X.K W fb))) (hm:behindInMarks op b=false):Q (PE X (.Compare a [op] [b] pos) (tE X.K W (eOp g fa fb))):=⟨T.ce k ha.p hb.p hm⟩
theorem w_ce2 {op op':CmpOp} {r r':R2} {g g':PySem.PyData->PySem.PyData->Option PySem.PyData} (k:Ck X op r g) (k':Ck X op' r' g') (ha:Q (PE X a (tE X.K W fa))) (hb:Q (PE X b (tE X.K W fb))) (hc:Q (PE X c (tE X.K W fc))) (hm:lastMarks [op,op'] [b,c]=false):Q (PE X (.Compare a [op,op'] [b,c] pos) (tE X.K W (zFM g g' fa fb fc))):=⟨T.ce2 k k' ha.p hb.p hc.p hm⟩
theorem zF8 {op} (h:Q (PE X a (tE X.K W fa))):Q (PE X (.BoolOp op [a] pos) (tE X.K W fa)):=⟨L2.pe_one h.p⟩
theorem zE3 (ha:Q (PE X a (tE X.K W fa))) (hb:Q (PE X (.BoolOp .And (b::es) pos) (tE X.K W fb))):Q (PE X (.BoolOp .And (a::b::es) pos) (tE X.K W (eAnd fa fb))):=⟨T.de_and ha.p hb.p⟩
theorem zHZ (hc:Q (PT X c (tT X.K W ga))) (ha:Q (PE X a (tE X.K W fa))) (hb:Q (PE X b (tE X.K W fb))):Q (PE X (.IfExp c a b pos) (tE X.K W (eIf ga fa fb))):=⟨T.de_if hc.p ha.p hb.p⟩
theorem zAI (ha:Q (PE X a (tE X.K W fa))) (hb:Q (PE X b (tE X.K W fb))) (hs:zJ7 b):Q (PE X (.Subscript a b pos) (tE X.K W (eIdx fa fb))):=⟨T.de_idx ha.p hb.p hs⟩
theorem zA2 (s:Sh) (h:Q (PA X es (tA X.K W fl))):Q (PE X (.List es pos) (tE X.K W (eList s fl))):=⟨T.de_list s h.p⟩
theorem zC6 {x1} (h:Q (PA X es (tA X.K W fl))):Q (PE X (.Tuple es x1 pos) (tE X.K W (eTup fl))):=⟨T.de_tup h.p⟩
theorem zAD :Q (PA X [] (tA X.K W eNil)):=⟨T.da_nil ⟩
theorem zAB (ha:Q (PE X e (tE X.K W fa))) (hr:Q (PA X es (tA X.K W fl))) (hs:starEach (e::es) X.env=(false,eval e X.env)::starEach es X.env):Q (PA X (e::es) (tA X.K W (eCons fa fl))):=⟨T.da_cons ha.p hr.p hs⟩
theorem w_co {scope:Scope} {x:Str} {px:Pos} {iter elt:Expr} {ifs:List Expr} {fi:FI} {fe:F1} {fc:FB} {vs' cs' lo' gs':List Nat} (S:Cp X N gl vs cs ls lo gs) (s:Sh) (i:Nat) (hx:N[i]?=some x) (h1:compB N i cs scope=true) (h2:cpB N gl vs' cs' [i] lo' gs' scope=true) (hi':Q (PI X (.Name x px) iter (tI X.K W fi))) (hc:Blk X N gl vs' cs' [i] lo' gs' fun Y=>Q (PF Y ifs (tT Y.K W0 fc))) (he:Blk X N gl vs' cs' [i] lo' gs' fun Y=>Q (PE Y elt (tE Y.K W0 fe))) (hs:∀x,foldedSetIterable iter X.env x=pure x):Q (PE X (.ListComp elt [⟨.Name x px,iter,ifs,0⟩] scope pos) (tE X.K W (eComp s i fi fc fe))):=⟨T.co S s i hx h1 h2 hi'.p (fun Y S F=>(hc Y S F).p) (fun Y S F=>(he Y S F).p) hs⟩
theorem zFO {scope:Scope} {x y:Str} {px pos' spos:Pos} {iter elt:Expr} {ifs:List Expr} {fi:FI} {fe:F1} {fc:FB} {vs' cs' lo' gs':List Nat} (S:Cp X N gl vs cs ls lo gs) (own:Bool) (j:Nat) (s:Sh) (i:Nat) (hy:N[j]?=some y) (hyl:lo.contains j=true) (hx:N[i]?=some x) (hsl:(pos'.line==pos.line)=true) (hsn:(scope.names.any fun (n,k)=>n==y&&(k==NameKind.local||k==NameKind.cell))=false) (h1:compB N i cs scope=true) (h2:cpB N gl vs' cs' [i] lo' gs' scope=true) (hi':Q (PI X (.Name x px) iter (tI X.K W fi))) (hc:Blk X N gl vs' cs' [i] lo' gs' fun Y=>Q (PF Y ifs (tT Y.K W0 fc))) (he:Blk X N gl vs' cs' [i] lo' gs' fun Y=>Q (PE Y elt (tE Y.K W0 fe))) (hs:∀x,foldedSetIterable iter X.env x=pure x):Q (PS X (.Assign [.Name y pos'] (.ListComp elt [⟨.Name x px,iter,ifs,0⟩] scope pos) spos) (tS X.K W (sSet own j (eComp s i fi fc fe)))):=⟨T.cs_setComp S own j s i hy hyl hx hsl hsn h1 h2 hi'.p (fun Y S F=>(hc Y S F).p) (fun Y S F=>(he Y S F).p) hs⟩
theorem zA9 (S:Cp X N gl vs cs ls lo gs) (j:Nat) (hj:gl[j]?=some ("len":Str)) (hg:gs.contains j=true) (hm:X.mg "len"=none) (ha:Q (PA X (e::es) (tA X.K W fl))) (he:starEach (e::es) X.env=(false,eval e X.env)::starEach es X.env) (hpl:(backTo pos (starEach es X.env)).any (·.1)=false):Q (PE X (.Call (.Name "len" p) (e::es) [] pos) (tE X.K W (eCB gLen fl))):=⟨T.cb_len S j hj hg hm ha.p he hpl⟩
theorem zD8 (S:Cp X N gl vs cs ls lo gs) (j:Nat) (hj:gl[j]?=some ("all":Str)) (hg:gs.contains j=true) (hm:X.mg "all"=none) (ha:Q (PA X (e::es) (tA X.K W fl))) (he:starEach (e::es) X.env=(false,eval e X.env)::starEach es X.env) (hpl:(backTo pos (starEach es X.env)).any (·.1)=false):Q (PE X (.Call (.Name "all" p) (e::es) [] pos) (tE X.K W (eCB (gAll false) fl))):=⟨T.cb_all S j hj hg hm ha.p he hpl⟩
theorem w_cb_any (S:Cp X N gl vs cs ls lo gs) (j:Nat) (hj:gl[j]?=some ("any":Str)) (hg:gs.contains j=true) (hm:X.mg "any"=none) (ha:Q (PA X (e::es) (tA X.K W fl))) (he:starEach (e::es) X.env=(false,eval e X.env)::starEach es X.env) (hpl:(backTo pos (starEach es X.env)).any (·.1)=false):Q (PE X (.Call (.Name "any" p) (e::es) [] pos) (tE X.K W (eCB (gAll true) fl))):=⟨T.cb_any S j hj hg hm ha.p he hpl⟩
theorem w_cb_int (S:Cp X N gl vs cs ls lo gs) (j:Nat) (hj:gl[j]?=some ("int":Str)) (hg:gs.contains j=true) (hm:X.mg "int"=none) (ha:Q (PA X (e::es) (tA X.K W fl))) (he:starEach (e::es) X.env=(false,eval e X.env)::starEach es X.env) (hpl:(backTo pos (starEach es X.env)).any (·.1)=false):Q (PE X (.Call (.Name "int" p) (e::es) [] pos) (tE X.K W (eCB gInt fl))):=⟨T.cb_int S j hj hg hm ha.p he hpl⟩
theorem zGY (S:Cp X N gl vs cs ls lo gs) (j:Nat) (hj:gl[j]?=some ("list":Str)) (hg:gs.contains j=true) (hm:X.mg "list"=none) (ha:Q (PE X e (tE X.K W fa))) (hs:starEach [e] X.env=[(false,eval e X.env)]):Q (PE X (.Call (.Name "list" p) [e] [] pos) (tE X.K W (zCO fa))):=⟨T.cb_list S j hj hg hm ha.p hs⟩
theorem w_cc {x:Str} {n:Nat} {den:List PySem.PyData->Res} (S:Cp X N gl vs cs ls lo gs) (j:Nat) (hj:gl[j]?=some x) (hg:gs.contains j=true) (C:Cal X x n den) (ha:Q (PA X (e::es) (tA X.K W fl))) (he:starEach (e::es) X.env=(false,eval e X.env)::starEach es X.env) (hpl:(backTo pos (starEach es X.env)).any (·.1)=false):Q (PE X (.Call (.Name x p) (e::es) [] pos) (tE X.K W (eCall n den fl))):=⟨T.cc S j hj hg C ha.p he hpl⟩
theorem w_cr1 {tg:Expr} (S:Cp X N gl vs cs ls lo gs) (j:Nat) (hj:gl[j]?=some ("range":Str)) (hg:gs.contains j=true) (hm:X.mg "range"=none) (ha:Q (PA X [a] (tA X.K W fl))) (hs:starEach [a] X.env=[(false,eval a X.env)]):Q (PI X tg (.Call (.Name "range" p) [a] [] pos) (tI X.K W (iR1 fl))):=⟨T.cr1 S j hj hg hm ha.p hs⟩
theorem w_cr2 {tg:Expr} (S:Cp X N gl vs cs ls lo gs) (j:Nat) (hj:gl[j]?=some ("range":Str)) (hg:gs.contains j=true) (hm:X.mg "range"=none) (ha:Q (PA X [a,b] (tA X.K W fl))) (hs:starEach [a,b] X.env=[(false,eval a X.env),(false,eval b X.env)]) (hs2:starEach [b] X.env=[(false,eval b X.env)]):Q (PI X tg (.Call (.Name "range" p) [a,b] [] pos) (tI X.K W (iR2 fl))):=⟨T.cr2 S j hj hg hm ha.p hs hs2⟩
theorem zA8 {tg:Expr} (ha:Q (PE X a (tE X.K W fa))):Q (PI X tg a (tI X.K W (iSeq fa))):=⟨T.di_seq ha.p⟩
theorem w_ct {op:CmpOp} {r:R2} {g:PySem.PyData->PySem.PyData->Option PySem.PyData} (k:Ck X op r g) (ha:Q (PE X a (tE X.K W fa))) (hb:Q (PE X b (tE X.K W fb))) (hm:behindInMarks op b=false):Q (PT X (.Compare a [op] [b] pos) (tT X.K W (bOf gBool (eOp g fa fb)))):=⟨T.ct k ha.p hb.p hm⟩
theorem w_ct2 {op op':CmpOp} {r r':R2} {g g':PySem.PyData->PySem.PyData->Option PySem.PyData} (k:Ck X op r g) (k':Ck X op' r' g') (ha:Q (PE X a (tE X.K W fa))) (hb:Q (PE X b (tE X.K W fb))) (hc:Q (PE X c (tE X.K W fc))) (hm:lastMarks [op,op'] [b,c]=false):Q (PT X (.Compare a [op,op'] [b,c] pos) (tT X.K W (bOf gBool (zFM g g' fa fb fc)))):=⟨T.ct2 k k' ha.p hb.p hc.p hm⟩
theorem zF9 (ha:Q (PT X a (tT X.K W ga))):Q (PT X (.UnaryOp .Not a pos) (tT X.K W (bNot ga))):=⟨T.dt_not ha.p⟩
theorem zDO (ha:Q (PT X a (tT X.K W ga))):Q (PW X (.BoolOp .And [a] pos) (tT X.K W ga)):=⟨T.dw_and1 ha.p⟩
theorem w_dw_or1 (ha:Q (PT X a (tT X.K W ga))):Q (PW X (.BoolOp .Or [a] pos) (tT X.K W ga)):=⟨T.dw_or1 ha.p⟩
theorem zE2 (ha:Q (PT X a (tT X.K W ga))) (hb:Q (PW X (.BoolOp .And (b::es) pos) (tT X.K W gb))):Q (PW X (.BoolOp .And (a::b::es) pos) (tT X.K W (bAnd ga gb))):=⟨T.dw_and ha.p hb.p⟩
theorem zIT (ha:Q (PT X a (tT X.K W ga))) (hb:Q (PW X (.BoolOp .Or (b::es) pos) (tT X.K W gb))):Q (PW X (.BoolOp .Or (a::b::es) pos) (tT X.K W (bOr ga gb))):=⟨T.dw_or ha.p hb.p⟩
theorem zE1 (h:Q (PW X a (tT X.K W ga))):Q (PT X a (tT X.K W ga)):=⟨L2.PW.pt h.p⟩
theorem zB4 (ha:Q (PE X a (tE X.K W fa))) (he:∀whole,isTrue a X.env whole=(do let v <-whole;standAt a.pos;holding [v] (truthy v))):Q (PT X a (tT X.K W (bOf gTru fa))):=⟨T.dt_tru ha.p he⟩
theorem zA3 :Q (PSs X [] (tS X.K W sNext)):=⟨T.ds_nil ⟩
theorem zAJ {st:Stmt} (h1:Q (PS X st (tS X.K W g1))):Q (PSs X [st] (tS X.K W g1)):=⟨T.ds_one h1.p⟩
theorem zAG {st:Stmt} {rest:List Stmt} (h1:Q (PS X st (tS X.K W g1))) (h2:Q (PSs X rest (tS X.K W g2))):Q (PSs X (st::rest) (tS X.K W (sSeq g1 g2))):=⟨T.ds_cons h1.p h2.p⟩
theorem zIU (i:Nat) {sts:List Stmt} (h:Q (PSs X sts (tS X.K W g))):Q (PSs X sts (tS X.K W (sFrz i g))):=⟨T.cs_frz i h.p⟩
theorem zAN (ha:Q (PE X a (tE X.K W fa))):Q (PS X (.Return (some a) pos) (tS X.K W (sRet fa))):=⟨T.ds_ret ha.p⟩
theorem zBI {A B:List Stmt} (hc:Q (PT X c (tT X.K W ga))) (ha:Q (PSs X A (tS X.K W g1))) (hb:Q (PSs X B (tS X.K W g2))):Q (PS X (.If c A B pos) (tS X.K W (sIf ga g1 g2))):=⟨T.ds_if hc.p ha.p hb.p⟩
theorem zC7 (S:Cp X N gl vs cs ls lo gs) (i:Nat) {x:Str} {px:Pos} {iter:Expr} {body:List Stmt} {fi:FI} {g:FS} (hx:N[i]?=some x) (hl:ls.contains i=true) (hp:PassesOwn (model X.prog X.w) X.A X.env X.xe) (hi':Q (PI X (.Name x px) iter (tI X.K W fi))) (hb:Q (PSs X body (tS X.K W g))) (hs:∀x,foldedSetIterable iter X.env x=pure x):Q (PS X (.For (.Name x px) iter body [] pos) (tS X.K W (sFor i fi g))):=⟨T.cs_for S i hx hl hp hi'.p hb.p hs⟩
theorem zAM (S:Cp X N gl vs cs ls lo gs) (own:Bool) (i:Nat) {x:Str} {pos':Pos} (hi:N[i]?=some x) (hl:ls.contains i=true) (hs:swapsWith a (some (.Name x pos')) pos.line X.env=pure false) (ha:Q (PE X a (tE X.K W fa))):Q (PS X (.Assign [.Name x pos'] a pos) (tS X.K W (sSet own i fa))):=⟨T.cs_set S own i hi hl hs ha.p⟩
theorem w_cs_setI (S:Cp X N gl vs cs ls lo gs) (i:Nat) {x:Str} {px pos':Pos} (hi:N[i]?=some x) (hv:vs.contains i=true) (ha:Q (PE X a (tE X.K W fa))) (hb:Q (PE X b (tE X.K W fb))) (hs:swapsWithSole [.Subscript (.Name x px) b pos'] a pos.line X.env=pure false) (hw:swappedStores [.Subscript (.Name x px) b pos'] a X.env=pure none) (h1:(assignEach [.Subscript (.Name x px) b pos'] X.env).map (·.2)=[assign (.Subscript (.Name x px) b pos') X.env]) (has:∀v,assign (.Subscript (.Name x px) b pos') X.env v=(do
   let ov <-holding [v] (eval (.Name x px) X.env)
   let iv <-holding [v,ov] (eval b X.env)
   standAt pos'
   holding [v,ov,iv] (setItem ov iv v)
   release [v,ov,iv] [])):Q (PS X (.Assign [.Subscript (.Name x px) b pos'] a pos) (tS X.K W (sSetI i fa fb))):=⟨T.cs_setI S i hi hv ha.p hb.p hs hw h1 has⟩
theorem zCK (S:Cp X N gl vs cs ls lo gs) (i:Nat) {x:Str} {apos cpos:Pos} (hi:N[i]?=some x) (hv:vs.contains i=true) (ha:Q (PE X a (tE X.K W fa))) (hs:starEach [a] X.env=[(false,eval a X.env)]) (hbase:attributeBase (.Name x p) "append" X.env (eval (.Name x p) X.env)=eval (.Name x p) X.env) (hline:(apos.endLine==cpos.line)=true) (hfew:((backTo cpos (starEach [a] X.env)).all (fun x=>!x.1)&&(backToKw cpos (keywordEach [] X.env)).all (fun x=>x.1.isSome)
   && decide ([a].length+([]:List Keyword).length+(if ([]:List Keyword).isEmpty then 0 else 1)<30))=true) (hsw:swapsWith (.Call (.Attribute (.Name x p) "append" apos) [a] [] cpos) none pos.line X.env=pure false):Q (PS X (.Expr (.Call (.Attribute (.Name x p) "append" apos) [a] [] cpos) pos) (tS X.K W (zAW i fa))):=⟨T.cs_append S i hi hv ha.p hs hbase hline hfew hsw⟩
theorem zBC :Q (PF X [] (tT X.K W0 bTrue)):=⟨T.df_nil ⟩
theorem zB5 (h:Q (PT X c (tT X.K W0 ga))):Q (PF X [c] (tT X.K W0 ga)):=⟨T.df_one h.p⟩
end
end TQ
namespace T
open PySem PySem.Spec L2
open PyProof.Rows hiding St
def sNo:FS:=fun _=>.no
section
variable {X:Cx} {W:XW} {e:Expr} {fa:F1} {pos:Pos}
theorem ds_no {st:Stmt}:PS X st (tS X.K W sNo):=fun pins s σ H D I h=>by
 obtain ⟨He,O,Fs,Γ,E,h⟩:=h
 exact h.elim
theorem ds_drop (ha:PE X e (tE X.K W fa)) (hs:swapsWith e none pos.line X.env=pure false):PS X (.Expr e pos) (tS X.K W (sDrop fa)):=PSimp (zJU ha hs) fun _ _ _=>rd_drop
end
def tyD:PySem.PyData->String
 | .none => "NoneType"
 | .bool _ => "bool"
 | .int _ => "int"
 | .str _ => "str"
 | .list _ => "list"
 | .tuple _ => "tuple"
 | .dict _ => "dict"
def isTy (t c:String):Bool:=t==c||(t == "bool"&&c == "int")
section
variable {X:Cx} {pins:List (Addr×Obj)} {σ:St} {H:Hp} {s:Shared} {A:Around} {E:Value->Shared->Prop} {Q:Value->Shared->Prop} {c:Value} {b:Bool}
end
def eIsi (c:String) (fa:F1):F1:=eBind fa fun p Γ=>.ok ⟨.leaf,.bool (isTy (tyD p.d) c)⟩ Γ
def zDN (c:FB) (g:FS):Nat->Ev->OutS
 | 0,_=>.no
 | n+1,Γ=>match c Γ with
  | .ok true Γ1=>(match g Γ1 with
   | .nx Γ2=>zDN c g n Γ2
   | .ct Γ2=>zDN c g n Γ2
   | .bk Γ2=>.nx Γ2
   | .rt p=>.rt p
   | .er e Γ2=>.er e Γ2
   | .no=>.no)
  | .ok false Γ1=>.nx Γ1
  | .er e Γ1=>.er e Γ1
  | .no=>.no
def zH2 (n:Nat) (c:FB) (g:FS):FS:=zDN c g n
section
variable {K:Fg} {W:XW} {σ:St} {H:Hp} {Q:VK} {D:Ends} {fa fb:F1} {fl:FL}
theorem rd_while {n:Nat} {c:FB} {g:FS} (h:tS K W (zH2 n c g) D σ H):tWhile (tT K W c) (tS K W g) D σ H:=by
 obtain ⟨He,O,Fs,Γ,E,h⟩:=h
 refine ⟨fun m σ' H'=>∃Γk Fk,EnvOk K He O Fk H' σ' Γk/\zCJ K W He O D (zDN c g m Γk),⟨n,Γ,Fs,E,h⟩,?_⟩
 rintro m σ' H' ⟨Γk,Fk,Ek,hw⟩
 cases m with
 | zero=>exact hw.elim
 | succ m=>
  refine ⟨He,O,Fk,Γk,Ek,?_⟩
  rw [zDN] at hw
  cases e:c Γk with
  | er x Γ1=>rw [e] at hw;exact fun H2 Fs2 s E2=>hw σ' H2 Fs2 E2
  | no=>rw [e] at hw;exact hw
  | ok b Γ1=>
   rw [e] at hw
   intro H2 Fs2 s2 E2 n2
   cases b with
   | false=>rw [if_neg Bool.false_ne_true];exact hw σ' H2 Fs2 E2
   | true=>
    rw [if_pos rfl]
    refine ⟨fun σ3 H3=>∃Γ3 F3,EnvOk K He O F3 H3 σ3 Γ3/\zCJ K W He O D (zDN c g m Γ3),fun σ3 H3 q=>⟨m,Nat.lt_succ_self _,q⟩,He,O,Fs2,Γ1,E2,?_⟩
    have hw:zCJ K W He O D (match g Γ1 with | .nx Γ2=>zDN c g m Γ2 | .ct Γ2=>zDN c g m Γ2 | .bk Γ2=>.nx Γ2 | .rt p=>.rt p | .er e Γ2=>.er e Γ2 | .no=>.no):=hw
    cases eb:g Γ1 with
    | nx Γ'=>rw [eb] at hw;exact fun σ2 H2 F2 E2=>⟨Γ',F2,E2,hw⟩
    | ct Γ'=>rw [eb] at hw;exact fun σ2 H2 F2 E2=>⟨Γ',F2,E2,hw⟩
    | bk Γ'=>rw [eb] at hw;exact fun σ2 H2 F2 E2=>hw σ2 H2 F2 E2
    | rt p=>rw [eb] at hw;exact fun u H2 G r=>hw u H2 G r
    | er x Γ'=>rw [eb] at hw;exact fun σ2 H2 F2 E2=>hw σ2 H2 F2 E2
    | no=>rw [eb] at hw;exact hw
theorem EnvOk.chgF {He:Hp} {O:List Addr} {Fs:List (List Addr)} {Γ:Ev} {i:Nat} {ds:List PySem.PyData} (E:EnvOk K He O Fs H σ Γ) (h:Γ[i]?=some (some ⟨.lst .leaf,.list ds⟩)) :
  ∃l vs,σ[i]?=some (some (.ref l))/\H l=some (.lst vs)/\vs.length=ds.length/\(∀(j:Nat) u d,vs[j]?=some u->ds[j]?=some d->Rep K (hid H (O++Fs.flatten)) u d) /\
   ∀(vs':List V) (ds':List PySem.PyData),vs'.length=ds'.length->(∀(j:Nat) u d,vs'[j]?=some u->ds'[j]?=some d->Rep K (hid H (O++Fs.flatten)) u d)->EnvOk K He O Fs (upd H l (.lst vs')) σ (Γ.set i (some ⟨.lst .leaf,.list ds'⟩)):=by
 obtain ⟨hv,v,F,h1,E1,o1,sub⟩:=E.move h
 have hi:i<Γ.length:=(List.getElem?_eq_some_iff.mp h).1
 obtain ⟨_,v0,F0,h10,h20,o0⟩:=E.slot i _ h
 obtain ⟨l,vs,rfl,rfl,hp,hl,hr⟩:=o1.leaves
 obtain ⟨l',vs',e0,e1,hp',hl',hr'⟩:=o0.leaves
 rw [h1] at h10
 cases h10
 cases e0
 rw [hp] at hp'
 cases hp'
 refine ⟨l,vs,h1,hp,hl,hr',fun ws ds' hw q=>?_⟩
 have hlF:l∈Fs.flatten:=sub l (mem_append_left _ (List.mem_singleton.mpr rfl))
 have hHe:He l=none:=E.fresh l hlF
 have E4:=E1.mutO (o:=.lst ws) (mem_append_left _ (List.mem_singleton.mpr rfl)) hp hHe
 have ownL:Own K ([l]++O++(Fs.set i []).flatten) (upd H l (.lst ws)) (.lst .leaf) [l] (.ref l) (.list ds'):=by
  refine Own.mkLeaves zAU hw fun j u d a1 a2=>?_
  rw [zJ1 (mem_append_left _ (mem_append_left _ (List.mem_singleton.mpr rfl)))]
  refine (q j u d a1 a2).mono (zB2 (Same.refl _) fun a ha=>.inl ?_)
  rcases List.mem_append.mp ha with z | z
  ·rcases List.mem_append.mp z with z | z
   ·rw [List.mem_singleton.mp z];exact mem_append_right _ hlF
   ·exact mem_append_left _ z
  ·exact mem_append_right _ (sub a (mem_append_right _ z))
 have fin:=EnvOk.put (i:=i) (p:=⟨.lst .leaf,.list ds'⟩) (v:=.ref l) E4 ownL rfl (fun a ha=>by rw [List.mem_singleton.mp ha];exact hHe) (by rw [length_set];exact hi)
 rw [set_set,set_set,zC8 h1] at fin
 rw [e1] at h20
 rw [zC8 h20] at fin
 exact fin
end
theorem zJ0:∀{ns:List Int} {us:List Value},Vals (ns.map V.int) us->IntsAre us ns
 | [],_,.nil=>.nil
 | n::ns,_,.cons r t=>by
  obtain ⟨tk,rfl⟩:=(show ∃t,_=Value.int n t from r)
  exact .cons _ _ (zJ0 t)
theorem vals_of:∀{ns:List Int} {us:List Value},IntsAre us ns->Vals (ns.map V.int) us
 | _,_,.nil=>.nil
 | _,_,.cons _ _ t=>.cons ⟨_,rfl⟩ (vals_of t)
theorem vals_pt:∀{xs:List V} {us:List Value},xs.length=us.length->(∀(i:Nat) x u,xs[i]?=some x->us[i]?=some u->RelV x u)->Vals xs us
 | [],[],_,_=>.nil
 | x::xs,u::us,hl,h=>.cons (h 0 x u rfl rfl) (vals_pt (by simpa using hl) fun i x u a b=>h (i+1) x u (by simpa using a) (by simpa using b))
 | [],_::_,hl,_=>by simp at hl
 | _::_,[],hl,_=>by simp at hl
def tLR (ta:TA):TE:=fun σ H Q=>ta σ H fun vs H1=>∃j:Int,vs=[.int j]/\-(2 ^ 62)<=j/\j<=sizeLine/\∀l,H1 l=none->Q (.ref l) (upd H1 l (.lst (rngV 0 j.toNat)))
theorem pe_listRange {X:Cx} {a:Expr} {ta:TA} {p p2 pos pos2:Pos} (hg:Gl X "list") (hm:X.mg "list"=none) (hg2:Gl X "range") (hm2:X.mg "range"=none) (hc:X.calm=true) (ha:PA X [a] ta) (hs:starEach [a] X.env=[(false,eval a X.env)])
  (hs1:starEach [.Call (.Name "range" p2) [a] [] pos2] X.env=[(false,eval (.Call (.Name "range" p2) [a] [] pos2) X.env)]):PE X (.Call (.Name "list" p) [.Call (.Name "range" p2) [a] [] pos2] [] pos) (tLR ta):=by
 intro pins s σ H Q I h
 refine Call_ (zGL I hg hm b_list (PyProof.Rows.callWith_type1 ?_ hs1 rfl))
 rw [hs1]
 show wpAny _ _ (spliced ((false,eval (.Call (.Name "range" p2) [a] [] pos2) X.env)::[])) _ _ s
 refine Calls.spliced_cons (Call_ (zGL I hg2 hm2 boot_range (PyProof.Rows.callWith_type1 (thn (ha pos2 pins s σ H _ I h) fun us s1 ⟨vs,H1,I1,r1,q1⟩=>?_) hs rfl)))
 obtain ⟨j,e,q1,q2,q⟩:=q1
 subst e
 obtain ⟨u,rfl,ru⟩:=r1.one
 obtain ⟨t,rfl⟩:=(show ∃t,u=Value.int j t from ru)
 refine call_range_1 (Calls.spliced_nil ?_)
 have hz:(sizeLine:Int)<2 ^ 62:=by decide
 refine call_list_range (n:=j.toNat) (I.ok.hd hc) (IsRange.new ..) (small_one (by omega) (by omega) q1 (by omega)) (by rw [rangeSize_one];split<;>omega) (by have:(sizeLine:Nat)=2 ^ 24:=rfl;omega) fun h' tk acc' c' hk ho hacc=>?_
 have I2:Inv X pins σ H1 { s1 with heap:=s1.heap.push { cls:=.type "range",data:=.fields #[.int 0 s1.toks,.int j t,.int 1 (s1.toks+1)] },toks:=s1.toks+1+1 }:=I1.kept fun b o e=>Heap.get?_push_of_some _ e
 have hv:Vals (rngV 0 j.toNat) acc'.toList:=by
  refine vals_pt (by have:=hacc.1;simp only [Array.length_toList,rngV,length_map,length_range];omega) fun i x u e1 e2=>?_
  obtain ⟨t2,rfl⟩:=hacc.2 i u (by rw [<-Array.getElem?_toList];exact e2)
  unfold rngV at e1
  rw [getElem?_map] at e1
  cases e3:(List.range j.toNat)[i]? with
  | none=>rw [e3] at e1;cases e1
  | some k=>
   rw [e3] at e1
   obtain ⟨k1,k2⟩:=List.getElem?_eq_some_iff.mp e3
   simp at k2
   subst k2
   cases e1
   exact ⟨t2,by simp⟩
 refine ⟨.ref _,upd H1 _ (.lst (rngV 0 j.toNat)),I2.laid (t':=tk) (fun b o e=>hk b o e) (Nat.le_refl _) ⟨?_,acc'.toList,c',hv,by simpa using ho⟩,rfl,q _ (I2.hok.fresh (Nat.le_refl _))⟩
 simp only [rngV,length_map,length_range]
 omega
section
variable {K:Fg} {W:XW} {σ:St} {H:Hp} {Q:VK} {fa:F1} {fl:FL}
theorem AftL.newSc {He:Hp} {O:List Addr} {Fs Gs Fs1:List (List Addr)} {Γ1:Ev} {ps:List PV} {us:List V} {H1:Hp} {l:Addr} {vs:List V} {ds:List PySem.PyData} (A:AftL K He O Fs H σ Γ1 ps us H1 Gs Fs1) (nd:O.Nodup) (hl:H1 l=none) (hv:vs.length=ds.length) (hs:∀(i:Nat) v d,vs[i]?=some v->ds[i]?=some d->Sc v d) :
  Aft K He O Fs H σ Γ1 ⟨.lst .leaf,.list ds⟩ (.ref l) (upd H1 l (.lst vs)) [l] Fs1:=by
 refine ⟨A.same.trans (zA4 hl),A.env.dropL.hide (zA4 hl) (by simp) (by simpa using hl) (fun a ha=>by rw [List.mem_singleton.mp ha,zAU];exact Option.some_ne_none _),fun a ha=>?_,?_⟩
 ·rcases List.mem_append.mp ha with z | z
  ·rw [List.mem_singleton.mp z];exact .inr (A.same.free hl)
  ·exact A.new a (mem_append_right _ z)
 ·exact Own.mkLeaves zAU hv fun j u d e1 e2=>(hs j u d e1 e2).rep
def eLR (fl:FL):F1:=fun Γ=>(fl Γ).bind fun ps Γ'=>match rng1 (ps.map (·.d)) with
 | some j=>if j<=sizeLine then .ok ⟨.lst .leaf,.list (rngD 0 j.toNat)⟩ Γ' else .no
 | none=>.no
theorem rd_LR (h:tE K W (eLR fl) σ H Q):tLR (tA K W fl) σ H Q:=by
 obtain ⟨He,O,Fs,Γ,E,h⟩:=h
 refine ⟨He,O,Fs,Γ,E,?_⟩
 unfold eLR at h
 cases e:fl Γ with
 | er c Γ'=>rw [e] at h;exact h
 | no=>rw [e] at h;exact h
 | ok ps Γ1=>
  rw [e] at h
  intro vs H1 Gs Fs1 A
  have h:Wants K W He O Fs H σ Q (match rng1 (ps.map (·.d)) with | some j=>if j<=sizeLine then .ok ⟨.lst .leaf,.list (rngD 0 j.toNat)⟩ Γ1 else .no | none=>.no):=h
  cases er:rng1 (ps.map (·.d)) with
  | none=>rw [er] at h;exact h.elim
  | some j=>
   rw [er] at h
   obtain ⟨e1,e2,e3⟩:=rng1_eq er
   have r:=A.reps
   rw [e1] at r
   have h:Wants K W He O Fs H σ Q (if j<=sizeLine then .ok ⟨.lst .leaf,.list (rngD 0 j.toNat)⟩ Γ1 else .no):=h
   by_cases hj:j<=sizeLine
   ·rw [if_pos hj] at h
    have hv:vs=[.int j]:=by
     have hl:=r.1
     match vs,hl with
     | [v],_=>
      have q:=r.2 0 v (.int j) rfl rfl
      cases q
      rfl
    refine ⟨j,hv,e2,hj,fun l hl=>h _ _ _ _ (A.newSc E.ndO hl (by simp [rngV,rngD]) fun i v d a1 a2=>?_)⟩
    have q:=zIZ (K:=K) (H:=H1) (lo:=0) (n:=j.toNat)
    refine (q.2 i v d a1 a2).sc ?_
    unfold rngD at a2
    rw [getElem?_map] at a2
    cases e3:(List.range j.toNat)[i]? with
    | none=>rw [e3] at a2;cases a2
    | some k=>rw [e3] at a2;cases a2;rfl
   ·rw [if_neg hj] at h;exact h.elim
def intsOf:List PySem.PyData->Option (List Int)
 | []=>some []
 | .int i::r=>(intsOf r).map (i :: ·)
 | _=>none
theorem zIB:∀{ds:List PySem.PyData} {ns:List Int},intsOf ds=some ns->ds=ns.map .int
 | [],ns,h=>by cases h;rfl
 | .int i::r,ns,h=>by
  unfold intsOf at h
  cases e:intsOf r with
  | none=>rw [e] at h;cases h
  | some ms=>rw [e] at h;cases h;rw [zIB e];rfl
 | .none::_,_,h=>by cases h
 | .bool _::_,_,h=>by cases h
 | .str _::_,_,h=>by cases h
 | .list _::_,_,h=>by cases h
 | .tuple _::_,_,h=>by cases h
 | .dict _::_,_,h=>by cases h
def sortArg:List PySem.PyData->Option (List Int)
 | [.list ds]=>intsOf ds
 | _=>none
theorem sortArg_eq {ds:List PySem.PyData} {ns:List Int} (h:sortArg ds=some ns):ds=[.list (ns.map .int)]:=by
 unfold sortArg at h
 split at h
 ·rw [zIB h]
 ·cases h
end
section
variable {X:Cx} {N gl:List Str} {vs cs ls lo gs:List Nat} {W:XW} {a b c e:Expr} {es:List Expr} {pos p:Pos} {fa fb fc:F1} {fl:FL} {g:FS} {ga:FB}
theorem cb_listRange {p2 pos2:Pos} (S:Cp X N gl vs cs ls lo gs) (j k:Nat) (hj:gl[j]?=some ("list":Str)) (hg:gs.contains j=true) (hm:X.mg "list"=none) (hk:gl[k]?=some ("range":Str)) (hg2:gs.contains k=true) (hm2:X.mg "range"=none) (ha:PA X [a] (tA X.K W fl)) (hs:starEach [a] X.env=[(false,eval a X.env)])
  (hs1:starEach [.Call (.Name "range" p2) [a] [] pos2] X.env=[(false,eval (.Call (.Name "range" p2) [a] [] pos2) X.env)]):PE X (.Call (.Name "list" p) [.Call (.Name "range" p2) [a] [] pos2] [] pos) (tE X.K W (eLR fl)):=
 PEimp (pe_listRange (S.g hj hg).1 hm (S.g hk hg2).1 hm2 S.calm ha hs hs1) fun _ _ _=>rd_LR
theorem cs_while (n:Nat) {body:List Stmt} (hp:PassesOwn (model X.prog X.w) X.A X.env X.xe) (hc:PT X c (tT X.K W ga)) (hb:PSs X body (tS X.K W g)):PS X (.While c body [] pos) (tS X.K W (zH2 n ga g)):=PSimp (ps_while hp hc hb) fun _ _ _=>rd_while
end
theorem Inv.turnedL {X:Cx} {pins:List (Addr×Obj)} {σ:St} {H:Hp} {s:Shared} {h':Heap} {t':Nat} {fp:List Addr} (I:L2.Inv X pins σ H s) (k:∀b o,b∉fp->s.heap.get? b=some o->h'.get? b=some o) (hf:∀b∈fp,FpOk X pins H b):L2.Inv X pins σ H { s with heap:=h',toks:=t' }:=by
 have nit:∀b u,H b=some u->b∉fp:=fun b u e z=>by have:=(hf b z).1;rw [e] at this;cases this
 have hL:X.env.locals∉fp:=fun z=>(hf _ z).2.1 rfl
 refine I.step (g':=s.gens) (d':=s.drawn) (ch:=fp) (fun b hb=>?_) (fun b o _ _ hc e _=>k b o hc e) (fun b o _ _ hc e _=>⟨o.slots,k b o hc e⟩) (fun _ _ _ _ n=>n)
  (fun b o hc e=>⟨o,k b o hc e⟩) (fun _ _ e=>e) (fun _ _ _ e=>e) (fun b ps e=>⟨#[],by rw [e];simp⟩) (fun m hm=>?_) (fun b u e=>?_) I.bare
 ·obtain ⟨f0,f1,f2,f3,f4,f5⟩:=hf b hb
  exact ⟨f3,f1,f4,f5⟩
 ·obtain ⟨o,es,ep,ho,r⟩:=hm
  exact ⟨o,es,ep,k _ o hL ho,r⟩
 ·refine (I.hok b u e).stay (fun c v hc q=>k c v ?_ q) (fun _ q=>q) fun _ _ q=>q
  rcases hc with z | z
  ·rw [z];exact nit b u e
  ·exact nit c _ z
theorem Inv.turnedT {X:Cx} {pins:List (Addr×Obj)} {σ:St} {H:Hp} {s:Shared} {h':Heap} {t':Nat} {fp:List Addr} {T:Addr} {xs:List V} (I:L2.Inv X pins σ H s) (k:∀b o,b∉fp->s.heap.get? b=some o->h'.get? b=some o) (hf:∀b∈fp,FpOk X pins H b) (hT:s.heap.objs.size<=T)
  (new:ObjOk X.prog X.w (upd H T (.tup xs)) h' T (.tup xs)):L2.Inv X pins σ (upd H T (.tup xs)) { s with heap:=h',toks:=t' }:=by
 have hTn:H T=none:=I.hok.fresh hT
 have nit:∀b u,H b=some u->b∉fp:=fun b u e z=>by have:=(hf b z).1;rw [e] at this;cases this
 have up:∀b u,H b=some u->upd H T (.tup xs) b=some u:=fun b u e=>by rw [zA6 (zBF e hTn)];exact e
 have hL:X.env.locals∉fp:=fun z=>(hf _ z).2.1 rfl
 refine I.step (g':=s.gens) (d':=s.drawn) (ch:=fp) (fun b hb=>?_) (fun b o _ _ hc e _=>k b o hc e) (fun b o _ _ hc e _=>⟨o.slots,k b o hc e⟩) (fun b o _ e n=>by rw [zA6 (Nat.ne_of_lt (Nat.lt_of_lt_of_le (Heap.lt_size e) hT))];exact n)
  (fun b o hc e=>⟨o,k b o hc e⟩) (fun b _ e=>up b _ e) (fun b _ _ e=>up b _ e) (fun b ps e=>⟨#[],by rw [up b _ e];simp⟩) (fun m hm=>?_) (fun b u e=>?_) I.bare
 ·obtain ⟨f0,f1,f2,f3,f4,f5⟩:=hf b hb
  exact ⟨f3,f1,f4,f5⟩
 ·obtain ⟨o,es,ep,ho,r⟩:=hm
  exact ⟨o,es,ep,k _ o hL ho,r⟩
 ·by_cases hb:b=T
  ·subst hb
   rw [zAU] at e
   cases e
   exact new
  ·rw [zA6 hb] at e
   refine (I.hok b u e).stay (fun c v hc q=>k c v ?_ q) (fun c q=>up c _ q) fun c _ q=>up c _ q
   rcases hc with z | z
   ·rw [z];exact nit b u e
   ·exact nit c _ z
def Ite (K:Fg) (a:Addr):It:=
 ⟨fun i H=>∃xs x,SqL K H a xs/\xs[i]?=some x,fun i H x H'=>∃T v,x=.ref T/\H T=none/\H'=upd H T (.tup [.int i,v])/\∀xs,SqL K H a xs->xs[i]?=some v,fun i H=>∃xs,SqL K H a xs/\xs.length<=i⟩
theorem turn_enum {P:Program} {w:World} {K:Fg} {elts:List Expr} {k:Nat} {pos:Pos} (a e it:Addr) (hei:e≠it) (hae:a≠e) (hai:a≠it) :
  Turn P w K (.Tuple elts k pos) (Ite K a) [e,it] e (fun i h=>(∃old,IsEnum h e it i old)/\h.IsListIter it a i) where
 mem:=by simp
 obj:=fun i h st b hb=>by
  obtain ⟨⟨old,he⟩,o,e1,c,d⟩:=st
  simp only [mem_cons,not_mem_nil,or_false] at hb
  rcases hb with rfl | rfl
  ·exact ⟨_,he,fun v z=>by
    have z':Data.fields _=Data.cell v:=z
    cases z'⟩
  ·exact ⟨o,e1,fun v z=>by rw [d] at z;cases z⟩
 keep:=fun i h h' st kk=>by
  obtain ⟨⟨old,he⟩,hit⟩:=st
  exact ⟨⟨old,kk e (by simp) _ he⟩,hit.at fun o q=>kk it (by simp) o q⟩
 item:=by
  intro X hP hw hK hc i pins s σ H E I hf st hg
  subst hP hw hK
  obtain ⟨xs,x,hq,hx⟩:=hg
  obtain ⟨its,rv,p,hz⟩:=I.list hq
  obtain ⟨u,hu,ru⟩:=rv.get hx
  have W:=WalksT.enumerate (prog:=X.prog) (w:=X.w) (A:=X.A) (I.ok.hd hc) e it a hei hae hai its.toArray
  have hil:i<its.toArray.size:=by
   have:=(List.getElem?_eq_some_iff.mp hu).1
   simpa using this
  refine W.item i s _ _ hil ⟨st.1,st.2,p.isList⟩ fun T vals h' tk hv hT hTT hMid kk=>?_
  obtain ⟨t,y,hy,rfl⟩:=hv
  have ey:y=u:=by
   rw [getElem?_toArray,hu] at hy
   exact (Option.some.inj hy).symm
  subst ey
  refine ⟨.ref T,rfl,W.go elts k pos i T _ _ _ hMid fun h2 st2 kk2=>?_⟩
  have hTn:H T=none:=I.hok.fresh hT
  have hTw:T∉[e,it]:=W.apart i T _ hMid
  have kAll:∀b o,b∉[e,it]->s.heap.get? b=some o->h2.get? b=some o:=fun b o hb q=>kk2 b o hb (kk b o hb q)
  have I1:L2.Inv X pins σ H { s with heap:=h2,toks:=tk }:=Inv.turnedL I kAll hf
  have tT:h2.IsTuple T #[.int i t,y]:=by
   obtain ⟨o,q1,q2⟩:=hTT
   exact ⟨o,kk2 T o hTw q1,q2⟩
  have hvs:Vals [.int (i:Int),x] [.int i t,y]:=.cons (show RelV (.int (i:Int)) (.int i t) from ⟨t,rfl⟩) (.cons ru .nil)
  have I3:L2.Inv X pins σ (upd H T (.tup [.int i,x])) { s with heap:=h2,toks:=tk }:=Inv.turnedT (t':=tk) I kAll hf hT ⟨by show 2<=sizeLine;decide,[.int i t,y],hvs,(show IsTup h2 T _ from tT)⟩
  refine ⟨.ref T,upd H T (.tup [.int i,x]),I3,rfl,⟨T,x,rfl,hTn,rfl,fun ys hy=>by rw [I.list_inj hy hq];exact hx⟩,⟨st2.1,st2.2.1⟩,fun b hb=>?_⟩
  have hbT:b≠T:=fun z=>by rw [z] at hb;exact hTw hb
  rw [zA6 hbT]
  exact (hf b hb).1
 done:=by
  intro X hP hw hK hc i pins s σ H E I hf st hg
  subst hP hw hK
  obtain ⟨xs,hq,hx⟩:=hg
  obtain ⟨its,rv,p,hz⟩:=I.list hq
  have hl:=rv.length
  obtain ⟨⟨old,he⟩,hit⟩:=st
  refine wpAny_pyNext_enum_end (I.ok.hd hc) he hit p.isList (Array.getElem?_eq_none (by simp;omega)) fun h' hk=>⟨rfl,Inv.turnedL (t':=s.toks) I (fun b o hb q=>hk b o (fun z=>hb (by simp [z])) q) hf⟩
 self:=fun _ _ _ _ _ st h=>by
  obtain ⟨⟨old,he⟩,hit⟩:=st
  exact wpAny_pyIter_enum he h
def iEnum (K:Fg) (ta:TA):TI:=fun σ H R=>ta σ H fun vs H1=>∃a,vs=[.ref a]/\(∃xs,SqL K H1 a xs)/\R (Ite K a) H1
theorem pi_enum {X:Cx} {elts:List Expr} {kt:Nat} {ptg:Pos} {l:Expr} {ta:TA} {p pos:Pos} (hg:Gl X "enumerate") (hm:X.mg "enumerate"=none) (ha:PA X [l] ta) (hs:starEach [l] X.env=[(false,eval l X.env)]) :
  PI X (.Tuple elts kt ptg) (.Call (.Name "enumerate" p) [l] [] pos) (iEnum X.K ta):=by
 intro pins s σ H R I h
 refine Call_ (zGL I hg hm boot_enumerate (PyProof.Rows.callWith_type1 (thn (ha pos pins s σ H _ I h) fun us s1 ⟨vs,H1,I1,r1,q1⟩=>?_) hs rfl))
 obtain ⟨a,e,⟨xs,hq⟩,q⟩:=q1
 subst e
 obtain ⟨u,rfl,ru⟩:=r1.one
 cases ru
 obtain ⟨its,rv,pl,hz⟩:=I1.list hq
 refine call_enumerate_list pl.isList fun h' he hit hsz hk=>?_
 have ha1:a<s1.heap.objs.size:=by
  obtain ⟨o,q1,_⟩:=pl.isList
  exact Heap.lt_size q1
 refine wpAny_pyIter_enum (s:={ s1 with heap:=h' }) he ?_
 have I2:L2.Inv X pins σ H1 { s1 with heap:=h' }:=I1.kept (t':=s1.toks) hk
 refine ⟨s1.heap.objs.size+1,[s1.heap.objs.size+1,s1.heap.objs.size],_,Ite X.K a,H1,rfl,I2,turn_enum a _ _ (Nat.succ_ne_self _) (Nat.ne_of_lt (Nat.lt_succ_of_lt ha1)) (Nat.ne_of_lt ha1),⟨⟨_,he⟩,hit⟩,fun b hb=>?_,q⟩
 simp only [mem_cons,not_mem_nil,or_false] at hb
 have hb2:s1.heap.objs.size<=b:=by
  rcases hb with z | z
  ·rw [z];exact Nat.le_succ _
  ·rw [z];exact Nat.le_refl _
 have f:=I1.fpOk hb2 (I1.hok.fresh hb2)
 exact f
section
variable {K:Fg} {W:XW} {σ:St} {H:Hp} {D:Ends} {fa:F1}
end
section
variable {X:Cx} {N gl:List Str} {vs cs ls lo gs:List Nat} {W:XW} {a:Expr} {pos p:Pos} {fa:F1}
end
def zD4 (i j:Nat) (fc:FB) (fe:F1) (s:Sh):Nat->List PySem.PyData->Ev->List PySem.PyData->Out (List PySem.PyData)
 | _,[],Γ,acc=>.ok acc Γ
 | k,d::r,Γ,acc=>match fc ((Γ.set i (some ⟨.leaf,.int (k:Nat)⟩)).set j (some ⟨.leaf,d⟩)) with
  | .ok true Γ1=>(match fe Γ1 with
   | .ok p Γ2=>if T.coer s p&&decide (acc.length<sizeLine) then zD4 i j fc fe s (k+1) r ((Γ2.set i none).set j none) (acc++[p.d]) else .no
   | _=>.no)
  | .ok false Γ1=>if acc.length<sizeLine then zD4 i j fc fe s (k+1) r ((Γ1.set i none).set j none) acc else .no
  | _=>.no
def zCG:Option (Option PV)->Bool
 | some none=>true
 | _=>false
def zCI (s:Sh) (i j:Nat) (fa:F1) (fc:FB) (fe:F1):F1:=fun Γ=>(iSeq fa Γ).bind fun t Γ1=>if zCG Γ1[i]?&&zCG Γ1[j]?&&!s.isView then (match zD4 i j fc fe s 0 t.ds Γ1 [] with
 | .ok ds Γ2=>.ok ⟨.lst s,.list ds⟩ Γ2
 | _=>.no) else .no
theorem zGE {o:Option (Option PV)} (h:zCG o=true):o=some none:=by
 unfold zCG at h
 split at h
 ·rfl
 ·cases h
section
variable {K:Fg} {He H H1 H2:Hp} {O G:List Addr} {Fs Fs1 Fs2:List (List Addr)} {σ:St} {Γ Γ1 Γ2:Ev}
theorem set2_get {Γ:Ev} {i j m:Nat} {p:PV} (h:((Γ.set i none).set j none)[m]?=some (some p)):m≠i/\m≠j/\Γ[m]?=some (some p):=by
 obtain ⟨h1,h2⟩:=zEB h
 obtain ⟨h3,h4⟩:=zEB h2
 exact ⟨h3,h1,h4⟩
theorem EnvOk.forget2 {i j:Nat} {x y:Option V} (E:EnvOk K He O Fs H (((blank [i,j] σ).set i x).set j y) Γ):EnvOk K He O Fs H (blank [i,j] σ) ((Γ.set i none).set j none):=by
 refine ⟨by have:=E.len1;simpa using this,by have:=E.len2;simpa using this,E.same,E.nd,E.inH,E.fresh,fun m q hq=>?_⟩
 obtain ⟨h1,h2,h3⟩:=set2_get hq
 obtain ⟨w1,v',F',e1,e2,e3⟩:=E.slot m q h3
 rw [getElem?_set_ne (Ne.symm h2),getElem?_set_ne (Ne.symm h1)] at e1
 exact ⟨w1,v',F',e1,e2,e3⟩
theorem EnvOk.blank2 {i j:Nat} (E:EnvOk K He O Fs H σ Γ) (hi:Γ[i]?=some none) (hj:Γ[j]?=some none):EnvOk K He O Fs H (blank [i,j] σ) Γ:=by
 refine ⟨by rw [zB1];exact E.len1,E.len2,E.same,E.nd,E.inH,E.fresh,fun m q hq=>?_⟩
 obtain ⟨w1,v',F',e1,e2,e3⟩:=E.slot m q hq
 refine ⟨w1,v',F',?_,e2,e3⟩
 rw [zJA (fun z=>?_)]
 ·exact e1
 ·simp only [mem_cons,not_mem_nil,or_false] at z
  rcases z with z | z
  ·rw [z,hi] at hq;cases hq
  ·rw [z,hj] at hq;cases hq
theorem EnvOk.unblank2 {i j:Nat} (E:EnvOk K He O Fs H (blank [i,j] σ) Γ):EnvOk K He O Fs H σ Γ:=by
 refine ⟨by have:=E.len1;rw [zB1] at this;exact this,E.len2,E.same,E.nd,E.inH,E.fresh,fun m q hq=>?_⟩
 obtain ⟨w1,v',F',e1,e2,e3⟩:=E.slot m q hq
 exact ⟨w1,v',F',(zF1 e1).2,e2,e3⟩
theorem zHT {i:Nat} {a:Addr} (hi:i<Fs.length) (h:a∈(Fs.set i []).flatten):a∈Fs.flatten:=by
 have hF:Fs[i]?=some (Fs[i]'hi):=getElem?_eq_getElem _
 have:=(zBD (G:=[]) hF).mem_iff.mp (mem_append_right _ h)
 simpa using this
structure GathE (K:Fg) (He:Hp) (O:List Addr) (Fs1:List (List Addr)) (H1:Hp) (σ:St) (i j:Nat) (s:Sh) (A0:Addr) (n:Nat) (ys:List V) (H:Hp) (Γk:Ev) (Fk Gs:List (List Addr)) (acc:List PySem.PyData):Prop where
 env:EnvOk K He (A0::Gs.flatten++O) Fk H (blank [i,j] σ) Γk
 same:Same H1 H
 at_:H A0=some (.lst ys)
 new:∀a∈Gs.flatten++Fk.flatten,a∈Fs1.flatten\/H1 a=none
 l1:ys.length=acc.length
 l2:Gs.length=acc.length
 own:∀(m:Nat) v d G,ys[m]?=some v->acc[m]?=some d->Gs[m]?=some G->Own K (A0::Gs.flatten++O++Fk.flatten) H s G v d
 len:Γk.length=n
end
section
variable {K:Fg} {W:XW} {σ:St} {H:Hp} {Q:VK} {fa fe:F1} {fc:FB} {s:Sh} {i j:Nat}
theorem rd_compE (hij:i≠j) (h:tE K W (zCI s i j fa fc fe) σ H Q):tComp [i,j] (iEnum K (tA K W (eCons fa eNil))) (gTup K 2 (gCons (gName i) (gCons (gName j) gNil))) (tT K W0 fc) (tE K W0 fe) σ H Q:=by
 obtain ⟨He,O,Fs,Γ,E,h⟩:=h
 refine zKA ⟨He,O,Fs,Γ,E,?_⟩
 unfold zCI iSeq at h
 cases e:fa Γ with
 | er c Γ1=>rw [e] at h;exact h
 | no=>rw [e] at h;exact h
 | ok p Γ1=>
  rw [e] at h
  intro v H1 G Fs1 A
  obtain ⟨sp,d⟩:=p
  cases d with
  | list ds=>
   have h:Wants K W He O Fs H σ Q ((if zAP ⟨sp,.list ds⟩ ds then Out.ok (⟨ds,!sp.isView⟩:Its) Γ1 else .no).bind fun t Γ1=>if zCG Γ1[i]?&&zCG Γ1[j]?&&!s.isView then (match zD4 i j fc fe s 0 t.ds Γ1 [] with | .ok ds Γ2=>.ok ⟨.lst s,.list ds⟩ Γ2 | _=>.no) else .no):=h
   cases hc:zAP ⟨sp,.list ds⟩ ds with
   | false=>rw [hc] at h;exact h.elim
   | true=>
    rw [hc] at h
    have h:Wants K W He O Fs H σ Q (if zCG Γ1[i]?&&zCG Γ1[j]?&&!s.isView then (match zD4 i j fc fe s 0 ds Γ1 [] with | .ok ds Γ2=>.ok ⟨.lst s,.list ds⟩ Γ2 | _=>.no) else .no):=h
    by_cases hn:(zCG Γ1[i]?&&zCG Γ1[j]?&&!s.isView)=true
    case neg=>rw [if_neg hn] at h;exact h.elim
    rw [if_pos hn] at h
    simp only [Bool.and_eq_true,Bool.not_eq_true'] at hn
    obtain ⟨⟨hni,hnj⟩,hsv⟩:=hn
    have hni:=zGE hni
    have hnj:=zGE hnj
    cases eg:zD4 i j fc fe s 0 ds Γ1 [] with
    | er c Γ'=>rw [eg] at h;exact h.elim
    | no=>rw [eg] at h;exact h.elim
    | ok ds' Γ2=>
     rw [eg] at h
     have h:Wants K W He O Fs H σ Q (.ok ⟨.lst s,.list ds'⟩ Γ2):=h
     obtain ⟨p,vs,rfl,hq,hst,hr⟩:=A.own.items (O':=O++Fs1.flatten) hc sub3 A.disj
     have E1:=A.go
     have hlen:vs.length=ds.length:=hr.1
     have hi:i<Γ1.length:=(List.getElem?_eq_some_iff.mp hni).1
     have hj:j<Γ1.length:=(List.getElem?_eq_some_iff.mp hnj).1
     refine ⟨p,rfl,⟨vs,hq⟩,fun A0 hD=>?_⟩
     have hHeD:He A0=none:=E1.same.free hD
     have E0':EnvOk K He (A0::([]:List (List Addr)).flatten++O) Fs1 (upd H1 A0 (.lst [])) (blank [i,j] σ) Γ1:=
      (E1.blank2 hni hnj).hide (G:=[A0]) (zA4 hD) (by simp) (fun a ha=>by simp at ha;rw [ha];exact hD) (fun a ha=>by simp at ha;rw [ha,zAU];exact Option.some_ne_none _)
     refine ⟨fun k m ys H'=>m=vs.length-k/\k<=vs.length/\∃Γk Fk Gs acc,GathE K He O Fs1 H1 σ i j s A0 Γ1.length ys H' Γk Fk Gs acc/\zD4 i j fc fe s k (ds.drop k) Γk acc=.ok ds' Γ2,⟨vs.length,by simp,Nat.zero_le _,Γ1,Fs1,[],[],⟨E0',zA4 hD,zAU,fun a ha=>.inl (by simpa using ha),rfl,rfl,fun m v d G h1=>by simp at h1,rfl⟩,by simpa using eg⟩,?_⟩
     rintro k m ys H' ⟨rfl,hk,Γk,Fk,Gs,acc,g,eg'⟩
     refine ⟨g.at_,?_⟩
     have hPk:SqL K H' p vs:=g.same.seq hq
     by_cases hlt:k<vs.length
     case neg=>
      left
      have:ds.drop k=[]:=drop_eq_nil_of_le (by omega)
      rw [this] at eg'
      have eg'':(Out.ok acc Γk:Out (List PySem.PyData))=.ok ds' Γ2:=eg'
      injection eg'' with e1 e2
      subst e1
      subst e2
      refine ⟨⟨vs,hPk,by omega⟩,?_⟩
      obtain ⟨n1',_,n3'⟩:=List.nodup_append.mp g.env.ndO
      refine h (.ref A0) H' (A0::Gs.flatten) Fk ⟨A.same.trans g.same,g.env.unblank2,fun a ha=>?_,?_⟩
      ·have up:a∈Fs1.flatten\/H1 a=none->a∈Fs.flatten\/H a=none:=fun z=>z.elim (fun y=>A.newF a y) fun y=>.inr (A.same.free y)
       rcases List.mem_append.mp ha with z | z
       ·rcases List.mem_cons.mp z with z | z
        ·exact up (.inr (by rw [z];exact hD))
        ·exact up (g.new a (mem_append_left _ z))
       ·exact up (g.new a (mem_append_right _ z))
      ·exact .lst hsv g.at_ g.l1 g.l2 n1' fun m v d G h1 h2 h3=>g.own m v d G h1 h2 h3
     case pos=>
      right
      have hv:vs[k]?=some vs[k]:=getElem?_eq_getElem hlt
      have hkd:k<ds.length:=by omega
      have hd:ds[k]?=some ds[k]:=getElem?_eq_getElem hkd
      have hdr:ds.drop k=ds[k]::ds.drop (k+1):=drop_eq_getElem_cons hkd
      rw [hdr] at eg'
      generalize hdk:ds[k]=d at hd eg'
      generalize hvk:vs[k]=v at hv
      simp only [zD4] at eg'
      have hik:i<Γk.length:=by rw [g.len];exact hi
      have hjk:j<Γk.length:=by rw [g.len];exact hj
      have hsl:ys.length<sizeLine:=by
       rw [g.l1]
       cases ec:fc ((Γk.set i (some ⟨.leaf,.int (k:Nat)⟩)).set j (some ⟨.leaf,d⟩)) with
       | no=>rw [ec] at eg';cases eg'
       | er c Γ'=>rw [ec] at eg';cases eg'
       | ok b Γa=>
        rw [ec] at eg'
        cases b with
        | false=>
         dsimp only at eg'
         split at eg'
         ·assumption
         ·cases eg'
        | true=>
         dsimp only at eg'
         split at eg'
         ·split at eg'
          ·rename_i z
           simp only [Bool.and_eq_true,decide_eq_true_eq] at z
           exact z.2
          ·cases eg'
         ·cases eg'
      refine ⟨⟨vs,v,hPk,hv⟩,hsl,?_⟩
      rintro x Hx ⟨T,v',rfl,hTn,rfl,hv'⟩
      have ev:v'=v:=Option.some.inj ((hv' vs hPk).symm.trans hv)
      subst ev
      refine ⟨T,[.int k,v'],rfl,.of zAU,rfl,.int k,[v'],rfl,v',[],rfl,rfl,?_⟩
      have sT:Same H' (upd H' T (.tup [.int k,v'])):=zA4 hTn
      have Eg:=g.env.grow sT
      have rep:Rep K (hid (upd H' T (.tup [.int k,v'])) (A0::Gs.flatten++O++Fk.flatten)) v' d:=(hr.2 k v' d hv hd).mono (zB2 (g.same.trans sT) fun a ha=>by
       rcases List.mem_append.mp ha with z | z
       ·rcases List.mem_append.mp z with z | z
        ·rcases List.mem_cons.mp z with z | z
         ·rw [z];exact .inr hD
         ·exact (g.new a (mem_append_left _ z)).elim (fun y=>.inl (mem_append_right _ y)) .inr
        ·exact .inl (mem_append_left _ z)
       ·exact (g.new a (mem_append_right _ z)).elim (fun y=>.inl (mem_append_right _ y)) .inr)
      have lF:Fk.length=Γk.length:=g.env.len2
      have Ep:=EnvOk.put (G:=[]) (i:=i) (p:=⟨.leaf,.int (k:Nat)⟩) (v:=.int k) Eg (.leaf (.int _)) rfl (fun a ha=>by simp at ha) hik
      have fk:∀a∈(Fk.set i []).flatten,a∈Fk.flatten:=fun a ha=>zHT (by omega) ha
      have Eq:=EnvOk.put (G:=[]) (i:=j) (p:=⟨.leaf,d⟩) (v:=v') Ep (.leaf (rep.mono (zB2 (Same.refl _) fun a ha=>.inl (by
       rcases List.mem_append.mp ha with z | z
       ·exact mem_append_left _ z
       ·exact mem_append_right _ (fk a z))))) rfl (fun a ha=>by simp at ha) (by rw [length_set];exact hjk)
      have fkk:∀a∈((Fk.set i []).set j []).flatten,a∈Fk.flatten:=fun a ha=>fk a (zHT (by rw [length_set];omega) ha)
      refine ⟨⟨by rw [length_set,length_set],fun m u hm=>?_⟩,?_⟩
      ·have:=(zF1 hm).1
       simp only [mem_cons,not_mem_nil,or_false,not_or] at this
       rw [getElem?_set_ne (Ne.symm this.2),getElem?_set_ne (Ne.symm this.1)]
       exact hm
      refine ⟨He,_,_,_,Eq,?_⟩
      cases ec:fc ((Γk.set i (some ⟨.leaf,.int (k:Nat)⟩)).set j (some ⟨.leaf,d⟩)) with
      | no=>rw [ec] at eg';cases eg'
      | er c Γ'=>rw [ec] at eg';cases eg'
      | ok b Γa=>
       rw [ec] at eg'
       intro H3 Fs3 s3' E3 n3
       have s3:Same H' H3:=sT.trans s3'
       have lena:Γa.length=Γ1.length:=by
        have:=E3.len1
        rw [length_set,length_set,zB1,E1.len1] at this
        exact this.symm
       have n3':∀a∈Fs3.flatten,a∈Fs1.flatten\/H1 a=none:=fun a ha=>(n3 a ha).elim (fun z=>g.new a (mem_append_right _ (fkk a z))) fun z=>.inr (g.same.free (sT.free z))
       have n3k:∀a∈Fs3.flatten,a∈Fk.flatten\/H' a=none:=fun a ha=>(n3 a ha).elim (fun z=>.inl (fkk a z)) fun z=>.inr (sT.free z)
       cases b with
       | false=>
        dsimp only at eg'
        split at eg'
        case isFalse=>cases eg'
        refine iteF ⟨vs.length-(k+1),by omega,rfl,hlt,(Γa.set i none).set j none,Fs3,Gs,acc,⟨E3.forget2,g.same.trans s3,s3 _ _ g.at_,fun a ha=>?_,g.l1,g.l2,fun m v d G h1 h2 h3=>(g.own m v d G h1 h2 h3).mono s3 fun a ha=>?_,by rw [length_set,length_set];exact lena⟩,eg'⟩
        ·rcases List.mem_append.mp ha with z | z
         ·exact g.new a (mem_append_left _ z)
         ·exact n3' a z
        ·rcases List.mem_append.mp ha with z | z
         ·exact .inl (mem_append_left _ z)
         ·exact (n3k a z).elim (fun y=>.inl (mem_append_right _ y)) .inr
       | true=>
        refine iteT ⟨He,_,_,_,E3,?_⟩
        dsimp only at eg'
        cases ee:fe Γa with
        | no=>rw [ee] at eg';cases eg'
        | er c Γ'=>rw [ee] at eg';cases eg'
        | ok p Γb=>
         rw [ee] at eg'
         dsimp only at eg'
         split at eg'
         case isFalse=>cases eg'
         rename_i hco
         simp only [Bool.and_eq_true,decide_eq_true_eq] at hco
         obtain ⟨hco,_⟩:=hco
         intro u H4 G Fs4 A4
         have lenb:Γb.length=Γ1.length:=by
          have:=A4.env.len1
          rw [length_set,length_set,zB1,E1.len1] at this
          exact this.symm
         have at4:H4 A0=some (.lst ys):=A4.same _ _ (s3 _ _ g.at_)
         have s14:Same H1 H4:=(g.same.trans s3).trans A4.same
         have new4:∀a∈G++Fs4.flatten,a∈Fs1.flatten\/H1 a=none:=fun a ha=>(A4.new a ha).elim (n3' a) fun z=>.inr ((g.same.trans s3).free z)
         have hG':∀a∈keepG s G,a∈G:=fun a ha=>zG7 ha
         obtain ⟨k1,k2,k3⟩:=List.nodup_append.mp A4.env.ndO
         have ndk:(keepG s G).Nodup:=by
          cases s<;>first | exact nodup_nil | exact k1
         have pmO:(A0::(Gs++[keepG s G]).flatten++O).Perm (keepG s G++(A0::Gs.flatten++O)):=by
          rw [zAZ]
          show (A0::((Gs.flatten++keepG s G)++O)).Perm _
          refine List.Perm.trans ?_ List.perm_middle.symm
          refine List.Perm.cons _ ?_
          rw [append_assoc]
          exact perm3 _ _ _
         have E5:EnvOk K He (keepG s G++(A0::Gs.flatten++O)) Fs4 H4 (((blank [i,j] σ).set i (some (.int k))).set j (some v')) Γb:=A4.env.drop (fun a ha=>by
          rcases List.mem_append.mp ha with z | z
          ·exact mem_append_left _ (hG' a z)
          ·exact mem_append_right _ z) (List.nodup_append.mpr ⟨ndk,k2,fun a ha b hb=>k3 a (hG' a ha) b hb⟩)
         have E6:=(E5.perm pmO).forget2
         have hDin:A0∈A0::(Gs++[keepG s G]).flatten++O:=mem_cons_self
         have E7:=E6.mutO (o:=.lst (ys++[u])) hDin at4 hHeD
         have subH:∀a∈A0::(Gs++[keepG s G]).flatten++O++Fs4.flatten,a∈G++(A0::Gs.flatten++O)++Fs4.flatten:=fun a ha=>by
          rcases List.mem_append.mp ha with z | z
          ·rcases List.mem_append.mp (pmO.mem_iff.mp z) with y | y
           ·exact mem_append_left _ (mem_append_left _ (hG' a y))
           ·exact mem_append_left _ (mem_append_right _ y)
          ·exact mem_append_right _ z
         have Dnot:∀{m:Nat} {Gj:List Addr},Gs[m]?=some Gj->A0∉Gj:=fun {m Gj} hj z=>by
          have nd:=g.env.ndO
          exact (List.nodup_cons.mp nd).1 (mem_append_left _ (zBA hj z))
         refine ⟨at4,vs.length-(k+1),by omega,rfl,hlt,(Γb.set i none).set j none,Fs4,Gs++[keepG s G],acc++[p.d],⟨E7,fun b o hb=>?_,zAU,fun a ha=>?_,by simp [g.l1],by simp [g.l2],fun m w d' G' h1 h2 h3=>?_,by rw [length_set,length_set];exact lenb⟩,eg'⟩
         ·rw [zA6 (zBF hb hD)]
          exact s14 b o hb
         ·rcases List.mem_append.mp ha with z | z
          ·rw [zAZ] at z
           rcases List.mem_append.mp z with z | z
           ·exact g.new a (mem_append_left _ z)
           ·exact new4 a (mem_append_left _ (hG' a z))
          ·exact new4 a (mem_append_right _ z)
         ·by_cases hm:m<ys.length
          ·rw [getElem?_append_left hm] at h1
           rw [getElem?_append_left (by rw [<-g.l1];exact hm)] at h2
           rw [getElem?_append_left (by rw [g.l2,<-g.l1];exact hm)] at h3
           have o1:=g.own m w d' G' h1 h2 h3
           have o2:=o1.mono (O':=A0::(Gs++[keepG s G]).flatten++O++Fs4.flatten) (s3.trans A4.same) fun a ha=>by
            have up:a∈G++Fs4.flatten->a∈A0::Gs.flatten++O++Fk.flatten\/H' a=none:=fun z=>(A4.new a z).elim (fun y=>(n3k a y).elim (fun y=>.inl (mem_append_right _ y)) .inr) fun y=>.inr (s3.free y)
            rcases List.mem_append.mp (subH a ha) with z | z
            ·rcases List.mem_append.mp z with z | z
             ·exact up (mem_append_left _ z)
             ·exact .inl (mem_append_left _ z)
            ·exact up (mem_append_right _ z)
           exact o2.mut hsv (mem_append_left _ hDin) (Dnot h3) at4
          ·have hm':m=ys.length:=by
            have:=(List.getElem?_eq_some_iff.mp h1).1
            rw [length_append,length_singleton] at this
            omega
           subst hm'
           rw [getElem?_append_right (Nat.le_refl _),Nat.sub_self] at h1
           rw [getElem?_append_right (by rw [g.l1];exact Nat.le_refl _),show ys.length-acc.length=0 by rw [g.l1];exact Nat.sub_self _] at h2
           rw [getElem?_append_right (by rw [g.l2,g.l1];exact Nat.le_refl _),show ys.length-Gs.length=0 by rw [g.l2,g.l1];exact Nat.sub_self _] at h3
           cases h1
           cases h2
           cases h3
           have o3:=A4.own.coer (s:=s) (O':=A0::(Gs++[keepG s G]).flatten++O++Fs4.flatten) hco subH fun a ha hO=>by
            cases s with
            | leaf=>
             exfalso
             have hO':a∈(A0::Gs.flatten++O)++Fs4.flatten:=by
              rw [zAZ] at hO
              simpa [keepG] using hO
             rcases List.mem_append.mp hO' with z | z
             ·exact k3 a ha a z rfl
             ·have nd:=A4.env.nd
              exact (List.nodup_append.mp nd).2.2 a (mem_append_left _ ha) a z rfl
            | view=>cases hsv
            | lst s=>exact ha
            | tup ss=>exact ha
           refine o3.mut hsv (mem_append_left _ hDin) (fun z=>?_) at4
           exact k3 A0 (hG' A0 z) A0 mem_cons_self rfl
  | _=>exact h.elim
end
def zHP (N:List Str) (is:List Nat) (cs:List Nat) (sc:Scope):Bool:=
 decide (sc.kind=.function)&&(sc.names.all fun p=>!decide (p.2=.free)||cs.any fun j=>decide (N[j]?=some p.1)) &&
 ((List.range N.length).all fun j=>is.contains j||(sc.names.all fun p=>!decide (some p.1=N[j]?)||(!decide (p.2=.local)&&!decide (p.2=.cell)))) &&
 (sc.names.all fun p=>!decide (p.2=.local)||decide (sc.names.lookup p.1=some .local)) &&
 (sc.names.all fun p=>!decide (p.2=.free)||sc.names.all fun q=>!decide (q.1=p.1)||!decide (q.2=.cell))
theorem zIK {X:Cx} {N gl:List Str} {vs cs ls lo gs is:List Nat} {scope:Scope} (S:Cp X N gl vs cs ls lo gs) (h:zHP N is cs scope=true):CompSc X.N is X.env.scope scope:=by
 unfold zHP at h
 simp only [Bool.and_eq_true,decide_eq_true_eq,all_eq_true,Bool.or_eq_true,Bool.not_eq_true',decide_eq_false_iff_not,any_eq_true,mem_range] at h
 obtain ⟨⟨⟨⟨h0,h1⟩,h2⟩,h3⟩,h4⟩:=h
 refine ⟨h0,fun n hn=>?_,fun j x e hj=>?_,fun x hx e=>?_,fun n hn hc=>?_⟩
 ·rcases h1 _ hn with z | ⟨j,hj,e⟩
  ·exact absurd rfl z
  ·exact S.cel j n e (by simpa using hj)
 ·rw [S.hN] at e
  rcases h2 j (List.getElem?_eq_some_iff.mp e).1 with z | z
  ·simpa using z
  ·exfalso
   rcases hj with y | y
   ·rcases z _ y with w | w
    ·exact w e.symm
    ·exact w.1 rfl
   ·rcases z _ y with w | w
    ·exact w e.symm
    ·exact w.2 rfl
 ·rcases h3 x hx with z | z
  ·exact absurd e z
  ·exact z
 ·rcases h4 _ hn with z | z
  ·exact z rfl
  ·rcases z _ hc with w | w
   ·exact w rfl
   ·exact w rfl
section
variable {X:Cx} {N gl:List Str} {vs cs ls lo gs:List Nat} {W:XW} {a:Expr} {pos p:Pos} {fa:F1}
theorem coE {scope:Scope} {x y:Str} {px py pt cpos:Pos} {kt:Nat} {elt:Expr} {ifs:List Expr} {fe:F1} {fc:FB} {vs' cs' lo' gs':List Nat} (S:Cp X N gl vs cs ls lo gs) (s:Sh) (i j k:Nat) (hij:(i != j)=true) (hx:N[i]?=some x) (hy:N[j]?=some y) (hk:gl[k]?=some ("enumerate":Str)) (hg:gs.contains k=true) (hm:X.mg "enumerate"=none)
  (h1:zHP N [i,j] cs scope=true) (h2:cpB N gl vs' cs' [i,j] lo' gs' scope=true) (ha:PE X a (tE X.K W fa)) (hs1:starEach [a] X.env=[(false,eval a X.env)])
  (hc:Blk X N gl vs' cs' [i,j] lo' gs' fun Y=>PF Y ifs (tT Y.K W0 fc)) (he:Blk X N gl vs' cs' [i,j] lo' gs' fun Y=>PE Y elt (tE Y.K W0 fe)) (hs:∀x,foldedSetIterable (.Call (.Name "enumerate" p) [a] [] cpos) X.env x=pure x) :
  PE X (.ListComp elt [⟨.Tuple [.Name x px,.Name y py] kt pt,.Call (.Name "enumerate" p) [a] [] cpos,ifs,0⟩] scope pos) (tE X.K W (zCI s i j fa fc fe)):=by
 have B:=fun cells C s₀ H₀ ex=>S.blk h2 cells C s₀ H₀ ex
 have L:=fun cells C s₀ H₀ ex=>(B cells C s₀ H₀ ex).loc i x hx (by simp)
 have L2':=fun cells C s₀ H₀ ex=>(B cells C s₀ H₀ ex).loc j y hy (by simp)
 have hN:X.N.Nodup:=by rw [S.hN];exact S.nd
 exact PEimp (pe_comp (zIK S h1) S.calm (pi_enum (S.g hk hg).1 hm (da_cons ha da_nil hs1) hs1)
  (fun cells C s₀ H₀ ex=>zJL (X:=blk X scope cells C s₀ H₀ ex) S.calm (zCP (zCL (X:=blk X scope cells C s₀ H₀ ex) (i:=i) hN (by show X.N[i]?=_;rw [S.hN];exact hx) (L cells C s₀ H₀ ex).1 (L cells C s₀ H₀ ex).2) (zCP (zCL (X:=blk X scope cells C s₀ H₀ ex) (i:=j) hN (by show X.N[j]?=_;rw [S.hN];exact hy) (L2' cells C s₀ H₀ ex).1 (L2' cells C s₀ H₀ ex).2) zH6)))
  (fun cells C s₀ H₀ ex=>hc _ (B cells C s₀ H₀ ex) ⟨rfl,rfl,rfl,rfl,rfl,rfl⟩) (fun cells C s₀ H₀ ex=>he _ (B cells C s₀ H₀ ex) ⟨rfl,rfl,rfl,rfl,rfl,rfl⟩) hs) fun _ _ _=>rd_compE (by simpa using hij)
end
end T
namespace TQ
open PySem PySem.Spec L2 T
open PyProof.Rows hiding St
section
variable {X:Cx} {N gl:List Str} {vs cs ls lo gs:List Nat} {W:XW} {a b c e:Expr} {es:List Expr} {pos p:Pos} {fa fb fc:F1} {fl:FL} {ga gb:FB} {g1 g2 g:FS}
theorem zHA {st:Stmt}:Q (PS X st (tS X.K W sNo)):=⟨T.ds_no ⟩
theorem zBM (ha:Q (PE X e (tE X.K W fa))) (hs:swapsWith e none pos.line X.env=pure false):Q (PS X (.Expr e pos) (tS X.K W (sDrop fa))):=⟨T.ds_drop ha.p hs⟩
theorem w_cb_listRange {p2 pos2:Pos} (S:Cp X N gl vs cs ls lo gs) (j k:Nat) (hj:gl[j]?=some ("list":Str)) (hg:gs.contains j=true) (hm:X.mg "list"=none) (hk:gl[k]?=some ("range":Str)) (hg2:gs.contains k=true) (hm2:X.mg "range"=none) (ha:Q (PA X [a] (tA X.K W fl))) (hs:starEach [a] X.env=[(false,eval a X.env)]) (hs1:starEach [.Call (.Name "range" p2) [a] [] pos2] X.env=[(false,eval (.Call (.Name "range" p2) [a] [] pos2) X.env)]):Q (PE X (.Call (.Name "list" p) [.Call (.Name "range" p2) [a] [] pos2] [] pos) (tE X.K W (eLR fl))):=⟨T.cb_listRange S j k hj hg hm hk hg2 hm2 ha.p hs hs1⟩
theorem w_cs_while (n:Nat) {body:List Stmt} (hp:PassesOwn (model X.prog X.w) X.A X.env X.xe) (hc:Q (PT X c (tT X.K W ga))) (hb:Q (PSs X body (tS X.K W g))):Q (PS X (.While c body [] pos) (tS X.K W (zH2 n ga g))):=⟨T.cs_while n hp hc.p hb.p⟩
theorem w_coE {scope:Scope} {x y:Str} {px py pt cpos:Pos} {kt:Nat} {elt:Expr} {ifs:List Expr} {fe:F1} {fc:FB} {vs' cs' lo' gs':List Nat} (S:Cp X N gl vs cs ls lo gs) (s:Sh) (i j k:Nat) (hij:(i != j)=true) (hx:N[i]?=some x) (hy:N[j]?=some y) (hk:gl[k]?=some ("enumerate":Str)) (hg:gs.contains k=true) (hm:X.mg "enumerate"=none) (h1:zHP N [i,j] cs scope=true) (h2:cpB N gl vs' cs' [i,j] lo' gs' scope=true) (ha:Q (PE X a (tE X.K W fa))) (hs1:starEach [a] X.env=[(false,eval a X.env)]) (hc:Blk X N gl vs' cs' [i,j] lo' gs' fun Y=>Q (PF Y ifs (tT Y.K W0 fc))) (he:Blk X N gl vs' cs' [i,j] lo' gs' fun Y=>Q (PE Y elt (tE Y.K W0 fe))) (hs:∀x,foldedSetIterable (.Call (.Name "enumerate" p) [a] [] cpos) X.env x=pure x):Q (PE X (.ListComp elt [⟨.Tuple [.Name x px,.Name y py] kt pt,.Call (.Name "enumerate" p) [a] [] cpos,ifs,0⟩] scope pos) (tE X.K W (zCI s i j fa fc fe))):=⟨T.coE S s i j k hij hx hy hk hg hm h1 h2 ha.p hs1 (fun Y S F=>(hc Y S F).p) (fun Y S F=>(he Y S F).p) hs⟩
end
end TQ
namespace L2
open PySem PySem.Spec PyProof.Rows
section
variable {κ:Type} [DecidableEq κ]
end
section
variable {P:Program} {w:World} {H:Hp} {h:Heap} {a:Addr}
end
section
variable {X:Cx} {pins:List (Addr×Obj)} {σ:St} {H:Hp} {s:Shared} {a:Addr} {y v:V} {u r:Value} {o:Option V} {A:Around} {E:Value->Shared->Prop}
end
section
variable {X:Cx} {pins:List (Addr×Obj)} {σ:St} {H:Hp} {s:Shared} {a:Addr} {kvs:List (Key×V)} {k:Key} {u:Value} {A:Around} {E:Value->Shared->Prop}
end
section
variable {X:Cx} {o i e value:Expr} {pos pos' tpos:Pos} {td ty tv:TE}
end
section
variable {X:Cx} {pos:Pos}
end
end L2
namespace T
open PySem PySem.Spec L2
open PyProof.Rows hiding St
def zD0:PySem.PyData->Bool
 | .none=>true
 | _=>false
def gIsN (neg:Bool):PySem.PyData->PySem.PyData->Option PySem.PyData
 | a,.none=>some (.bool (if neg then !zD0 a else zD0 a))
 | _,_=>none
theorem none_iff {K:Fg} {H:Hp} {x:V} {a:PySem.PyData} (r:Rep K H x a):decide (x=V.non)=zD0 a:=by
 cases r<;>simp [zD0]
theorem gop_isN {K:Fg}:GOp K (fun x y H Q=>y=.non/\Q (.bl (decide (x=.non))) H) (gIsN false):=by
 intro x y H Q a b d ra rb e k
 cases rb<;>simp only [gIsN] at e<;>try cases e
 exact ⟨rfl,by rw [none_iff ra];exact k _ (.bl _)⟩
theorem gop_notN {K:Fg}:GOp K (fun x y H Q=>y=.non/\Q (.bl (!decide (x=.non))) H) (gIsN true):=by
 intro x y H Q a b d ra rb e k
 cases rb<;>simp only [gIsN] at e<;>try cases e
 exact ⟨rfl,by rw [none_iff ra];exact k _ (.bl _)⟩
theorem q_is {X:Cx} (R:Rm X):Ck X .Is (fun x y H Q=>y=.non/\Q (.bl (decide (x=.non))) H) (gIsN false):=⟨op_isN,gop_isN⟩
theorem zFR {X:Cx} (R:Rm X):Ck X .IsNot (fun x y H Q=>y=.non/\Q (.bl (!decide (x=.non))) H) (gIsN true):=⟨op_notN,gop_notN⟩
def gAddS:PySem.PyData->PySem.PyData->Option PySem.PyData
 | .str i,.str j=>if i.length+j.length<=sizeLine then some (.str (i++j)) else none
 | _,_=>none
def eCat (fa fb:F1):F1:=eBind fa fun p=>eBind fb fun q=>fun Γ=>match p.d,q.d with
 | .list xs,.list ys=>if zAP p xs&&zAP q ys&&decide (xs.length+ys.length<=sizeLine) then .ok ⟨.lst .leaf,.list (xs++ys)⟩ Γ else .no
 | _,_=>.no
def eCatT (fa fb:F1):F1:=eBind fa fun p=>eBind fb fun q=>fun Γ=>match p.d,q.d with
 | .tuple xs,.tuple ys=>if !p.s.isView&&zAP q ys&&!xs.isEmpty&&decide (xs.length+ys.length<=sizeLine) then .ok ⟨.leaf,.tuple (xs++ys)⟩ Γ else .no
 | _,_=>.no
def eSlT (fa fb:F1):F1:=eBind fa fun p=>eBind fb fun q=>fun Γ=>match p.d,q.d with
 | .tuple xs,.int k=>if !p.s.isView&&decide (1<=k)&&decide (k<=xs.length) then .ok ⟨.leaf,.tuple (xs.drop k.toNat)⟩ Γ else .no
 | _,_=>.no
def rCatL (K:Fg):R2:=fun x y H Q=>∃l b xs zs,x=.ref l/\y=.ref b/\SqL K H l xs/\SqL K H b zs/\xs.length+zs.length<=sizeLine/\∀p,H p=none->Q (.ref p) (upd H p (.lst (xs++zs)))
theorem cat_any {prog:Program} {w:World} {A:Around} {E:Value->Shared->Prop} {s:Shared} {l b:Addr} {vs ws:List Value} {Q:Value->Shared->Prop} (hl:s.heap.IsList l vs.toArray) (hb:s.heap.IsList b ws.toArray) (hz:vs.length+ws.length<=sizeLine)
  (h:Q (.ref s.heap.objs.size) { s with heap:=s.heap.push { cls:=.type "list",data:=.seq (vs++ws).toArray } }):wpAny (model prog w) A (binaryOp .Add (.ref l) (.ref b)) Q E s:=by
 obtain ⟨⟨cls,dd,data,sl⟩,ho,hc,n,hd⟩:=id hl
 obtain ⟨⟨cls2,dd2,data2,sl2⟩,ho2,hc2,n2,hd2⟩:=id hb
 simp only at hc hd hc2 hd2
 subst hc hd hc2 hd2
 have e:vs.toArray++ws.toArray=(vs++ws).toArray:=by simp
 rw [<-e] at h
 exact concat_meets ⟨_,ho,rfl⟩ ⟨_,ho2,rfl⟩ noFill_list_add seq_list_add PySem.F.slot_list_add PySem.F.entry_list_add (PySem.F.args_list_add_2 _ _) (list_addW l b vs.toArray ws.toArray n n2 dd dd2 sl sl2 (by simpa using hz)) ⟨ho,ho2,h⟩
theorem op_catL {X:Cx}:OpR X (binaryOp .Add) (rCatL X.K):=by
 intro pins s σ H x y v u Q I rx ry h
 obtain ⟨l,b,xs,zs,rfl,rfl,hH,hB,hz,q⟩:=h
 cases rx
 cases ry
 obtain ⟨its,r,pl,z⟩:=I.list hH
 obtain ⟨its2,r2,pl2,z2⟩:=I.list hB
 refine cat_any pl.isList pl2.isList (by rw [<-r.length,<-r2.length];exact hz) ?_
 exact ⟨.ref _,_,I.lnew (t':=s.toks) (r.append r2) (by rw [length_append];exact hz),rfl,q _ I.fresh⟩
section
variable {K:Fg} {W:XW} {σ:St} {H:Hp} {Q:VK} {D:Ends} {fa fb:F1} {fl:FL}
theorem Reps.app {vs ws:List V} {ds es:List PySem.PyData} (h:Reps K H vs ds) (h':Reps K H ws es):Reps K H (vs++ws) (ds++es):=by
 refine ⟨by rw [length_append,length_append,h.1,h'.1],fun i v d e1 e2=>?_⟩
 by_cases hi:i<vs.length
 ·rw [getElem?_append_left hi] at e1
  rw [getElem?_append_left (by rw [<-h.1];exact hi)] at e2
  exact h.2 i v d e1 e2
 ·rw [getElem?_append_right (by omega)] at e1
  rw [getElem?_append_right (by rw [<-h.1];omega),<-h.1] at e2
  exact h'.2 _ v d e1 e2
theorem Reps.drop {vs:List V} {ds:List PySem.PyData} (k:Nat) (h:Reps K H vs ds):Reps K H (vs.drop k) (ds.drop k):=by
 refine ⟨by rw [length_drop,length_drop,h.1],fun i v d e1 e2=>?_⟩
 rw [List.getElem?_drop] at e1 e2
 exact h.2 _ v d e1 e2
theorem dis2 {G2 G1 O F:List Addr} (nd:(G2++(G1++O)++F).Nodup):(∀a∈G1,a∉O++F)/\(∀a∈G2,a∉O++F):=by
 rw [append_assoc,append_assoc] at nd
 obtain ⟨_,n2,n3⟩:=List.nodup_append.mp nd
 obtain ⟨_,_,n4⟩:=List.nodup_append.mp n2
 exact ⟨fun a ha z=>n4 a ha a z rfl,fun a ha z=>n3 a ha a (mem_append_right _ z) rfl⟩
theorem sub4 {G2 G1 O F:List Addr}:∀a∈O++F,a∈G2++(G1++O)++F:=fun a ha=>by
 rcases List.mem_append.mp ha with z | z
 ·exact mem_append_left _ (mem_append_right _ (mem_append_right _ z))
 ·exact mem_append_right _ z
theorem leafOld {He H1:Hp} {O:List Addr} {Fs Fs1:List (List Addr)} {Γ1:Ev} {v:V} {d:PySem.PyData} (E:EnvOk K He O Fs1 H1 σ Γ1) (s:Same H H1) (n:∀a∈Fs1.flatten,a∈Fs.flatten\/H a=none)
  (hr:Rep K (hid H1 (O++Fs1.flatten)) v d):Aft K He O Fs H σ Γ1 ⟨.leaf,d⟩ v H1 [] Fs1:=
 ⟨s,by rw [nil_append];exact E,by rw [nil_append];exact n,.leaf (by rw [nil_append];exact hr)⟩
theorem rd_cat (h:tE K W (eCat fa fb) σ H Q):tOp (rCatL K) (tE K W fa) (tE K W fb) σ H Q:=by
 refine zJI (R:=fun v u H2=>rCatL K v u H2 Q) h fun He O Fs Γ2 p q v u H1 H2 G1 G2 Fs2 nd s1 s2 E new o1 o2 w=>?_
 obtain ⟨s,d⟩:=p
 obtain ⟨s',d'⟩:=q
 dsimp only at w o1 o2
 split at w
 ·rename_i xs ys
  cases hc:(zAP ⟨s,.list xs⟩ xs&&zAP ⟨s',.list ys⟩ ys&&decide (xs.length+ys.length<=sizeLine)) with
  | false=>rw [hc] at w;exact w.elim
  | true=>
   rw [hc] at w
   simp only [Bool.and_eq_true,decide_eq_true_eq] at hc
   obtain ⟨⟨h1,h2⟩,h3⟩:=hc
   obtain ⟨d1,d2⟩:=dis2 E.nd
   obtain ⟨p1,vs,rfl,q1,_,r1⟩:=o1.items (O':=O++Fs2.flatten) h1 sub4 d1
   obtain ⟨p2,ws,rfl,q2,_,r2⟩:=o2.items (O':=O++Fs2.flatten) h2 sub4 d2
   refine ⟨p1,p2,vs,ws,rfl,rfl,q1,q2,by rw [r1.1,r2.1];exact h3,fun p' hp'=>w _ _ _ _ (zHS (E.drop (fun a ha=>mem_append_right _ (mem_append_right _ ha)) nd) (s1.trans s2) (fun a ha=>new a (mem_append_right _ (mem_append_right _ ha))) (r1.app r2) hp')⟩
 ·exact w.elim
end
theorem reps_ints {K:Fg} {H:Hp} {ws:List V} {ns:List Int} (h:Reps K H ws (ns.map .int)):ws=ns.map V.int:=by
 obtain ⟨hwl,hw⟩:=h
 apply ext_getElem?
 intro i
 by_cases hi:i<ws.length
 ·have hi2:i<ns.length:=by rw [length_map] at hwl;omega
  have q:=hw i (ws[i]'hi) (.int (ns[i]'hi2)) (getElem?_eq_getElem _) (by rw [getElem?_map,getElem?_eq_getElem hi2];rfl)
  rw [getElem?_eq_getElem hi,getElem?_map,getElem?_eq_getElem hi2]
  generalize ws[i]'hi=u at q
  cases q
  rfl
 ·rw [getElem?_eq_none (by omega),getElem?_eq_none (by rw [length_map] at hwl ⊢;omega)]
def lookT (k:Str):List (Str×Int)->Option Int
 | []=>none
 | (x,i)::r=>if k=x then some i else lookT k r
def eInT (neg:Bool) (tab:List (Str×Int)) (fa:F1):F1:=eBind fa fun p Γ=>match p.d with
 | .str k=>.ok ⟨.leaf,.bool (if neg then !(lookT k tab).isSome else (lookT k tab).isSome)⟩ Γ
 | _=>.no
def eGetT (tab:List (Str×Int)) (fa:F1):F1:=eBind fa fun p Γ=>match p.d with
 | .str k=>(match lookT k tab with
  | some i=>.ok ⟨.leaf,.int i⟩ Γ
  | none=>.no)
 | _=>.no
section
variable {K:Fg} {W:XW} {σ:St} {H:Hp} {Q:VK} {fa:F1}
end
section
variable {X:Cx} {N gl:List Str} {vs cs ls lo gs:List Nat} {W:XW} {a b c e:Expr} {es:List Expr} {pos p:Pos} {fa fb fc:F1} {fl:FL} {g:FS}
theorem ce_cat (ha:PE X a (tE X.K W fa)) (hb:PE X b (tE X.K W fb)):PE X (.BinOp a .Add b pos) (tE X.K W (eCat fa fb)):=PEimp (pe_op op_catL ha hb) fun _ _ _=>rd_cat
end
def idxK (i:Nat) (q:PV) (Γ:Ev):Out PV:=match Γ[i]?,q.d with
 | some (some ⟨.lst .leaf,.list ds⟩),.int k=>(match ixN ds.length k with
  | some j=>(match ds[j]? with
   | some d=>.ok ⟨.leaf,d⟩ Γ
   | none=>.no)
  | none=>.no)
 | _,_=>.no
section
variable {K:Fg} {W:XW} {σ:St} {H:Hp} {Q:VK} {D:Ends} {fa fb:F1} {fl:FL}
def firm (p:PV):Bool:=match p with
 | ⟨.lst .leaf,.list ds⟩=>ds.all scalD
 | _=>false
def zHO (n:Nat) (den:List PySem.PyData->Res) (fl:FL):F1:=fun Γ=>(fl Γ).bind fun ps Γ'=>if ps.length=n then (match den (ps.map (·.d)) with
 | .ok p=>if firm p then .ok p Γ' else .no
 | _=>.no) else .no
theorem rd_callF {n:Nat} {den:List PySem.PyData->Res} {E:XK} (h:tE K W (zHO n den fl) σ H Q):tCall (spD K n den) [] E (tA K W fl) σ H Q:=by
 obtain ⟨He,O,Fs,Γ,E0,h⟩:=h
 refine ⟨He,O,Fs,Γ,E0,?_⟩
 unfold zHO at h
 cases e:fl Γ with
 | er c Γ'=>rw [e] at h;exact h
 | no=>rw [e] at h;exact h
 | ok ps Γ1=>
  rw [e] at h
  intro vs H1 Gs Fs1 A
  have h:Wants K W He O Fs H σ Q (if ps.length=n then (match den (ps.map (·.d)) with | .ok p=>if firm p then .ok p Γ1 else .no | _=>.no) else .no):=h
  by_cases hn:ps.length=n
  case neg=>rw [if_neg hn] at h;exact h.elim
  rw [if_pos hn] at h
  have hl:(vs++[]).length=n:=by rw [append_nil,A.len1];exact hn
  cases ed:den (ps.map (·.d)) with
  | er c=>rw [ed] at h;exact h.elim
  | no=>rw [ed] at h;exact h.elim
  | ok p=>
   rw [ed] at h
   have h:Wants K W He O Fs H σ Q (if firm p then .ok p Γ1 else .no):=h
   have newF:∀a∈Fs1.flatten,a∈Fs.flatten\/H a=none:=fun a ha=>A.new a (mem_append_right _ ha)
   cases hc:firm p with
   | false=>rw [hc] at h;exact h.elim
   | true=>
    rw [hc] at h
    have h:Wants K W He O Fs H σ Q (.ok p Γ1):=h
    refine ⟨hl,[],ps.map (·.d),nodup_nil,(fun _ z=>nomatch z),by rw [append_nil,zJ2];exact A.reps,?_⟩
    rw [ed]
    intro v H2 G r
    unfold firm at hc
    split at hc
    ·rename_i ds
     obtain ⟨l,us,rfl,rfl,hp,hul,hr⟩:=r.own.leaves
     refine h (.ref l) H2 [l] Fs1 ⟨A.same.trans r.same,A.env.dropL.hide r.same r.nd r.fresh r.inH,fun a ha=>?_,Own.mkLeaves hp hul fun j u d e1 e2=>((hr j u d e1 e2).sc (List.all_eq_true.mp hc d (mem_of_getElem? e2))).rep⟩
     rcases List.mem_append.mp ha with z | z
     ·exact .inr (A.same.free (r.fresh a z))
     ·exact newF a z
    ·cases hc
def augK (i:Nat) (a:Int) (p:PV) (Γ:Ev):OutS:=match p.d with
 | .int b=>if i<Γ.length then .nx (Γ.set i (some ⟨.leaf,.int (a+b)⟩)) else .no
 | _=>.no
def sAugI (i:Nat) (f:F1):FS:=fun Γ=>match Γ[i]? with
 | some (some ⟨.leaf,.int a⟩)=>sOf f (augK i a) Γ
 | _=>.no
theorem rd_aug {i:Nat} (h:tS K W (sAugI i fa) D σ H):tAug i (tE K W fa) (ipI fun i j=>i+j) D σ H:=by
 obtain ⟨He,O,Fs,Γ,E,h⟩:=h
 unfold sAugI at h
 split at h
 ·rename_i a e0
  obtain ⟨_,v,F,h1,h2,h3⟩:=E.slot i _ e0
  have r:=h3.rep
  cases r
  refine ⟨.int a,h1,?_⟩
  refine tS_of (D:=D) (k:=augK i a) ⟨He,O,Fs,Γ,E,h⟩ fun He O Fs Γ1 p u H1 G Fs1 _ fr A w=>?_
  unfold augK at w
  split at w
  ·rename_i b eb
   have r:=A.own.rep
   rw [eb] at r
   cases r
   by_cases hi:i<Γ1.length
   ·rw [if_pos hi] at w
    exact ⟨a,b,rfl,rfl,w _ _ _ (EnvOk.put (G:=[]) (p:=⟨.leaf,.int (a+b)⟩) (v:=.int (a+b)) A.go (.leaf (.int _)) rfl (fun a ha=>by simp at ha) hi)⟩
   ·rw [if_neg hi] at w;exact w.elim
  ·exact w.elim
 ·exact h.elim
def extK (i:Nat) (p:PV) (Γ:Ev):OutS:=match Γ[i]?,p.d with
 | some (some ⟨.lst .leaf,.list ds⟩),.tuple es=>if zAP p es&&decide (ds.length+es.length<=sizeLine) then .nx (Γ.set i (some ⟨.lst .leaf,.list (ds++es)⟩)) else .no
 | some (some ⟨.lst .leaf,.list ds⟩),.list es=>if zAP p es&&decide (ds.length+es.length<=sizeLine) then .nx (Γ.set i (some ⟨.lst .leaf,.list (ds++es)⟩)) else .no
 | _,_=>.no
def sExt (i:Nat) (f:F1):FS:=fun Γ=>if zFV Γ[i]? then sOf f (extK i) Γ else .no
def rExt (K:Fg):V->List V->Hp->VK->Prop:=fun x vs H Q=>∃l b xs zs,x=.ref l/\vs=[.ref b]/\H l=some (.lst xs)/\(SqL K H b zs\/SqT K H b zs)/\xs.length+zs.length<=sizeLine/\Q .non (upd H l (.lst (xs++zs)))
theorem rd_ext {i:Nat} (h:tS K W (sExt i fa) D σ H):tDrop (tBM K "list" (rExt K) (tVar i) (tA K W (eCons fa eNil))) D σ H:=by
 obtain ⟨He,O,Fs,Γ,E,h⟩:=h
 unfold sExt at h
 cases ho:zFV Γ[i]? with
 | false=>rw [ho] at h;exact h.elim
 | true=>
  rw [ho] at h
  obtain ⟨ds,e0⟩:=isOwnLf_eq ho
  obtain ⟨l,vs,h1,h2,h3,_,_⟩:=E.chgF e0
  refine ⟨.ref l,h1,.inl ⟨rfl,vs,.of h2⟩,zKA (tS_of (D:=D) ⟨He,O,Fs,Γ,E,h⟩ fun He O Fs Γ1 p v H1 G Fs1 _ fr A w=>?_)⟩
  obtain ⟨s,d⟩:=p
  have fin:∀(ds1 es:List PySem.PyData) (b:Addr) (ws:List V),Γ1[i]?=some (some ⟨.lst .leaf,.list ds1⟩)->v=.ref b->(SqL K H1 b ws\/SqT K H1 b ws)->Reps K (hid H1 (O++Fs1.flatten)) ws es->ds1.length+es.length<=sizeLine ->
    zCJ K W He O D (.nx (Γ1.set i (some ⟨.lst .leaf,.list (ds1++es)⟩)))->rExt K (.ref l) [v] H1 (fun _ H2=>D.nx σ H2):=fun ds1 es b ws e1 hv hq hr hz w=>by
   obtain ⟨l1,vs1,q1,q2,q3,q4,q5⟩:=A.go.chgF e1
   rw [h1] at q1
   cases q1
   subst hv
   refine ⟨l,b,vs1,ws,rfl,rfl,q2,hq,by rw [q3,hr.1];exact hz,w σ _ _ (q5 (vs1++ws) (ds1++es) (by rw [length_append,length_append,q3,hr.1]) ?_)⟩
   exact (Reps.app ⟨q3,q4⟩ hr).2
  unfold extK at w
  split at w
  ·rename_i ds1 es e1 e2
   dsimp only at e2
   subst e2
   cases hc:(zAP ⟨s,.tuple es⟩ es&&decide (ds1.length+es.length<=sizeLine)) with
   | false=>rw [hc] at w;exact w.elim
   | true=>
    rw [hc] at w
    simp only [Bool.and_eq_true,decide_eq_true_eq] at hc
    obtain ⟨b,ws,rfl,hq,_,hr⟩:=A.own.itemsT (O':=O++Fs1.flatten) hc.1 sub3 A.disj
    exact fin ds1 es b ws e1 rfl (.inr hq) hr hc.2 w
  ·rename_i ds1 es e1 e2
   dsimp only at e2
   subst e2
   cases hc:(zAP ⟨s,.list es⟩ es&&decide (ds1.length+es.length<=sizeLine)) with
   | false=>rw [hc] at w;exact w.elim
   | true=>
    rw [hc] at w
    simp only [Bool.and_eq_true,decide_eq_true_eq] at hc
    obtain ⟨b,ws,rfl,hq,_,hr⟩:=A.own.items (O':=O++Fs1.flatten) hc.1 sub3 A.disj
    exact fin ds1 es b ws e1 rfl (.inl hq) hr hc.2 w
  ·exact w.elim
end
theorem extT {l b:Addr} {xs ys:Array Value} {n m:Nat} {d2:Option Addr} {s2:Array (Option Value)} (h0:¬(!xs.isEmpty&&Builtin.List.listTooLong (xs.size+ys.size))=true) (h1:xs.size<=sizeLine) (h2:(xs++ys).size<=sizeLine+1) :
  Meets (Builtin.«list.extend» ⟨[.ref l,.ref b],[]⟩) (fun _ R s=>s.heap.get? l=some ⟨.type "list",none,.seq xs n,#[]⟩/\s.heap.get? b=some ⟨.type "tuple",d2,.seq ys m,s2⟩ /\
   R (.ok (.ret Value.none)) { s with heap:=s.heap.update l (Obj.mapSeq fun x=>x++ys),toks:=s.toks }):=
 .of_wp fun prog w A R s h=>by
  obtain ⟨hp,g,d,tk,os⟩:=s
  obtain ⟨hl,hb,h⟩:=h
  have f1:=AutoSeq1.idx_int
  have f2:=AutoSeq1.sub_tuple_tuple
  have f3:=AutoSeq1.sub_list_list
  have f4:=AutoSeq1.sub_tuple_list
  have f5:=AutoSeq1.sub_list_tuple
  wp_walk using (wpAny_updateSeq hl rfl (hz:=h1) (_hz':=h2)),AutoSeq1.wpAny_loadPart' hl,AutoSeq1.wpAny_loadPart' hb
  exact ⟨_,rfl,h⟩
theorem extL {l b:Addr} {xs ys:Array Value} {n m:Nat} {d2:Option Addr} {s2:Array (Option Value)} (h0:¬(!xs.isEmpty&&Builtin.List.listTooLong (xs.size+ys.size))=true) (h1:xs.size<=sizeLine) (h2:(xs++ys).size<=sizeLine+1) :
  Meets (Builtin.«list.extend» ⟨[.ref l,.ref b],[]⟩) (fun _ R s=>s.heap.get? l=some ⟨.type "list",none,.seq xs n,#[]⟩/\s.heap.get? b=some ⟨.type "list",d2,.seq ys m,s2⟩ /\
   R (.ok (.ret Value.none)) { s with heap:=s.heap.update l (Obj.mapSeq fun x=>x++ys),toks:=s.toks }):=
 .of_wp fun prog w A R s h=>by
  obtain ⟨hp,g,d,tk,os⟩:=s
  obtain ⟨hl,hb,h⟩:=h
  have f1:=AutoSeq1.idx_int
  have f2:=AutoSeq1.sub_tuple_tuple
  have f3:=AutoSeq1.sub_list_list
  have f4:=AutoSeq1.sub_tuple_list
  have f5:=AutoSeq1.sub_list_tuple
  wp_walk using (wpAny_updateSeq hl rfl (hz:=h1) (_hz':=h2)),AutoSeq1.wpAny_loadPart' hl,AutoSeq1.wpAny_loadPart' hb
  exact ⟨_,rfl,h⟩
theorem mt_ext {X:Cx}:MtM X "list.extend" (rExt X.K):=by
 intro pins s σ H x vs v us Q I rx rv h
 obtain ⟨l,b,xs,zs,rfl,rfl,hH,hB,hz,q⟩:=h
 cases rx
 obtain ⟨u,rfl,ru⟩:=rv.one
 cases ru
 obtain ⟨z,its,n,r,hl,e⟩:=I.lstM hH
 have fin:∀its2:List Value,Vals zs its2->its.toArray.size+its2.toArray.size<=sizeLine/\(its.toArray++its2.toArray).size<=sizeLine+1/\its.toArray.size<=sizeLine/\¬(!its.toArray.isEmpty&&Builtin.List.listTooLong (its.toArray.size+its2.toArray.size))=true /\
   EP X pins σ Q Value.none { s with heap:=s.heap.update l (Obj.mapSeq fun x=>x++its2.toArray),toks:=s.toks }:=fun its2 r2=>by
  have h1:its.toArray.size+its2.toArray.size<=sizeLine:=by rw [size_toArray,size_toArray,<-r.length,<-r2.length];exact hz
  refine ⟨h1,by rw [Array.size_append];omega,by omega,?_,?_⟩
  ·rw [notLongL h1,Bool.and_false]
   exact Bool.false_ne_true
  ·exact ⟨.non,_,I.lset (its':=its++its2) hH e (by simp) (r.append r2) (by rw [length_append];exact hz),rfl,q⟩
 rcases hB with hB | hB
 ·obtain ⟨its2,r2,⟨⟨c2,d2,dat2,s2⟩,n2,e2,ec,ed,es⟩,_⟩:=I.list hB
  simp only at ec es
  subst ec es
  obtain ⟨f1,f2,f3,f4,f5⟩:=fin its2 r2
  exact call_meets F.slot_list_extend ⟨_,e,rfl⟩ F.entry_list_extend (F.args_list_extend_2 _ _) (extL f4 f3 f2) ⟨e,e2,f5⟩
 ·obtain ⟨its2,r2,⟨⟨c2,d2,dat2,s2⟩,e2,ec,n2,es⟩,_⟩:=I.tuple hB
  simp only at ec es
  subst ec es
  obtain ⟨f1,f2,f3,f4,f5⟩:=fin its2 r2
  exact call_meets F.slot_list_extend ⟨_,e,rfl⟩ F.entry_list_extend (F.args_list_extend_2 _ _) (extT f4 f3 f2) ⟨e,e2,f5⟩
section
variable {X:Cx} {N gl:List Str} {vs cs ls lo gs:List Nat} {W:XW} {a b c e:Expr} {es:List Expr} {pos p:Pos} {fa fb fc:F1} {fl:FL} {g:FS}
theorem cc_f {x:Str} {n:Nat} {den:List PySem.PyData->Res} (S:Cp X N gl vs cs ls lo gs) (j:Nat) (hj:gl[j]?=some x) (hg:gs.contains j=true) (C:Cal X x n den) (ha:PA X (e::es) (tA X.K W fl)) (he:starEach (e::es) X.env=(false,eval e X.env)::starEach es X.env) (hpl:(backTo pos (starEach es X.env)).any (·.1)=false) :
  PE X (.Call (.Name x p) (e::es) [] pos) (tE X.K W (zHO n den fl)):=by
 obtain ⟨k,f,fd,ps,F,hr,hm,hk,hb⟩:=C
 exact PEimp (pe_call F hr (S.g hj hg).1 hm hk hb .nil pass0 ha (S.g hj hg).2.1 he hpl) fun _ _ _=>rd_callF
theorem cs_aug (S:Cp X N gl vs cs ls lo gs) (i:Nat) {x:Str} {pos':Pos} (hi:N[i]?=some x) (hl:ls.contains i=true) (ha:PE X a (tE X.K W fa)):PS X (.AugAssign (.Name x pos') .Add a pos) (tS X.K W (sAugI i fa)):=
 PSimp (ps_aug (by rw [S.hN];exact S.nd) (by rw [S.hN];exact hi) (S.loc i x hi hl).1 ha ip_add (S.loc i x hi hl).2) fun _ _ _=>rd_aug
theorem cs_extend (S:Cp X N gl vs cs ls lo gs) (i:Nat) {x:Str} {apos cpos:Pos} (hi:N[i]?=some x) (hv:vs.contains i=true) (ha:PE X a (tE X.K W fa)) (hs:starEach [a] X.env=[(false,eval a X.env)])
  (hbase:attributeBase (.Name x p) "extend" X.env (eval (.Name x p) X.env)=eval (.Name x p) X.env) (hline:(apos.endLine==cpos.line)=true)
  (hfew:((backTo cpos (starEach [a] X.env)).all (fun x=>!x.1)&&(backToKw cpos (keywordEach [] X.env)).all (fun x=>x.1.isSome)
   && decide ([a].length+([]:List Keyword).length+(if ([]:List Keyword).isEmpty then 0 else 1)<30))=true)
  (hsw:swapsWith (.Call (.Attribute (.Name x p) "extend" apos) [a] [] cpos) none pos.line X.env=pure false) :
  PS X (.Expr (.Call (.Attribute (.Name x p) "extend" apos) [a] [] cpos) pos) (tS X.K W (sExt i fa)):=by
 have m:=S.nm x (mem_of_getElem? hi)
 exact PSimp (zJU (pe_bm PySem.F.plainAttrs_list PySem.F.slot_list_extend PySem.F.type_list_extend mt_ext (zIP (by rw [S.hN];exact hi) (S.vis i x hi hv) m.1 m.2) (da_cons ha da_nil hs) hbase hfew hline hs rfl) hsw) fun _ _ _=>rd_ext
end
end T
namespace TQ
open PySem PySem.Spec L2 T
open PyProof.Rows hiding St
section
variable {X:Cx} {N gl:List Str} {vs cs ls lo gs:List Nat} {W:XW} {a b c e:Expr} {es:List Expr} {pos p:Pos} {fa fb fc:F1} {fl:FL} {ga gb:FB} {g1 g2 g:FS}
theorem w_ce_cat (ha:Q (PE X a (tE X.K W fa))) (hb:Q (PE X b (tE X.K W fb))):Q (PE X (.BinOp a .Add b pos) (tE X.K W (eCat fa fb))):=⟨T.ce_cat ha.p hb.p⟩
theorem w_cc_f {x:Str} {n:Nat} {den:List PySem.PyData->Res} (S:Cp X N gl vs cs ls lo gs) (j:Nat) (hj:gl[j]?=some x) (hg:gs.contains j=true) (C:Cal X x n den) (ha:Q (PA X (e::es) (tA X.K W fl))) (he:starEach (e::es) X.env=(false,eval e X.env)::starEach es X.env) (hpl:(backTo pos (starEach es X.env)).any (·.1)=false):Q (PE X (.Call (.Name x p) (e::es) [] pos) (tE X.K W (zHO n den fl))):=⟨T.cc_f S j hj hg C ha.p he hpl⟩
theorem w_cs_aug (S:Cp X N gl vs cs ls lo gs) (i:Nat) {x:Str} {pos':Pos} (hi:N[i]?=some x) (hl:ls.contains i=true) (ha:Q (PE X a (tE X.K W fa))):Q (PS X (.AugAssign (.Name x pos') .Add a pos) (tS X.K W (sAugI i fa))):=⟨T.cs_aug S i hi hl ha.p⟩
theorem w_cs_extend (S:Cp X N gl vs cs ls lo gs) (i:Nat) {x:Str} {apos cpos:Pos} (hi:N[i]?=some x) (hv:vs.contains i=true) (ha:Q (PE X a (tE X.K W fa))) (hs:starEach [a] X.env=[(false,eval a X.env)]) (hbase:attributeBase (.Name x p) "extend" X.env (eval (.Name x p) X.env)=eval (.Name x p) X.env) (hline:(apos.endLine==cpos.line)=true) (hfew:((backTo cpos (starEach [a] X.env)).all (fun x=>!x.1)&&(backToKw cpos (keywordEach [] X.env)).all (fun x=>x.1.isSome)
   && decide ([a].length+([]:List Keyword).length+(if ([]:List Keyword).isEmpty then 0 else 1)<30))=true) (hsw:swapsWith (.Call (.Attribute (.Name x p) "extend" apos) [a] [] cpos) none pos.line X.env=pure false):Q (PS X (.Expr (.Call (.Attribute (.Name x p) "extend" apos) [a] [] cpos) pos) (tS X.K W (sExt i fa))):=⟨T.cs_extend S i hi hv ha.p hs hbase hline hfew hsw⟩
end
end TQ
namespace T
open PySem PySem.Spec L2
open PyProof.Rows hiding St
def Itx (x:Str):It where
 go:=fun i _=>i<x.cps.size
 yld:=fun i H v H'=>H'=H/\∃c,x.cps[i]?=some c/\v=.str ⟨#[c]⟩
 stop:=fun i _=>x.cps.size<=i
theorem turn_text {P:Program} {w:World} {K:Fg} {tg:Expr} (it:Addr) (x:Str) (t:Tok):Turn P w K tg (Itx x) [it] it (fun i h=>h.IsStrIter it "str_ascii_iterator" x t i) where
 mem:=by simp
 obj:=fun i h st b hb=>by
  have e:b=it:=by simpa using hb
  subst e
  obtain ⟨o,ho,hc,hd⟩:=st
  exact ⟨o,ho,fun v z=>by rw [hd] at z;cases z⟩
 keep:=fun i h h' st k=>let ⟨o,ho,r⟩:=st;⟨o,k it (by simp) o ho,r⟩
 item:=by
  intro X hP hw hK hc i pins s σ H E I hf st hg
  subst hP hw hK
  obtain ⟨f0,f1,f2,f3,f4,f5⟩:=hf it (by simp)
  have W:=Walks.strAscii (prog:=X.prog) (w:=X.w) (I.ok.hd hc) it x t
  refine W.item i s _ _ hg st fun v h' tk hv st' kk=>?_
  obtain ⟨c,u,hx,rfl⟩:=hv
  have I1:Inv X pins σ H { s with heap:=h',toks:=tk }:=I.turned (fun b o hb e=>kk b o (by simpa using hb) e) f0 f1 f3 f4 f5
  obtain ⟨o,ho,oc,od⟩:=id st'
  exact ⟨_,rfl,go_of (s:={ s with heap:=h',toks:=tk }) (n := "str_ascii_iterator") ho oc od (by decide) ⟨.str ⟨#[c]⟩,H,I1,⟨u,rfl⟩,⟨rfl,c,hx,rfl⟩,st',fun b hb=>(hf b hb).1⟩⟩
 done:=by
  intro X hP hw hK hc i pins s σ H E I hf st hg
  subst hP hw hK
  obtain ⟨f0,f1,f2,f3,f4,f5⟩:=hf it (by simp)
  exact wpAny_pyNext_ascii_end (I.ok.hd hc) st (by have:x.cps.size<=i:=hg;simp;omega) fun h' eb=>⟨rfl,I.turned (t':=s.toks) (fun b o hb e=>eb b o hb e) f0 f1 f3 f4 f5⟩
 self:=fun _ _ _ _ _ st h=>wpAny_pyIter_striter_ascii st h
def iTextV (x:Str):TI:=fun σ H R=>R (Itx x) H
theorem pi_text {X:Cx} {tg:Expr} {x:Str} {j:Nat} {pos:Pos} (ha:x.cps.all (·<128)=true):PI X tg (.Constant (.str x) j pos) (iTextV x):=by
 intro pins s σ H R I h
 refine Calls.Constant_str ?_
 refine wpAny_pyIter_ascii ha ?_
 have I1:=I.tok (s.toks+1)
 refine ⟨s.heap.objs.size,[s.heap.objs.size],_,_,H,rfl,I1.kept (t':=s.toks+1) fun b o e=>Heap.get?_push_of_some _ e,turn_text _ x _,⟨_,Heap.get?_push_size _ rfl,rfl,rfl⟩,fun b hb=>?_,h⟩
 have e:b=s.heap.objs.size:=by simpa using hb
 subst e
 exact I1.fpOk (Nat.le_refl _) (I1.hok.fresh (Nat.le_refl _))
def chV (x:Str):List V:=x.cps.toList.map fun c=>.str ⟨#[c]⟩
def chD (x:Str):List PySem.PyData:=x.cps.toList.map fun c=>.str ⟨#[c]⟩
theorem it_text {x:Str}:ItOk (Itx x) (fun _=>True) (chV x):=by
 refine ⟨fun i H v _ hv=>?_,fun H _=>?_⟩
 ·unfold chV at hv
  rw [getElem?_map,Array.getElem?_toList] at hv
  cases e:x.cps[i]? with
  | none=>rw [e] at hv;cases hv
  | some c=>
   rw [e] at hv
   cases hv
   refine ⟨(Array.getElem?_eq_some_iff.mp e).1,fun y H' ⟨h1,c',h2,h3⟩=>⟨h1,?_⟩⟩
   rw [e] at h2
   cases h2
   exact h3
 ·show x.cps.size<=(chV x).length
  unfold chV
  rw [length_map,Array.length_toList]
  exact Nat.le_refl _
theorem reps_ch {K:Fg} {H:Hp} {x:Str}:Reps K H (chV x) (chD x):=by
 refine ⟨by simp [chV,chD],fun i v d h1 h2=>?_⟩
 unfold chV at h1
 unfold chD at h2
 rw [getElem?_map] at h1 h2
 cases e:x.cps.toList[i]? with
 | none=>rw [e] at h1;cases h1
 | some c=>
  rw [e] at h1 h2
  cases h1
  cases h2
  exact .str _
def iText (x:Str):FI:=fun Γ=>.ok ⟨chD x,true⟩ Γ
theorem rd_iText {K:Fg} {W:XW} {σ:St} {H:Hp} {R:It->Hp->Prop} {x:Str} (h:tI K W (iText x) σ H R):iTextV x σ H R:=by
 obtain ⟨He,O,Fs,Γ,E,h⟩:=h
 exact h (Itx x) H Fs (chV x) (fun _=>True) (Same.refl _) E (fun a ha=>.inl ha) it_text trivial (fun _ _=>trivial) (fun _ _ _=>trivial) reps_ch
theorem di_text {X:Cx} {W:XW} {tg:Expr} {x:Str} {j:Nat} {pos:Pos} (ha:x.cps.all (·<128)=true):PI X tg (.Constant (.str x) j pos) (tI X.K W (iText x)):=PIimp (pi_text ha) fun _ _ _=>rd_iText
def rIdxS:V->List V->Hp->VK->Prop:=fun x xs H Q=>∃(i j:Str) (k:Nat) (rest:List Nat),x=.str i/\xs=[.str j]/\Builtin.Str.occurrences i j 0 i.length 1=k::rest/\Q (.int k) H
theorem mt_indexS {X:Cx}:MtR X "str.index" rIdxS:=by
 intro pins s σ H x xs v us Q I rx rv h
 obtain ⟨i,j,k,rest,rfl,rfl,ho,q⟩:=h
 obtain ⟨t,rfl⟩:=rx
 obtain ⟨u,rfl,ru⟩:=rv.one
 obtain ⟨t',rfl⟩:=ru
 exact SC.index ho ⟨.int k,H,I.tok _,⟨_,rfl⟩,q⟩
def gIdxS (x:Str):List PySem.PyData->Option PySem.PyData
 | [.str j]=>match Builtin.Str.occurrences x j 0 x.length 1 with
  | k::_=>some (.int k)
  | []=>none
 | _=>none
theorem gc_idxS {K:Fg} {x:Str}:GCall K (fun xs H Q=>rIdxS (.str x) xs H Q) (gIdxS x):=by
 intro vs H Q ds d rs e k
 unfold gIdxS at e
 split at e
 ·rename_i j
  obtain ⟨v,rfl,r⟩:=rs.one
  cases r
  split at e
  ·rename_i k' rest ho
   cases e
   exact ⟨x,j,k',rest,rfl,rfl,ho,k _ (.int _)⟩
  ·cases e
 ·cases e
theorem rd_idxS {K:Fg} {W:XW} {σ:St} {H:Hp} {Q:VK} {x:Str} {fl:FL} (h:tE K W (eCB (gIdxS x) fl) σ H Q):tBM K "str" rIdxS (tC (.str x)) (tA K W fl) σ H Q:=
 ⟨rfl,rd_cb gc_idxS h⟩
theorem ce_idxS {X:Cx} {W:XW} {x:Str} {j:Nat} {p apos cpos:Pos} {e:Expr} {fe:F1} (ha:PE X e (tE X.K W fe)) (hs:starEach [e] X.env=[(false,eval e X.env)]) (hline:(apos.endLine==cpos.line)=true) :
  PE X (.Call (.Attribute (.Constant (.str x) j p) "index" apos) [e] [] cpos) (tE X.K W (eCB (gIdxS x) (eCons fe eNil))):=
 PEimp (pe_bm (T := "str") (r:=rIdxS) F.plainAttrs_str F.slot_str_index F.type_str_index mt_indexS pe_str (da_cons ha da_nil hs) rfl (by rw [hs];rfl) hline hs rfl) fun _ _ _=>rd_idxS
end T
namespace TQ
open PySem PySem.Spec L2 T
open PyProof.Rows hiding St
theorem w_di_text {X:Cx} {W:XW} {tg:Expr} {x:Str} {j:Nat} {pos:Pos} (ha:x.cps.all (·<128)=true):Q (PI X tg (.Constant (.str x) j pos) (tI X.K W (iText x))):=⟨T.di_text ha⟩
theorem w_ce_idxS {X:Cx} {W:XW} {x:Str} {j:Nat} {p apos cpos:Pos} {e:Expr} {fe:F1} (ha:Q (PE X e (tE X.K W fe))) (hs:starEach [e] X.env=[(false,eval e X.env)]) (hline:(apos.endLine==cpos.line)=true) :
  Q (PE X (.Call (.Attribute (.Constant (.str x) j p) "index" apos) [e] [] cpos) (tE X.K W (eCB (gIdxS x) (eCons fe eNil)))):=⟨T.ce_idxS ha.p hs hline⟩
end TQ
namespace T
open PySem PySem.Spec L2
open PyProof.Rows hiding St
def putN:List Nat->List PV->Ev->Option Ev
 | [],[],Γ=>some Γ
 | i::is,p::ps,Γ=>if decide (i<Γ.length)&&!p.s.isView then putN is ps (Γ.set i (some p)) else none
 | _,_,_=>none
def setN:List Nat->List V->St->St
 | i::is,v::vs,σ=>setN is vs (σ.set i (some v))
 | _,_,σ=>σ
def pvs:List Sh->List PySem.PyData->List PV
 | s::ss,d::ds=>⟨s,d⟩::pvs ss ds
 | _,_=>[]
def unpN (p:PV):Option (List PV):=match p.s,p.d with
 | .tup ss,.tuple ds=>some (pvs ss ds)
 | .leaf,.tuple ds=>some (ds.map fun d=>⟨.leaf,d⟩)
 | _,_=>none
def sUnpN (is:List Nat) (f:F1):FS:=sOf f fun p Γ=>match unpN p with
 | some ps=>if ps.length=is.length then (match putN is ps Γ with
  | some Γ'=>.nx Γ'
  | none=>.no) else .no
 | none=>.no
def zKP:List Nat->TGs
 | []=>gNil
 | i::is=>gCons (gName i) (zKP is)
theorem zID {H:Hp} {Q:St->Hp->Prop}:∀{is:List Nat} {vs:List V} {σ:St},vs.length=is.length->Q (setN is vs σ) H->zKP is vs σ H Q
 | [],[],_,_,q=>⟨rfl,q⟩
 | i::is,v::vs,σ,hl,q=>⟨v,vs,rfl,zID (is:=is) (vs:=vs) (by simpa using hl) q⟩
 | [],_::_,_,hl,_=>by simp at hl
 | _::_,[],_,hl,_=>by simp at hl
section
variable {K:Fg} {W:XW} {σ:St} {H:Hp} {D:Ends} {fa:F1}
theorem zI1 {He:Hp} {O:List Addr}:∀{is:List Nat} {ps:List PV} {vs:List V} {Gs:List (List Addr)} {Fs:List (List Addr)} {σ:St} {Γ Γ':Ev},vs.length=ps.length->Gs.length=ps.length->EnvOk K He (Gs.flatten++O) Fs H σ Γ->(∀a∈Gs.flatten,He a=none) ->
  (∀(k:Nat) v p G,vs[k]?=some v->ps[k]?=some p->Gs[k]?=some G->Own K (Gs.flatten++O++Fs.flatten) H p.s G v p.d)->putN is ps Γ=some Γ'->∃Fs',EnvOk K He O Fs' H (setN is vs σ) Γ'
 | [],[],[],[],Fs,σ,Γ,Γ',_,_,E,_,_,h=>by
  cases h
  exact ⟨Fs,by simpa [setN] using E⟩
 | i::is,p::ps,v::vs,G::Gs,Fs,σ,Γ,Γ',h1,h2,E,fr,o,h=>by
  unfold putN at h
  split at h
  ·rename_i hc
   simp only [Bool.and_eq_true,decide_eq_true_eq,Bool.not_eq_true'] at hc
   obtain ⟨hi,n1⟩:=hc
   have fl:(G::Gs).flatten++O=G++(Gs.flatten++O):=by simp [append_assoc]
   rw [fl] at E o
   have E1:=EnvOk.put (i:=i) E (o 0 v p G rfl rfl rfl) n1 (fun a ha=>fr a (by simp [ha])) hi
   refine zI1 (is:=is) (ps:=ps) (vs:=vs) (Gs:=Gs) (by simpa using h1) (by simpa using h2) E1 (fun a ha=>fr a (mem_append_right G ha)) (fun k v' p' G' a1 a2 a3=>?_) h
   refine (o (k+1) v' p' G' (by simpa using a1) (by simpa using a2) (by simpa using a3)).perm fun a ha=>?_
   rcases List.mem_append.mp ha with z | z
   ·exact mem_append_left _ (mem_append_right _ z)
   ·obtain ⟨F,hF⟩:=E.lt hi
    rcases List.mem_append.mp ((zBD (G:=G) hF).mem_iff.mp (mem_append_right _ z)) with y | y
    ·exact mem_append_left _ (mem_append_left _ y)
    ·exact mem_append_right _ y
  ·cases h
 | [],_::_,_,_,_,_,_,_,_,_,_,_,_,h=>by cases h
 | _::_,[],_,_,_,_,_,_,_,_,_,_,_,h=>by cases h
 | [],[],_::_,_,_,_,_,_,h,_,_,_,_,_=>by simp at h
 | [],[],[],_::_,_,_,_,_,_,h,_,_,_,_=>by simp at h
 | _::_,_::_,[],_,_,_,_,_,h,_,_,_,_,_=>by simp at h
 | _::_,_::_,_::_,[],_,_,_,_,_,h,_,_,_,_=>by simp at h
theorem pvs_len:∀{ss:List Sh} {ds:List PySem.PyData},ss.length=ds.length->(pvs ss ds).length=ds.length
 | [],[],_=>rfl
 | _::ss,_::ds,h=>by simp only [pvs,length_cons];rw [pvs_len (ss:=ss) (ds:=ds) (by simpa using h)]
 | [],_::_,h=>by simp at h
 | _::_,[],h=>by simp at h
theorem pvs_at:∀{ss:List Sh} {ds:List PySem.PyData} {k:Nat} {p:PV},(pvs ss ds)[k]?=some p->ss[k]?=some p.s/\ds[k]?=some p.d
 | [],_,k,p,h=>by simp [pvs] at h
 | _::_,[],k,p,h=>by simp [pvs] at h
 | s::ss,d::ds,0,p,h=>by
  simp only [pvs,List.getElem?_cons_zero,Option.some.injEq] at h
  subst h
  exact ⟨rfl,rfl⟩
 | s::ss,d::ds,k+1,p,h=>by
  simp only [pvs,getElem?_cons_succ] at h ⊢
  exact pvs_at h
theorem zJT {n:Nat}:(List.replicate n ([]:List Addr)).flatten=[]:=by
 induction n with
 | zero=>rfl
 | succ n ih=>rw [List.replicate_succ,flatten_cons,ih];rfl
theorem rd_unpN {is:List Nat} (h:tS K W (sUnpN is fa) D σ H):tAsg (tE K W fa) (gTup K is.length (zKP is)) D σ H:=by
 refine tS_of h fun He O Fs Γ1 p v H1 G Fs1 _ fr A w=>?_
 obtain ⟨s,d⟩:=p
 have o:=A.own
 have E:=A.env
 dsimp only at w o
 cases hu:unpN ⟨s,d⟩ with
 | none=>rw [hu] at w;exact w.elim
 | some ps=>
  rw [hu] at w
  dsimp only at w
  by_cases hl:ps.length=is.length
  ·rw [if_pos hl] at w
   cases hp:putN is ps Γ1 with
   | none=>rw [hp] at w;exact w.elim
   | some Γ'=>
    rw [hp] at w
    cases o with
    | view r=>cases hu
    | lst=>cases hu
    | leaf r=>
     cases d with
     | tuple ds=>
      cases hu
      cases r with
      | @tup a vs _ hq hlen hr=>
       obtain ⟨Fs',E'⟩:=zI1 (is:=is) (vs:=vs) (Gs:=List.replicate ds.length []) (Fs:=Fs1) (by rw [hlen,length_map]) (by rw [List.length_replicate,length_map]) (by rw [zJT];exact E) (by rw [zJT];intro a ha;simp at ha) (fun k v' p' G' a1 a2 a3=>by
        rw [zJT]
        rw [getElem?_map] at a2
        cases ed:ds[k]? with
        | none=>rw [ed] at a2;cases a2
        | some d'=>
         rw [ed] at a2
         cases a2
         have:G'=[]:=List.eq_of_mem_replicate (mem_of_getElem? a3)
         subst this
         exact .leaf (hr k v' d' a1 ed)) hp
       exact ⟨a,vs,rfl,SameT hid_le hq,by rw [hlen];simpa using hl,zID (by rw [hlen];simpa using hl) (w _ _ _ E')⟩
     | _=>cases hu
    | @tup ss a vs ds Fs0 hv hpa hn hlen hf hs nd q=>
     cases hu
     have pl:=pvs_len hs
     obtain ⟨Fs',E'⟩:=zI1 (is:=is) (vs:=vs) (Gs:=Fs0) (Fs:=Fs1) (by rw [hlen,pl]) (by rw [hf,pl]) E fr (fun k v' p' G' a1 a2 a3=>by
      obtain ⟨z1,z2⟩:=pvs_at a2
      exact q k v' p'.d G' p'.s a1 z2 a3 z1) hp
     have hn2:vs.length=is.length:=by rw [hlen,<-pl];exact hl
     exact ⟨a,vs,rfl,.of hpa,hn2,zID hn2 (w _ _ _ E')⟩
  ·rw [if_neg hl] at w
   exact w.elim
end
section
variable {X:Cx} {N gl:List Str} {vs cs ls lo gs:List Nat} {W:XW} {a:Expr} {pos:Pos} {fa:F1}
theorem cs_unp2 (S:Cp X N gl vs cs ls lo gs) (i j:Nat) {x y:Str} {px py pt:Pos} {kt:Nat} (hi:N[i]?=some x) (hj:N[j]?=some y) (li:ls.contains i=true) (lj:ls.contains j=true) (ha:PE X a (tE X.K W fa))
  (hs:swapsWithSole [.Tuple [.Name x px,.Name y py] kt pt] a pos.line X.env=pure false) (hw:swappedStores [.Tuple [.Name x px,.Name y py] kt pt] a X.env=pure none) :
  PS X (.Assign [.Tuple [.Name x px,.Name y py] kt pt] a pos) (tS X.K W (sUnpN [i,j] fa)):=by
 have hN:X.N.Nodup:=by rw [S.hN];exact S.nd
 exact PSimp (ps_asg ha (zJL S.calm (zCP (zCL hN (by rw [S.hN];exact hi) (S.loc i x hi li).1 (S.loc i x hi li).2) (zCP (zCL hN (by rw [S.hN];exact hj) (S.loc j y hj lj).1 (S.loc j y hj lj).2) zH6))) hs hw) fun _ _ _=>rd_unpN (is:=[i,j])
end
end T
namespace TQ
open PySem PySem.Spec L2 T
open PyProof.Rows hiding St
variable {X:Cx} {N gl:List Str} {vs cs ls lo gs:List Nat} {W:XW} {a:Expr} {pos:Pos} {fa:F1}
theorem w_cs_unp2 (S:Cp X N gl vs cs ls lo gs) (i j:Nat) {x y:Str} {px py pt:Pos} {kt:Nat} (hi:N[i]?=some x) (hj:N[j]?=some y) (li:ls.contains i=true) (lj:ls.contains j=true) (ha:Q (PE X a (tE X.K W fa)))
  (hs:swapsWithSole [.Tuple [.Name x px,.Name y py] kt pt] a pos.line X.env=pure false) (hw:swappedStores [.Tuple [.Name x px,.Name y py] kt pt] a X.env=pure none) :
  Q (PS X (.Assign [.Tuple [.Name x px,.Name y py] kt pt] a pos) (tS X.K W (sUnpN [i,j] fa))):=⟨T.cs_unp2 S i j hi hj li lj ha.p hs hw⟩
end TQ
namespace T
open PySem PySem.Spec L2
open PyProof.Rows hiding St
def cutD (xs:List PySem.PyData) (lo hi:Option Int):List PySem.PyData:=(xs.drop (HT.sIx xs.length 0 lo)).take (HT.sIx xs.length xs.length hi-HT.sIx xs.length 0 lo)
theorem Reps.take {K:Fg} {H:Hp} {vs:List V} {ds:List PySem.PyData} (k:Nat) (h:Reps K H vs ds):Reps K H (vs.take k) (ds.take k):=by
 refine ⟨by rw [length_take,length_take,h.1],fun i v d e1 e2=>?_⟩
 by_cases hi:i<k
 ·rw [List.getElem?_take,if_pos hi] at e1 e2
  exact h.2 _ v d e1 e2
 ·rw [List.getElem?_take,if_neg hi] at e1
  cases e1
theorem Reps.cut {K:Fg} {H:Hp} {vs:List V} {ds:List PySem.PyData} (lo hi:Option Int) (h:Reps K H vs ds):Reps K H (cutV vs lo hi) (cutD ds lo hi):=by
 unfold cutV cutD
 rw [h.1]
 exact (h.drop _).take _
def eSl2 (g:Int->Option Int×Option Int) (fa fb:F1):F1:=eBind fa fun p=>eBind fb fun q=>fun Γ=>match p.d,q.d with
 | .list xs,.int k=>if zAP p xs then .ok ⟨.lst .leaf,.list (cutD xs (g k).1 (g k).2)⟩ Γ else .no
 | _,_=>.no
section
variable {K:Fg} {W:XW} {σ:St} {H:Hp} {Q:VK} {fa fb:F1}
theorem rd_sl2 {g:Int->Option Int×Option Int} (h:tE K W (eSl2 g fa fb) σ H Q):tE K W fa σ H fun v H1=>tE K W fb σ H1 fun u H2=>∃k,u=.int k/\rSlL K v (g k).1 (g k).2 H2 Q:=by
 refine zJI (R:=fun v u H2=>∃k,u=.int k/\rSlL K v (g k).1 (g k).2 H2 Q) h fun He O Fs Γ2 p q v u H1 H2 G1 G2 Fs2 nd s1 s2 E new o1 o2 w=>?_
 obtain ⟨s,d⟩:=p
 obtain ⟨s',d'⟩:=q
 dsimp only at w o1 o2
 split at w
 ·rename_i xs k
  cases hc:zAP ⟨s,.list xs⟩ xs with
  | false=>rw [hc] at w;exact w.elim
  | true=>
   rw [hc] at w
   obtain ⟨d1,d2⟩:=dis2 E.nd
   obtain ⟨p1,vs,rfl,q1,_,r1⟩:=o1.items (O':=O++Fs2.flatten) hc sub4 d1
   have ru:=o2.rep
   cases ru
   exact ⟨k,rfl,p1,vs,rfl,q1,fun p' hp'=>w _ _ _ _ (zHS (E.drop (fun a ha=>mem_append_right _ (mem_append_right _ ha)) nd) (s1.trans s2) (fun a ha=>new a (mem_append_right _ (mem_append_right _ ha))) (r1.cut _ _) hp')⟩
 ·exact w.elim
end
section
variable {X:Cx} {W:XW} {a b:Expr} {fa fb:F1} {p2 pos:Pos}
theorem ce_slTo (ha:PE X a (tE X.K W fa)) (hb:PE X b (tE X.K W fb)):PE X (.Subscript a (.Slice none (some b) none p2) pos) (tE X.K W (eSl2 (fun k=>(none,some k)) fa fb)):=
 PEimp (pe_slice sl_list ha po_none (po_some hb)) fun _ _ _=>rd_sl2
theorem ce_slFrom (ha:PE X a (tE X.K W fa)) (hb:PE X b (tE X.K W fb)):PE X (.Subscript a (.Slice (some b) none none p2) pos) (tE X.K W (eSl2 (fun k=>(some k,none)) fa fb)):=
 PEimp (pe_slice sl_list ha (po_some hb) po_none) fun _ _ _=>rd_sl2
end
end T
namespace TQ
open PySem PySem.Spec L2 T
open PyProof.Rows hiding St
variable {X:Cx} {W:XW} {a b:Expr} {fa fb:F1} {p2 pos:Pos}
theorem w_ce_slTo (ha:Q (PE X a (tE X.K W fa))) (hb:Q (PE X b (tE X.K W fb))):Q (PE X (.Subscript a (.Slice none (some b) none p2) pos) (tE X.K W (eSl2 (fun k=>(none,some k)) fa fb))):=⟨T.ce_slTo ha.p hb.p⟩
theorem w_ce_slFrom (ha:Q (PE X a (tE X.K W fa))) (hb:Q (PE X b (tE X.K W fb))):Q (PE X (.Subscript a (.Slice (some b) none none p2) pos) (tE X.K W (eSl2 (fun k=>(some k,none)) fa fb))):=⟨T.ce_slFrom ha.p hb.p⟩
end TQ
namespace T
open PySem PySem.Spec L2
open PyProof.Rows hiding St
theorem rep_pair {K:Fg} {H:Hp} {v:V} {d1 d2:PySem.PyData} (h:Rep K H v (.tuple [d1,d2])):∃T v1 v2,v=.ref T/\SqT K H T [v1,v2]/\Rep K H v1 d1/\Rep K H v2 d2:=by
 cases h with
 | @tup a vs _ hq hl hr=>
  match vs,hl with
  | [v1,v2],_=>exact ⟨a,v1,v2,rfl,hq,hr 0 v1 d1 rfl rfl,hr 1 v2 d2 rfl rfl⟩
section
variable {K:Fg} {W:XW} {σ:St} {H:Hp} {Q:VK} {fa fe:F1} {fc:FB} {s:Sh} {i j:Nat}
end
section
variable {X:Cx} {N gl:List Str} {vs cs ls lo gs:List Nat} {W:XW} {a:Expr} {pos p:Pos} {fa:F1}
end
def rIxI (K:Fg):V->List V->Hp->VK->Prop:=fun x xs H Q=>∃(l:Addr) (ns:List Int) (k:Int) (j:Nat),x=.ref l/\xs=[.int k]/\SqL K H l (ns.map V.int)/\ns[j]?=some k/\(∀m,m<j->ns[m]?≠some k)/\Q (.int j) H
theorem ints_at:∀{us:List Value} {ns:List Int} {m:Nat} {u:Value} {k:Int},IntsAre us ns->us[m]?=some u->isInt k u=true->ns[m]?=some k
 | _,_,_,_,_,.nil,h,_=>by simp at h
 | _,_,0,_,_,.cons n t r,h,e=>by
  simp at h
  subst h
  simp [isInt] at e
  simp [e]
 | _,_,m+1,_,_,.cons n t r,h,e=>by
  simp only [getElem?_cons_succ] at h ⊢
  exact ints_at r h e
theorem ints_at':∀{us:List Value} {ns:List Int} {m:Nat} {u:Value} {k:Int},IntsAre us ns->us[m]?=some u->ns[m]?=some k->isInt k u=true
 | _,_,_,_,_,.nil,h,_=>by simp at h
 | _,_,0,_,_,.cons n t r,h,e=>by
  simp at h e
  subst h e
  simp [isInt]
 | _,_,m+1,_,_,.cons n t r,h,e=>by
  simp only [getElem?_cons_succ] at h e
  exact ints_at' r h e
theorem mt_indexI {X:Cx}:MtR X "list.index" (rIxI X.K):=by
 intro pins s σ H x xs v us Q I rx rv h
 obtain ⟨l,ns,k,j,rfl,rfl,hS,hj,hno,q⟩:=h
 cases rx
 obtain ⟨u,rfl,ru⟩:=rv.one
 obtain ⟨t,rfl⟩:=ru
 obtain ⟨its,r,pl,hz⟩:=I.list hS
 have hI:=zJ0 r
 have hl:its.length=ns.length:=by rw [<-r.length,length_map]
 have hjl:j<its.toArray.size:=by rw [size_toArray,hl];exact (List.getElem?_eq_some_iff.mp hj).1
 obtain ⟨o,n,ho,hc,hd,hdt⟩:=pl
 obtain ⟨ocls,odict,odata,oslots⟩:=o
 simp only at hc hd hdt
 subst hc hd hdt
 have hsm:(j:Int)<2 ^ 63-1:=by
  rw [length_map] at hz
  have h1:sizeLine<2 ^ 62:=by decide
  have:=(List.getElem?_eq_some_iff.mp hj).1
  omega
 refine call_meets F.slot_list_index ⟨_,ho,rfl⟩ F.entry_list_index (F.args_list_index_2 _ _) (SeqAt.list_indexAt l its.toArray n none oslots (.int k t) (isInt k) j hjl hsm ?_ fun m hm hmj=>?_) ⟨ho,fun y hy=>?_,⟨.int j,H,I.tok _,⟨_,rfl⟩,q⟩⟩
 ·exact ints_at' hI (m:=j) (u:=its.toArray[j]) (by simp at hjl ⊢) hj
 ·cases e:isInt k its.toArray[m] with
  | false=>rfl
  | true=>exact absurd (ints_at hI (m:=m) (u:=its.toArray[m]) (by simp at hm ⊢) e) (hno m hmj)
 ·exact (eq_isInt k t hI y (by simpa using hy)).at _ _
def isLfL:Option (Option PV)->Bool
 | some (some ⟨.leaf,.list _⟩)=>true
 | _=>false
theorem isLfL_eq {o:Option (Option PV)} (h:isLfL o=true):∃ds,o=some (some ⟨.leaf,.list ds⟩):=by
 unfold isLfL at h
 split at h
 ·exact ⟨_,rfl⟩
 ·cases h
def ixI (k:Int):List Int->Option Nat
 | []=>none
 | n::r=>if n=k then some 0 else (ixI k r).map (·+1)
theorem ixI_ok {k:Int}:∀{ns:List Int} {j:Nat},ixI k ns=some j->ns[j]?=some k/\∀m,m<j->ns[m]?≠some k
 | [],_,h=>by cases h
 | n::r,j,h=>by
  unfold ixI at h
  by_cases e:n=k
  ·rw [if_pos e] at h
   cases h
   exact ⟨by simp [e],fun m hm=>by omega⟩
  ·rw [if_neg e] at h
   cases hr:ixI k r with
   | none=>rw [hr] at h;cases h
   | some j'=>
    rw [hr] at h
    cases h
    obtain ⟨h1,h2⟩:=ixI_ok hr
    refine ⟨by simpa using h1,fun m hm=>?_⟩
    cases m with
    | zero=>simpa using e
    | succ m=>simpa using h2 m (by have:m+1<j'+1:=hm;omega)
def ixNK (i:Nat) (q:PV):Ev->Out PV:=fun Γ=>match Γ[i]?,q.d with
 | some (some ⟨.leaf,.list ds⟩),.int k=>(match intsOf ds with
  | some ns=>(match ixI k ns with
   | some j=>.ok ⟨.leaf,.int (j:Nat)⟩ Γ
   | none=>.no)
  | none=>.no)
 | _,_=>.no
def eIxN (i:Nat) (fb:F1):F1:=fun Γ=>if isLfL Γ[i]? then (fb Γ).bind (ixNK i) else .no
section
variable {K:Fg} {W:XW} {σ:St} {H:Hp} {Q:VK} {fb:F1}
theorem lf_list {He:Hp} {O:List Addr} {Fs:List (List Addr)} {Γ:Ev} {i:Nat} {ds:List PySem.PyData} (E:EnvOk K He O Fs H σ Γ) (h:Γ[i]?=some (some ⟨.leaf,.list ds⟩)):∃l vs,σ[i]?=some (some (.ref l))/\SqL K H l vs/\Reps K H vs ds:=by
 obtain ⟨_,v,F,h1,_,o⟩:=E.slot i _ h
 have r:=o.rep
 cases r with
 | @lst a vs _ hq hl hr=>exact ⟨a,vs,h1,hq,hl,hr⟩
theorem rd_ixN {i:Nat} (h:tE K W (eIxN i fb) σ H Q):tBM K "list" (rIxI K) (tVar i) (tA K W (eCons fb eNil)) σ H Q:=by
 obtain ⟨He,O,Fs,Γ,E,h⟩:=h
 unfold eIxN at h
 cases ho:isLfL Γ[i]? with
 | false=>rw [ho] at h;exact h.elim
 | true=>
  rw [ho] at h
  obtain ⟨ds,e0⟩:=isLfL_eq ho
  obtain ⟨l,vs,h1,h2,h3⟩:=lf_list E e0
  refine ⟨.ref l,h1,.inl ⟨rfl,vs,h2⟩,zKA ?_⟩
  refine zJ9 (k:=ixNK i) ⟨He,O,Fs,Γ,E,h⟩ fun He O Fs Γ1 q u H1 G Fs1 nd A w=>?_
  unfold ixNK at w
  split at w
  ·rename_i ds1 k e1 e2
   obtain ⟨l1,vs1,q1,q2,q3⟩:=lf_list A.go e1
   rw [h1] at q1
   cases q1
   have r:=A.own.rep
   rw [e2] at r
   cases r
   cases hi:intsOf ds1 with
   | none=>rw [hi] at w;exact w.elim
   | some ns=>
    rw [hi] at w
    dsimp only at w
    cases hj:ixI k ns with
    | none=>rw [hj] at w;exact w.elim
    | some j=>
     rw [hj] at w
     rw [zIB hi] at q3
     have ev:=reps_ints q3
     subst ev
     obtain ⟨a1,a2⟩:=ixI_ok hj
     exact ⟨l,ns,k,j,rfl,rfl,q2,a1,a2,w _ _ _ _ (leafOld A.go A.same A.newF (.int _))⟩
  ·exact w.elim
end
section
variable {X:Cx} {N gl:List Str} {vs cs ls lo gs:List Nat} {W:XW} {e:Expr} {fe:F1} {p:Pos}
theorem ce_ixN (S:Cp X N gl vs cs ls lo gs) (i:Nat) {x:Str} {apos cpos:Pos} (hi:N[i]?=some x) (hv:vs.contains i=true) (ha:PE X e (tE X.K W fe)) (hbase:attributeBase (.Name x p) "index" X.env (eval (.Name x p) X.env)=eval (.Name x p) X.env) (hs:starEach [e] X.env=[(false,eval e X.env)]) (hline:(apos.endLine==cpos.line)=true) :
  PE X (.Call (.Attribute (.Name x p) "index" apos) [e] [] cpos) (tE X.K W (eIxN i fe)):=by
 have m:=S.nm x (mem_of_getElem? hi)
 exact PEimp (pe_bm (T := "list") (r:=rIxI X.K) F.plainAttrs_list F.slot_list_index F.type_list_index mt_indexI (zIP (by rw [S.hN];exact hi) (S.vis i x hi hv) m.1 m.2) (da_cons ha da_nil hs) hbase (by rw [hs];rfl) hline hs rfl) fun _ _ _=>rd_ixN
end
end T
namespace TQ
open PySem PySem.Spec L2 T
open PyProof.Rows hiding St
variable {X:Cx} {N gl:List Str} {vs cs ls lo gs:List Nat} {W:XW} {e a:Expr} {fe fa:F1} {p pos:Pos}
theorem w_ce_ixN (S:Cp X N gl vs cs ls lo gs) (i:Nat) {x:Str} {apos cpos:Pos} (hi:N[i]?=some x) (hv:vs.contains i=true) (ha:Q (PE X e (tE X.K W fe))) (hbase:attributeBase (.Name x p) "index" X.env (eval (.Name x p) X.env)=eval (.Name x p) X.env) (hs:starEach [e] X.env=[(false,eval e X.env)]) (hline:(apos.endLine==cpos.line)=true) :
  Q (PE X (.Call (.Attribute (.Name x p) "index" apos) [e] [] cpos) (tE X.K W (eIxN i fe))):=⟨T.ce_ixN S i hi hv ha.p hbase hs hline⟩
end TQ
namespace T
open PySem PySem.Spec L2
open PyProof.Rows hiding St
section
variable {X:Cx} {N gl:List Str} {vs cs ls lo gs:List Nat} {W:XW} {a:Expr} {pos p:Pos} {fa:F1}
end
end T
namespace TQ
open PySem PySem.Spec L2 T
open PyProof.Rows hiding St
variable {X:Cx} {N gl:List Str} {vs cs ls lo gs:List Nat} {W:XW} {a:Expr} {pos p:Pos} {fa:F1}
end TQ
namespace T
open PySem PySem.Spec L2
open PyProof.Rows hiding St
section
variable {X:Cx} {N gl:List Str} {vs cs ls lo gs:List Nat} {W:XW} {a:Expr} {pos p:Pos} {fa:F1}
theorem cs_setCompE {scope:Scope} {x y z:Str} {px py pt pos' spos cpos:Pos} {kt:Nat} {elt:Expr} {ifs:List Expr} {fe:F1} {fc:FB} {vs' cs' lo' gs':List Nat} (S:Cp X N gl vs cs ls lo gs) (own:Bool) (l:Nat) (s:Sh) (i j:Nat) (hz:N[l]?=some z) (hzl:lo.contains l=true) (hij:(i != j)=true) (hx:N[i]?=some x) (hy:N[j]?=some y) (k:Nat) (hk:gl[k]?=some ("enumerate":Str)) (hg:gs.contains k=true) (hm:X.mg "enumerate"=none)
  (hsl:(pos'.line==pos.line)=true) (hsn:(scope.names.any fun (n,k)=>n==z&&(k==NameKind.local||k==NameKind.cell))=false)
  (h1:zHP N [i,j] cs scope=true) (h2:cpB N gl vs' cs' [i,j] lo' gs' scope=true) (ha:PE X a (tE X.K W fa)) (hs1:starEach [a] X.env=[(false,eval a X.env)])
  (hc:Blk X N gl vs' cs' [i,j] lo' gs' fun Y=>PF Y ifs (tT Y.K W0 fc)) (he:Blk X N gl vs' cs' [i,j] lo' gs' fun Y=>PE Y elt (tE Y.K W0 fe)) (hs:∀x,foldedSetIterable (.Call (.Name "enumerate" p) [a] [] cpos) X.env x=pure x) :
  PS X (.Assign [.Name z pos'] (.ListComp elt [⟨.Tuple [.Name x px,.Name y py] kt pt,.Call (.Name "enumerate" p) [a] [] cpos,ifs,0⟩] scope pos) spos) (tS X.K W (sSet own l (zCI s i j fa fc fe))):=by
 have B:=fun cells C s₀ H₀ ex=>S.blk h2 cells C s₀ H₀ ex
 have L:=fun cells C s₀ H₀ ex=>(B cells C s₀ H₀ ex).loc i x hx (by simp)
 have L2':=fun cells C s₀ H₀ ex=>(B cells C s₀ H₀ ex).loc j y hy (by simp)
 have hN:X.N.Nodup:=by rw [S.hN];exact S.nd
 exact PSimp (zHC hN (by rw [S.hN];exact hz) (S.loo l z hz hzl) (zIK S h1) S.calm (pi_enum (S.g hk hg).1 hm (da_cons ha da_nil hs1) hs1)
  (fun cells C s₀ H₀ ex=>zJL (X:=blk X scope cells C s₀ H₀ ex) S.calm (zCP (zCL (X:=blk X scope cells C s₀ H₀ ex) (i:=i) hN (by show X.N[i]?=_;rw [S.hN];exact hx) (L cells C s₀ H₀ ex).1 (L cells C s₀ H₀ ex).2) (zCP (zCL (X:=blk X scope cells C s₀ H₀ ex) (i:=j) hN (by show X.N[j]?=_;rw [S.hN];exact hy) (L2' cells C s₀ H₀ ex).1 (L2' cells C s₀ H₀ ex).2) zH6)))
  (fun cells C s₀ H₀ ex=>hc _ (B cells C s₀ H₀ ex) ⟨rfl,rfl,rfl,rfl,rfl,rfl⟩) (fun cells C s₀ H₀ ex=>he _ (B cells C s₀ H₀ ex) ⟨rfl,rfl,rfl,rfl,rfl,rfl⟩) (zHB S.kind (S.loo l z hz hzl) hsl hsn) hs) fun D σ H h=>by
   have h2:tAsg (tE X.K W (zCI s i j fa fc fe)) (gName l) D σ H:=zKC h
   exact rd_compE (by simpa using hij) h2
end
end T
namespace TQ
open PySem PySem.Spec L2 T
open PyProof.Rows hiding St
variable {X:Cx} {N gl:List Str} {vs cs ls lo gs:List Nat} {W:XW} {a:Expr} {pos p:Pos} {fa:F1}
theorem w_cs_setCompE {scope:Scope} {x y z:Str} {px py pt pos' spos cpos:Pos} {kt:Nat} {elt:Expr} {ifs:List Expr} {fe:F1} {fc:FB} {vs' cs' lo' gs':List Nat} (S:Cp X N gl vs cs ls lo gs) (own:Bool) (l:Nat) (s:Sh) (i j:Nat) (hz:N[l]?=some z) (hzl:lo.contains l=true) (hij:(i != j)=true) (hx:N[i]?=some x) (hy:N[j]?=some y) (k:Nat) (hk:gl[k]?=some ("enumerate":Str)) (hg:gs.contains k=true) (hm:X.mg "enumerate"=none)
  (hsl:(pos'.line==pos.line)=true) (hsn:(scope.names.any fun (n,k)=>n==z&&(k==NameKind.local||k==NameKind.cell))=false)
  (h1:zHP N [i,j] cs scope=true) (h2:cpB N gl vs' cs' [i,j] lo' gs' scope=true) (ha:Q (PE X a (tE X.K W fa))) (hs1:starEach [a] X.env=[(false,eval a X.env)])
  (hc:Blk X N gl vs' cs' [i,j] lo' gs' fun Y=>Q (PF Y ifs (tT Y.K W0 fc))) (he:Blk X N gl vs' cs' [i,j] lo' gs' fun Y=>Q (PE Y elt (tE Y.K W0 fe))) (hs:∀x,foldedSetIterable (.Call (.Name "enumerate" p) [a] [] cpos) X.env x=pure x) :
  Q (PS X (.Assign [.Name z pos'] (.ListComp elt [⟨.Tuple [.Name x px,.Name y py] kt pt,.Call (.Name "enumerate" p) [a] [] cpos,ifs,0⟩] scope pos) spos) (tS X.K W (sSet own l (zCI s i j fa fc fe)))):=⟨T.cs_setCompE S own l s i j hz hzl hij hx hy k hk hg hm hsl hsn h1 h2 ha.p hs1 (fun Y S' F=>(hc Y S' F).p) (fun Y S' F=>(he Y S' F).p) hs⟩
end TQ
namespace T
open PySem PySem.Spec L2
open PyProof.Rows hiding St
theorem zG6:(1000:Nat)<=sizeLine:=by decide
theorem zGP {i:Nat} {fc:FB} {fe:F1} {s:Sh} {c:D->Bool} {f:D->PV} {Γ:Ev} (hΓ:Γ.set i none=Γ):∀(r acc:List D),(∀d∈r,fc (Γ.set i (some ⟨.leaf,d⟩))=.ok (c d) (Γ.set i (some ⟨.leaf,d⟩))) ->
  (∀d∈r,c d=true->fe (Γ.set i (some ⟨.leaf,d⟩))=.ok (f d) (Γ.set i (some ⟨.leaf,d⟩))/\coer s (f d)=true)->acc.length+r.length<=sizeLine->zE0 i fc fe s r Γ acc=.ok (acc++((r.filter c).map fun d=>(f d).d)) Γ
 | [],acc,_,_,_=>by simp [zE0]
 | d::r,acc,hc,he,hl=>by
  have h1:=hc d mem_cons_self
  have hl1:acc.length<sizeLine:=by simp at hl;omega
  have back:(Γ.set i (some ⟨.leaf,d⟩)).set i none=Γ:=by rw [set_set];exact hΓ
  rw [zE0,h1]
  cases hcd:c d with
  | false=>
   dsimp only
   rw [if_pos hl1,back,zGP hΓ r acc (fun d hd=>hc d (mem_cons_of_mem _ hd)) (fun d hd=>he d (mem_cons_of_mem _ hd)) (by simp at hl;omega)]
   rw [List.filter_cons_of_neg (by rw [hcd];exact Bool.false_ne_true)]
  | true=>
   obtain ⟨h2,h3⟩:=he d mem_cons_self hcd
   dsimp only
   rw [h2]
   dsimp only
   rw [h3,decide_eq_true hl1,Bool.and_self,if_pos rfl,back,zGP hΓ r (acc++[(f d).d]) (fun d hd=>hc d (mem_cons_of_mem _ hd)) (fun d hd=>he d (mem_cons_of_mem _ hd)) (by simp at hl ⊢;omega)]
   rw [List.filter_cons_of_pos hcd,map_cons,append_assoc]
   rfl
theorem eComp_pure {s:Sh} {i:Nat} {fi:FI} {fc:FB} {fe:F1} {c:D->Bool} {f:D->PV} {ds:List D} {st:Bool} {Γ:Ev} (hi:fi Γ=.ok ⟨ds,st⟩ Γ) (hl:i<Γ.length) (hs:s.isView=false) (hn:ds.length<=1000)
  (hc:∀d∈ds,fc (Γ.set i (some ⟨.leaf,d⟩))=.ok (c d) (Γ.set i (some ⟨.leaf,d⟩))) (he:∀d∈ds,c d=true->fe (Γ.set i (some ⟨.leaf,d⟩))=.ok (f d) (Γ.set i (some ⟨.leaf,d⟩))/\coer s (f d)=true) :
  eComp s i fi fc fe Γ=.ok ⟨.lst s,.list ((ds.filter c).map fun d=>(f d).d)⟩ Γ:=by
 have hb:=zG6
 unfold eComp
 rw [hi]
 unfold Out.bind
 dsimp only
 rw [zGP (c:=c) (f:=f) (by rw [set_set]) ds [] (fun d hd=>by rw [set_set];exact hc d hd) (fun d hd=>by rw [set_set];exact he d hd) (by simp;omega)]
 dsimp only
 rw [hs,decide_eq_true hl]
 simp only [Bool.not_false,Bool.and_self,if_true,nil_append,set_set]
 have:Γ.set i (Γ.getD i none)=Γ:=by
  apply zC8
  rw [getD_eq_getElem?_getD,getElem?_eq_getElem hl]
  rfl
 rw [this]
theorem zEY {s:Sh} {i:Nat} {fi:FI} {fe:F1} {f:D->PV} {ds:List D} {st:Bool} {Γ:Ev} (hi:fi Γ=.ok ⟨ds,st⟩ Γ) (hl:i<Γ.length) (hs:s.isView=false) (hn:ds.length<=1000)
  (he:∀d∈ds,fe (Γ.set i (some ⟨.leaf,d⟩))=.ok (f d) (Γ.set i (some ⟨.leaf,d⟩))/\coer s (f d)=true) :
  eComp s i fi bTrue fe Γ=.ok ⟨.lst s,.list (ds.map fun d=>(f d).d)⟩ Γ:=by
 rw [eComp_pure (fc:=bTrue) (c:=fun _=>true) (f:=f) hi hl hs hn (fun d hd=>rfl) fun d hd _=>he d hd,List.filter_eq_self.mpr fun _ _=>rfl]
theorem zI6 {P:Nat->Ev->Prop} {i:Nat} {body:FS}:∀(ds:List D) (n:Nat) (Γ:Ev),P n Γ->(∀k d Γ,d∈ds->n<=k->k<n+ds.length->P k Γ->i<Γ.length/\∃Γ',body (Γ.set i (some ⟨.leaf,d⟩))=.nx Γ'/\P (k+1) Γ')->∃Γ',forGo i body ds Γ=.nx Γ'/\P (n+ds.length) Γ'
 | [],n,Γ,h,_=>⟨Γ,rfl,h⟩
 | d::r,n,Γ,h,st=>by
  obtain ⟨hi,Γ1,e1,h1⟩:=st n d Γ mem_cons_self (Nat.le_refl _) (by simp) h
  obtain ⟨Γ2,e2,h2⟩:=zI6 r (n+1) Γ1 h1 fun k d Γ hd a b c=>st k d Γ (mem_cons_of_mem _ hd) (by omega) (by simp;omega) c
  refine ⟨Γ2,?_,?_⟩
  ·rw [forGo,if_pos hi,e1]
   exact e2
  ·rw [length_cons,show n+(r.length+1)=n+1+r.length by omega]
   exact h2
theorem zI4 {any:Bool} {α:Type} {xs:List α} {f:α->Bool}:zD5 (xs.map fun x=>.bool (f x))=some (xs.map f):=by
 induction xs with
 | nil=>rfl
 | cons x r ih=>rw [map_cons,zD5,ih];rfl
theorem zHD {α:Type} {xs:List α} {f:α->Bool}:gAll false [.list (xs.map fun x=>.bool (f x))]=some (.bool (xs.all f)):=by
 show Option.map _ (zD5 _)=_
 rw [zI4 (any:=false)]
 simp [List.all_map]
section
variable {Γ Γ1 Γ2:Ev} {fa fb fc:F1} {fl:FL} {p q:PV} {ps:List PV} {d e:D} {s s' s2:Sh} {i j n:Nat}
theorem zAC (h:Γ[i]?=some (some ⟨.leaf,d⟩)):eVar i Γ=.ok ⟨.leaf,d⟩ Γ:=by unfold eVar;rw [h]
theorem v_lst (h:Γ[i]?=some (some ⟨.lst s,d⟩)):eVar i Γ=.ok ⟨.view,d⟩ Γ:=by unfold eVar;rw [h]
theorem zJH (h:Γ[i]?=some (some p)):eMove i Γ=.ok p (Γ.set i none):=by unfold eMove;rw [h]
theorem v_k:eK d Γ=.ok ⟨.leaf,d⟩ Γ:=rfl
theorem v_op {g:D->D->Option D} (ha:fa Γ=.ok p Γ1) (hb:fb Γ1=.ok q Γ2) (hg:g p.d q.d=some d):eOp g fa fb Γ=.ok ⟨.leaf,d⟩ Γ2:=by
 unfold eOp eBind;rw [ha];simp only [Out.bind];rw [hb];simp only [hg]
theorem zAE (ha:fa Γ=.ok p Γ1) (hl:fl Γ1=.ok ps Γ2):eCons fa fl Γ=.ok (p::ps) Γ2:=by
 unfold eCons;rw [ha];simp only [Out.bind];rw [hl]
theorem v_nil:eNil Γ=.ok [] Γ:=rfl
theorem v_cb {g:List D->Option D} (hl:fl Γ=.ok ps Γ1) (hg:g (ps.map (·.d))=some d):eCB g fl Γ=.ok ⟨.leaf,d⟩ Γ1:=by
 unfold eCB;rw [hl];simp only [Out.bind];rw [hg]
theorem zAT {den:List D->Res} (hl:fl Γ=.ok ps Γ1) (hd:den (ps.map (·.d))=.ok p) (hn:ps.length=n) (hc:ps.all (coer .leaf)=true):eCall n den fl Γ=.ok p Γ1:=by
 unfold eCall;rw [hl];simp only [Out.bind,hn,hd,hc,if_true]
theorem zD9 {ds:List D} {k:Int} (ha:fa Γ=.ok ⟨s,.list ds⟩ Γ1) (hb:fb Γ1=.ok ⟨s',.int k⟩ Γ2) (hi:ixN ds.length k=some j) (hd:ds[j]?=some d) (hs:zC5 s j d=some s2):eIdx fa fb Γ=.ok ⟨s2,d⟩ Γ2:=by
 unfold eIdx eBind;rw [ha];simp only [Out.bind];rw [hb];simp only [hi,hd,hs]
theorem zGK {ds:List D} {k:Int} (ha:fa Γ=.ok ⟨s,.tuple ds⟩ Γ1) (hb:fb Γ1=.ok ⟨s',.int k⟩ Γ2) (hi:ixN ds.length k=some j) (hd:ds[j]?=some d) (hs:zC5 s j d=some s2):eIdx fa fb Γ=.ok ⟨s2,d⟩ Γ2:=by
 unfold eIdx eBind;rw [ha];simp only [Out.bind];rw [hb];simp only [hi,hd,hs]
theorem zDP (hl:fl Γ=.ok ps Γ1) (hs:s.isView=false) (hc:ps.all (coer s)=true) (hn:decide (ps.length<=1000)=true):eList s fl Γ=.ok ⟨.lst s,.list (ps.map (·.d))⟩ Γ1:=by
 have h2:ps.length<=sizeLine:=Nat.le_trans (of_decide_eq_true hn) zG6
 unfold eList;rw [hl];simp only [Out.bind,hs,hc,decide_eq_true h2,Bool.not_false,Bool.and_self,if_true]
theorem v_tup (hl:fl Γ=.ok ps Γ1) (hc:ps.all tok=true) (hn:decide (ps.length<=1000)=true):eTup fl Γ=.ok ⟨.tup (ps.map tsh),.tuple (ps.map (·.d))⟩ Γ1:=by
 have h2:ps.length<=sizeLine:=Nat.le_trans (of_decide_eq_true hn) zG6
 unfold eTup;rw [hl];simp only [Out.bind,hc,decide_eq_true h2,Bool.and_self,if_true]
theorem zHQ {ds:List D} (ha:fa Γ=.ok ⟨s,.list ds⟩ Γ1) (ho:zAP ⟨s,.list ds⟩ ds=true):zCO fa Γ=.ok ⟨.lst .leaf,.list ds⟩ Γ1:=by
 unfold zCO eBind;rw [ha];simp only [Out.bind,ho,if_true]
theorem v_and {a b:Bool} (ha:fa Γ=.ok ⟨s,.bool a⟩ Γ) (hb:fb Γ=.ok ⟨.leaf,.bool b⟩ Γ):eAnd fa fb Γ=.ok ⟨.leaf,.bool (a&&b)⟩ Γ:=by
 unfold eAnd eBind;rw [ha];simp only [Out.bind]
 cases a with
 | false=>rfl
 | true=>exact hb
theorem v_chain {g g':D->D->Option D} {b b':Bool} (ha:fa Γ=.ok p Γ) (hb:fb Γ=.ok q Γ) (hg:g p.d q.d=some (.bool b)) (hs:scalD q.d=true) {z:PV} (hc:fc Γ=.ok z Γ) (hg':g' q.d z.d=some (.bool b')):zFM g g' fa fb fc Γ=.ok ⟨.leaf,.bool (b&&b')⟩ Γ:=by
 unfold zFM eBind;rw [ha];simp only [Out.bind];rw [hb];simp only [hg]
 cases b with
 | false=>rfl
 | true=>simp only [hs,if_true,hc,hg',Bool.true_and]
theorem zAY (ha:fa Γ=.ok ⟨s,.bool b⟩ Γ1):bOf gBool fa Γ=.ok b Γ1:=by unfold bOf;rw [ha];rfl
theorem b_tru (ha:fa Γ=.ok ⟨s,.bool b⟩ Γ1):bOf gTru fa Γ=.ok b Γ1:=by unfold bOf;rw [ha];rfl
theorem b_not {ga:FB} {b:Bool} (h:ga Γ=.ok b Γ1):bNot ga Γ=.ok (!b) Γ1:=by unfold bNot;rw [h];rfl
theorem b_and {ga gb:FB} {a b:Bool} (ha:ga Γ=.ok a Γ) (hb:gb Γ=.ok b Γ):bAnd ga gb Γ=.ok (a&&b) Γ:=by
 unfold bAnd;rw [ha];simp only [Out.bind]
 cases a with
 | false=>rfl
 | true=>exact hb
theorem b_or {ga gb:FB} {a b:Bool} (ha:ga Γ=.ok a Γ) (hb:gb Γ=.ok b Γ):bOr ga gb Γ=.ok (a||b) Γ:=by
 unfold bOr;rw [ha];simp only [Out.bind]
 cases a with
 | false=>exact hb
 | true=>rfl
theorem w_seq {ds:List D} (ha:fa Γ=.ok ⟨s,.list ds⟩ Γ1) (ho:zAP ⟨s,.list ds⟩ ds=true):iSeq fa Γ=.ok ⟨ds,!s.isView⟩ Γ1:=by
 unfold iSeq;rw [ha];simp only [Out.bind,ho,if_true]
theorem w_r1 {k:Int} (hl:fl Γ=.ok ps Γ1) (hp:ps.map (·.d)=[.int k]) (h0:-1000<=k) (h1:k<=100000):iR1 fl Γ=.ok ⟨rngD 0 k.toNat,true⟩ Γ1:=by
 have h3:inRng k=true:=by unfold inRng;simp only [Bool.and_eq_true,decide_eq_true_eq];omega
 unfold iR1;rw [hl];simp only [Out.bind,hp,rng1,h3,if_true]
theorem w_r2 {k m:Int} (hl:fl Γ=.ok ps Γ1) (hp:ps.map (·.d)=[.int k,.int m]) (h0:-1000<=k) (h1:k<=100000) (h2:-1000<=m) (h4:m<=100000):iR2 fl Γ=.ok ⟨rngD k (m-k).toNat,true⟩ Γ1:=by
 have h3:inRng k=true:=by unfold inRng;simp only [Bool.and_eq_true,decide_eq_true_eq];omega
 have h5:inRng m=true:=by unfold inRng;simp only [Bool.and_eq_true,decide_eq_true_eq];omega
 unfold iR2;rw [hl];simp only [Out.bind,hp,rng2,h3,h5,Bool.and_self,if_true]
theorem x_seq {g1 g2:FS} {o:OutS} (h1:g1 Γ=.nx Γ1) (h2:g2 Γ1=o):sSeq g1 g2 Γ=o:=by unfold sSeq;rw [h1];exact h2
theorem x_seqR {g1 g2:FS} (h1:g1 Γ=.rt p):sSeq g1 g2 Γ=.rt p:=by unfold sSeq;rw [h1]
theorem x_if {c:FB} {a b:FS} {t:Bool} {o:OutS} (hc:c Γ=.ok t Γ1) (ht:t=true->a Γ1=o) (hf:t=false->b Γ1=o):sIf c a b Γ=o:=by
 unfold sIf;rw [hc]
 cases t with
 | true=>exact ht rfl
 | false=>exact hf rfl
theorem x_ret (h:fa Γ=.ok p Γ1) (hs:p.s.isView=false):sRet fa Γ=.rt p:=by
 unfold sRet sOf;rw [h];simp only [hs];rfl
theorem zA0 (h:fa Γ=.ok p Γ1) (hc:coer .leaf p=true) (hi:i<Γ1.length):sSet false i fa Γ=.nx (Γ1.set i (some ⟨.leaf,p.d⟩)):=by
 unfold sSet sOf;rw [h];simp only [hi,if_true,hc,Bool.false_and];rfl
theorem zHX (h:fa Γ=.ok p Γ1) (hs:p.s.isView=false) (hi:i<Γ1.length):sSet true i fa Γ=.nx (Γ1.set i (some p)):=by
 unfold sSet sOf;rw [h];simp only [hi,if_true,hs,Bool.true_and,Bool.not_false]
theorem zF7 {ds:List D} (ho:Γ[i]?=some (some ⟨.lst s,.list ds⟩)) (h:fa Γ=.ok p Γ) (hc:coer s p=true) (hn:ds.length<=900):zAW i fa Γ=.nx (Γ.set i (some ⟨.lst s,.list (ds++[p.d])⟩)):=by
 have h2:ds.length<sizeLine:=Nat.lt_of_lt_of_le (by omega:ds.length<1000) zG6
 unfold zAW zIQ;rw [ho];simp only [if_true];unfold sOf;rw [h];simp only;unfold appK;rw [ho];simp only [hc,decide_eq_true h2,Bool.and_self,if_true]
theorem x_setI {ds:List D} {k:Int} (ho:Γ[i]?=some (some ⟨.lst .leaf,.list ds⟩)) (h:fa Γ=.ok p Γ) (hk:fb Γ=.ok ⟨s,.int k⟩ Γ) (hi:ixN ds.length k=some j) (hc:coer .leaf p=true):sSetI i fa fb Γ=.nx (Γ.set i (some ⟨.lst .leaf,.list (ds.set j p.d)⟩)):=by
 unfold sSetI zFV;rw [ho];simp only [if_true];unfold sOf;rw [h];simp only;rw [hk];simp only;unfold setK;rw [ho];simp only [hi,hc,if_true]
theorem x_frz {g:FS} {o:OutS} (h:Γ[i]?=some (some p)) (hg:g (Γ.set i (some ⟨.leaf,p.d⟩))=o):sFrz i g Γ=o:=by unfold sFrz;rw [h];exact hg
theorem x_for {fi:FI} {body:FS} {ds:List D} {o:OutS} (h:fi Γ=.ok ⟨ds,true⟩ Γ1) (hg:forGo i body ds Γ1=o):sFor i fi body Γ=o:=by unfold sFor;rw [h];exact hg
end
end T
namespace KC
open PySem PySem.Spec L2 T
open PyProof.Rows hiding St
def zCF:PySem.PyData:=.tuple [.str "a",.str "b",.str "c",.str "d",.str "e",.str "f"]
def zBG:PySem.PyData:=.tuple [.int 0,.int 1]
def zC4:PySem.PyData:=.int 24
def k_UNTILS:PySem.PyData:=.tuple [.str "some until",.str "all until"]
def k_ALWAYS:PySem.PyData:=.tuple [.str "some always",.str "all always"]
def k_BY_SOME_STEP:PySem.PyData:=.tuple [.str "some next",.str "some until",.str "all always"]
def t_PARTS:List (Str×Int):=[("yes",0),("not",1),("some next",1),("all next",1),("some always",1),("all always",1),("and",2),("or",2),("some until",2),("all until",2)]
def d_is_rising:FS:=(sRet (eCB (gAll false) (eCons (eComp .leaf 1 (iR2 (eCons (eK (.int 1)) (eCons (eCB gLen (eCons (eVar 0) eNil)) eNil))) bTrue (eOp gLt (eIdx (eVar 0) (eOp gSub (eVar 1) (eK (.int 1)))) (eIdx (eVar 0) (eVar 1)))) eNil)))
def zBR:List PySem.PyData->Res:=denOf 2 d_is_rising
def d_are_marks:FS:=(sRet (eAnd (eCB (gAll false) (eCons (eComp .leaf 1 (iSeq (eVar 0)) bTrue (eOp (gIn false) (eVar 1) (eK zCF))) eNil)) (eCall 1 zBR (eCons (eVar 0) eNil))))
def zCN:List PySem.PyData->Res:=denOf 2 d_are_marks
def d_are_rooms:FS:=(sRet (eAnd (eCB (gAll false) (eCons (eComp .leaf 2 (iSeq (eVar 0)) bTrue (zFM gLe gLt (eK (.int 0)) (eVar 2) (eVar 1))) eNil)) (eCall 1 zBR (eCons (eVar 0) eNil))))
def zBK:List PySem.PyData->Res:=denOf 3 d_are_rooms
def d_are_steps:FS:=(sRet (eAnd (eOp gGt (eCB gLen (eCons (eVar 0) eNil)) (eK (.int 0))) (eCall 2 zBK (eCons (eVar 0) (eCons (eVar 1) eNil)))))
def zCM:List PySem.PyData->Res:=denOf 2 d_are_steps
def d_is_world:FS:=(sSeq (sSet false 3 (eCB gLen (eCons (eVar 0) eNil)))
  (sSeq (sIf (bOr (bOf gBool (eOp gLt (eVar 3) (eK (.int 1)))) (bOr (bOf gBool (eOp gGt (eVar 3) (eK zC4))) (bOr (bOf gBool (eOp gNe (eCB gLen (eCons (eVar 1) eNil)) (eVar 3))) (bOf gBool (eOp gNe (eCB gLen (eCons (eVar 2) eNil)) (eVar 3)))))) (sRet (eK (.bool false))) sNext)
  (sSeq (sIf (bNot (bOf gTru (eCB (gAll false) (eCons (eComp .leaf 4 (iSeq (eVar 0)) bTrue (eOp (gIn false) (eVar 4) (eK zBG))) eNil)))) (sRet (eK (.bool false))) sNext)
  (sRet (eAnd (eCB (gAll false) (eCons (eComp .leaf 5 (iSeq (eVar 1)) bTrue (eCall 1 zCN (eCons (eVar 5) eNil))) eNil)) (eCB (gAll false) (eCons (eComp .leaf 5 (iSeq (eVar 2)) bTrue (eCall 2 zCM (eCons (eVar 5) (eCons (eVar 3) eNil)))) eNil)))))))
def zDK:List PySem.PyData->Res:=denOf 6 d_is_world
def d_check_world:FS:=(sIf (bNot (bOf gTru (eCall 3 zDK (eCons (eIdx (eVar 0) (eK (.int 0))) (eCons (eIdx (eVar 0) (eK (.int 1))) (eCons (eIdx (eVar 0) (eK (.int 2))) eNil)))))) sNo sNext)
def zAV:List PySem.PyData->Res:=denOf 1 d_check_world
def zE5:FS:=(sRet (eComp .leaf 2 (iR1 (eCons (eCB gLen (eCons (eIdx (eVar 0) (eK (.int 0))) eNil)) eNil)) (bOf gBool (eOp (gIn true) (eVar 2) (eVar 1))) (eVar 2)))
def zCC:List PySem.PyData->Res:=denOf 3 zE5
def zI9:FS:=(sRet (eIf (bOf gTru (eVar 0)) (eCB (gAll true) (eCons (eVar 1) eNil)) (eCB (gAll false) (eCons (eVar 1) eNil))))
def zEC:List PySem.PyData->Res:=denOf 2 zI9
def zE4:FS:=(sSeq (sSet true 4 (eList .leaf eNil))
  (sSeq (sFor 5 (iSeq (eVar 2))
  (sIf (bAnd (bOf gBool (eOp (gIsN false) (eIdx (eVar 3) (eVar 5)) (eK .none))) (bOf gTru (eCall 2 zEC (eCons (eIdx (eVar 1) (eVar 5)) (eCons (eComp .leaf 6 (iSeq (eIdx (eIdx (eVar 0) (eK (.int 2))) (eVar 5))) bTrue (eOp (gIsN true) (eIdx (eVar 3) (eVar 6)) (eK .none))) eNil))))) (zAW 4 (eVar 5)) sNext))
  (sRet (eMove 4))))
def zBJ:List PySem.PyData->Res:=denOf 7 zE4
def zHE:FS:=(sSeq (sSet true 4 (eComp .leaf 8 (iSeq (eIdx (eVar 0) (eK (.int 0)))) bTrue (eK .none)))
  (sSeq (sSet false 5 (eK (.int 0)))
  (sSeq (sSet false 6 (eVar 3))
  (sSeq (zH2 1000 (bOf gTru (eVar 6))
  (sSeq (sFor 7 (iSeq (eVar 6))
  (sSetI 4 (eVar 5) (eVar 7)))
  (sSeq (sAugI 5 (eK (.int 1)))
  (sSet false 6 (zHO 4 zBJ (eCons (eVar 0) (eCons (eVar 1) (eCons (eVar 2) (eCons (eVar 4) eNil)))))))))
  (sRet (eMove 4))))))
def zEX:List PySem.PyData->Res:=denOf 9 zHE
def d__law_cell_at:FS:=(sSeq (sIf (bOf gBool (eOp gLt (eVar 1) (eCB gLen (eCons (eVar 0) eNil)))) (sRet (eIdx (eVar 0) (eVar 1))) sNext)
  (sRet (eK (.int 0))))
def zAO:List PySem.PyData->Res:=denOf 2 d__law_cell_at
def d__law_draw:FS:=(sSeq (sIf (bOf gBool (eOp gGeA (eVar 0) (eOp gPow (eK (.int 10)) (eK (.int 18))))) (sSeq (sSet false 4 (eVar 0))
  (sSeq (sFor 5 (iR1 (eCons (eVar 1) eNil))
  (sSet false 4 (eOp gDiv (eVar 4) (eVar 2))))
  (sRet (eOp gMod (eVar 4) (eVar 2))))) sNext)
  (sSeq (sSet false 3 (eOp gMod (eOp gMul (eOp gAddI (eOp gAddI (eOp gMod (eVar 0) (eK (.int 1000000007))) (eOp gMul (eK (.int 1009)) (eVar 1))) (eK (.int 17))) (eK (.int 69621))) (eK (.int 2147483647))))
  (sSeq (sSet false 3 (eOp gMod (eOp gAddI (eOp gAddI (eOp gMul (eVar 3) (eVar 3)) (eOp gMul (eK (.int 40503)) (eVar 1))) (eK (.int 5))) (eK (.int 2147483629))))
  (sRet (eOp gMod (eOp gDiv (eOp gMod (eOp gMul (eVar 3) (eK (.int 48271))) (eK (.int 2147483647))) (eK (.int 32))) (eVar 2))))))
def zAK:List PySem.PyData->Res:=denOf 6 d__law_draw
def d__law_world:FS:=(sSeq (sSet false 3 (eOp gAddI (eK (.int 1)) (eOp gMod (eCall 2 zAO (eCons (eVar 0) (eCons (eVar 1) eNil))) (eVar 2))))
  (sSeq (sSet true 4 (eList .leaf eNil))
  (sSeq (sSet true 5 (eList .leaf eNil))
  (sSeq (sSet true 6 (eList .leaf eNil))
  (sSeq (sFor 7 (iR1 (eCons (eVar 3) eNil))
  (sSeq (sSet false 8 (eCall 2 zAO (eCons (eVar 0) (eCons (eOp gAddI (eOp gAddI (eVar 1) (eK (.int 1))) (eVar 7)) eNil))))
  (sSeq (zAW 4 (eCall 3 zAK (eCons (eVar 8) (eCons (eK (.int 0)) (eCons (eK (.int 2)) eNil)))))
  (sSeq (zAW 5 (eComp .leaf 11 (iR1 (eCons (eK (.int 3)) eNil)) (bOf gBool (eOp gEq (eCall 3 zAK (eCons (eVar 8) (eCons (eOp gAddI (eK (.int 1)) (eVar 11)) (eCons (eK (.int 2)) eNil)))) (eK (.int 1)))) (eIdx (eK (.str "abc")) (eVar 11))))
  (sSeq (sSet false 9 (eComp .leaf 10 (iR1 (eCons (eVar 3) eNil)) (bOf gBool (eOp gEq (eCall 3 zAK (eCons (eVar 8) (eCons (eOp gAddI (eK (.int 4)) (eVar 10)) (eCons (eOp gAddI (eK (.int 2)) (eCB gInt (eCons (eOp gGt (eVar 3) (eK (.int 3))) eNil))) eNil)))) (eK (.int 1)))) (eVar 10)))
  (sSeq (sIf (bOf gBool (eOp gEq (eVar 9) (eList .leaf eNil))) (sSet false 9 (eList .leaf (eCons (eCall 3 zAK (eCons (eVar 8) (eCons (eOp gAddI (eK (.int 4)) (eVar 3)) (eCons (eVar 3) eNil)))) eNil))) sNext)
  (zAW 6 (eVar 9))))))))
  (sRet (eTup (eCons (eMove 4) (eCons (eMove 5) (eCons (eMove 6) eNil))))))))))
def m__law_world:List PySem.PyData->Res:=denOf 12 d__law_world
open PySem.SeqAt
def ltD (a b:D):Bool:=match gLt a b with
 | some (.bool t)=>t
 | _=>false
def RowI (ds:List D):Prop:=∀a∈ds,∃n,a=.int n
def RowS (ds:List D):Prop:=∀a∈ds,∃x,a=.str x/\PyData.strOk x=true
def Row (ds:List D):Prop:=RowI ds\/RowS ds
theorem zH0 (i:Int):shaped (.int i)=true:=by simp [shaped,PyData.canLay0,PyData.depth]
theorem sh_str {x:Str} (h:PyData.strOk x=true):shaped (.str x)=true:=by simp [shaped,PyData.canLay0,PyData.depth,h]
theorem Row.lt {ds:List D} {a b:D} (h:Row ds) (ha:a∈ds) (hb:b∈ds):gLt a b=some (.bool (ltD a b))/\gGeA a b=some (.bool (!ltD a b)):=by
 rcases h with h | h
 ·obtain ⟨n,rfl⟩:=h a ha
  obtain ⟨m,rfl⟩:=h b hb
  refine ⟨rfl,?_⟩
  show some (PyData.bool (decide (m<=n)))=some (.bool (!decide (n<m)))
  congr 2
  by_cases q:n<m
  ·simp [q,Int.not_le.mpr q]
  ·simp [q,Int.not_lt.mp q]
 ·obtain ⟨n,rfl,_⟩:=h a ha
  obtain ⟨m,rfl,_⟩:=h b hb
  exact ⟨rfl,rfl⟩
def lt2 (ds:List D) (d:D):Bool:=match d with
 | .int j=>ltD (ds.getD (j-1).toNat .none) (ds.getD j.toNat .none)
 | _=>false
def rises (ds:List D):Bool:=(rngD 1 ((ds.length:Int)-1).toNat).all (lt2 ds)
theorem zH8 {lo:Int} {n:Nat} {d:D} (h:d∈rngD lo n):∃k:Nat,k<n/\d=.int (lo+k):=by
 unfold rngD at h
 simp only [mem_map,mem_range] at h
 obtain ⟨k,hk,e⟩:=h
 exact ⟨k,hk,e.symm⟩
theorem zIY {lo:Int} {n:Nat}:(rngD lo n).length=n:=by unfold rngD;simp
theorem zFU {n:Nat} {k:Nat} (h:k<n):ixN n (k:Int)=some k:=by
 unfold ixN
 rw [if_pos (by omega),if_pos (by omega)]
 simp
theorem ix_of {n:Nat} {i:Int} (h0:0<=i) (h1:i<n):ixN n i=some i.toNat:=by
 unfold ixN
 rw [if_pos h0,if_pos h1]
theorem in_rng {i:Int} (h0:-1000<=i) (h1:i<=100000):inRng i=true:=by
 unfold inRng
 simp only [Bool.and_eq_true,decide_eq_true_eq]
 omega
theorem zKG {ds:List D} {k:Nat} (h:k<ds.length):ds[k]?=some (ds.getD k .none):=by
 rw [getD_eq_getElem?_getD,getElem?_eq_getElem h];rfl
theorem zI3 {ds:List D} {k:Nat} (h:k<ds.length):ds.getD k .none∈ds:=mem_of_getElem? (zKG h)
theorem lt_ev {ds:List D} {k:Nat} (h:Row ds) (hk:k<((ds.length:Int)-1).toNat):ixN ds.length (1+(k:Int)-1)=some k/\ixN ds.length (1+(k:Int))=some (k+1)/\ds[k]?=some (ds.getD k .none)/\ds[k+1]?=some (ds.getD (k+1) .none) /\
  gLt (ds.getD k .none) (ds.getD (k+1) .none)=some (.bool (lt2 ds (.int (1+(k:Int)))))/\gGeA (ds.getD k .none) (ds.getD (k+1) .none)=some (.bool (!lt2 ds (.int (1+(k:Int))))):=by
 have h1:k<ds.length:=by omega
 have h2:k+1<ds.length:=by omega
 have l:=h.lt (zI3 h1) (zI3 h2)
 have e3:lt2 ds (.int (1+(k:Int)))=ltD (ds.getD k .none) (ds.getD (k+1) .none):=by
  unfold lt2
  dsimp only
  rw [show (1+(k:Int)-1).toNat=k by omega,show (1+(k:Int)).toNat=k+1 by omega]
 rw [e3]
 exact ⟨by rw [show (1+(k:Int)-1)=k by omega];exact zFU h1,by rw [show (1+(k:Int))=((k+1:Nat):Int) by omega];exact zFU h2,zKG h1,zKG h2,l.1,l.2⟩
theorem rt_of {n:Nat} {g:FS} {ds:List D} {p:PV} (h:g (zAL n ds)=.rt p):denOf n g ds=.ok p:=by unfold denOf;rw [h]
theorem eq_int {a b:Int}:gEq (.int a) (.int b)=some (.bool (a==b)):=by
 unfold gEq
 rw [zH0,zH0,Bool.and_self,if_pos rfl,PyData.eqv]
theorem den_is_rising {ds:List D} (h:Row ds) (hl:ds.length<=100):zBR [.list ds]=.ok ⟨.leaf,.bool (rises ds)⟩:=by
 have hc:eComp .leaf 1 (iR2 (eCons (eK (.int 1)) (eCons (eCB gLen (eCons (eVar 0) eNil)) eNil))) bTrue (eOp gLt (eIdx (eVar 0) (eOp gSub (eVar 1) (eK (.int 1)))) (eIdx (eVar 0) (eVar 1))) [some ⟨.leaf,.list ds⟩,none] =
   .ok ⟨.lst .leaf,.list ((rngD 1 ((ds.length:Int)-1).toNat).map fun d=>.bool (lt2 ds d))⟩ [some ⟨.leaf,.list ds⟩,none]:=by
  refine zEY (f:=fun d=>⟨.leaf,.bool (lt2 ds d)⟩) (st:=true) (w_r2 (k:=1) (m:=(ds.length:Int)) (zAE v_k (zAE (v_cb (zAE (zAC rfl) v_nil) rfl) v_nil)) rfl (by omega) (by omega) (by omega) (by omega)) (by simp) rfl (by rw [zIY];omega) fun d hd=>⟨?_,rfl⟩
  obtain ⟨k,hk,rfl⟩:=zH8 hd
  obtain ⟨e1,e2,e3,e4,e5,e6⟩:=lt_ev h hk
  exact v_op (zD9 (zAC rfl) (v_op (zAC rfl) v_k rfl) e1 e3 rfl) (zD9 (zAC rfl) (zAC rfl) e2 e4 rfl) e5
 exact rt_of (x_ret (v_cb (zAE hc v_nil) zHD) rfl)
def inL (a:D):Bool:=[PyData.str "a",.str "b",.str "c",.str "d",.str "e",.str "f"].any fun y=>PyData.eqv y a
def inP (a:D):Bool:=[PyData.int 0,.int 1].any fun y=>PyData.eqv y a
def inR (n:Int) (a:D):Bool:=match a with
 | .int i=>decide (0<=i)&&decide (i<n)
 | _=>false
def mOk (d:D):Bool:=match d with
 | .list xs=>xs.all inL&&rises xs
 | _=>false
def sOk (n:Int) (d:D):Bool:=match d with
 | .list xs=>decide (0<xs.length)&&(xs.all (inR n)&&rises xs)
 | _=>false
theorem sh_let:shaped zCF=true:=by decide +kernel
theorem sh_pl:shaped zBG=true:=by decide +kernel
theorem in_let {x:Str} (hx:PyData.strOk x=true):gIn false (.str x) zCF=some (.bool (inL (.str x))):=by
 unfold gIn zCF
 have:=sh_let
 unfold zCF at this
 simp only [sh_str hx,this,Bool.and_self,if_true]
 rfl
theorem in_pl {i:Int}:gIn false (.int i) zBG=some (.bool (inP (.int i))):=by
 unfold gIn zBG
 have:=sh_pl
 unfold zBG at this
 simp only [zH0,this,Bool.and_self,if_true]
 rfl
theorem den_are_marks {ds:List D} (h:RowS ds) (hl:ds.length<=100):zCN [.list ds]=.ok ⟨.leaf,.bool (ds.all inL&&rises ds)⟩:=by
 have hc:eComp .leaf 1 (iSeq (eVar 0)) bTrue (eOp (gIn false) (eVar 1) (eK zCF)) [some ⟨.leaf,.list ds⟩,none]=.ok ⟨.lst .leaf,.list (ds.map fun d=>.bool (inL d))⟩ [some ⟨.leaf,.list ds⟩,none]:=by
  refine zEY (f:=fun d=>⟨.leaf,.bool (inL d)⟩) (w_seq (zAC rfl) rfl) (by simp) rfl (by omega) fun d hd=>⟨?_,rfl⟩
  obtain ⟨x,rfl,hx⟩:=h d hd
  exact v_op (zAC rfl) v_k (in_let hx)
 exact rt_of (x_ret (v_and (v_cb (zAE hc v_nil) zHD) (zAT (zAE (zAC rfl) v_nil) (den_is_rising (.inr h) hl) rfl rfl)) rfl)
theorem chain_ev {i n:Int}:gLe (.int 0) (.int i)=some (.bool (decide (0<=i)))/\gLt (.int i) (.int n)=some (.bool (decide (i<n))):=⟨rfl,rfl⟩
theorem den_are_rooms {ds:List D} {n:Int} (h:RowI ds) (hl:ds.length<=100):zBK [.list ds,.int n]=.ok ⟨.leaf,.bool (ds.all (inR n)&&rises ds)⟩:=by
 have hc:eComp .leaf 2 (iSeq (eVar 0)) bTrue (zFM gLe gLt (eK (.int 0)) (eVar 2) (eVar 1)) [some ⟨.leaf,.list ds⟩,some ⟨.leaf,.int n⟩,none]=.ok ⟨.lst .leaf,.list (ds.map fun d=>.bool (inR n d))⟩ [some ⟨.leaf,.list ds⟩,some ⟨.leaf,.int n⟩,none]:=by
  refine zEY (f:=fun d=>⟨.leaf,.bool (inR n d)⟩) (w_seq (zAC rfl) rfl) (by simp) rfl (by omega) fun d hd=>⟨?_,rfl⟩
  obtain ⟨i,rfl⟩:=h d hd
  exact v_chain v_k (zAC rfl) (chain_ev (n:=n)).1 rfl (zAC rfl) chain_ev.2
 exact rt_of (x_ret (v_and (v_cb (zAE hc v_nil) zHD) (zAT (zAE (zAC rfl) v_nil) (den_is_rising (.inl h) hl) rfl rfl)) rfl)
theorem den_are_steps {ds:List D} {n:Int} (h:RowI ds) (hl:ds.length<=100):zCM [.list ds,.int n]=.ok ⟨.leaf,.bool (decide (0<ds.length)&&(ds.all (inR n)&&rises ds))⟩:=by
 have e:gGt (.int (ds.length:Nat)) (.int 0)=some (.bool (decide (0<ds.length))):=by
  show some (PyData.bool (decide ((0:Int)<(ds.length:Int))))=_
  congr 2
  exact decide_eq_decide.mpr (by omega)
 exact rt_of (x_ret (v_and (v_op (v_cb (zAE (zAC rfl) v_nil) rfl) v_k e) (zAT (zAE (zAC rfl) (zAE (zAC rfl) v_nil)) (den_are_rooms h hl) rfl rfl)) rfl)
structure Wk (b:Nat) (os ms ss:List D):Prop where
 o:RowI os
 m:∀r∈ms,∃xs,r=.list xs/\RowS xs/\xs.length<=30
 s:∀r∈ss,∃xs,r=.list xs/\RowI xs/\xs.length<=30
 lo:os.length<=b
 lm:ms.length<=b
 ls:ss.length<=b
def bad (os ms ss:List D):Bool:=decide ((os.length:Int)<1)||(decide ((24:Int)<os.length)||((!((ms.length:Int)==(os.length:Int)))||(!((ss.length:Int)==(os.length:Int)))))
def isW (os ms ss:List D):Bool:=!bad os ms ss&&(os.all inP&&(ms.all mOk&&ss.all (sOk os.length)))
theorem ne_int {a b:Int}:gNe (.int a) (.int b)=some (.bool (!(a==b))):=by
 unfold gNe
 rw [zH0,zH0,Bool.and_self,if_pos rfl,PyData.eqv]
theorem den_is_world {b:Nat} {os ms ss:List D} (h:Wk b os ms ss) (hb:b<=100):zDK [.list os,.list ms,.list ss]=.ok ⟨.leaf,.bool (isW os ms ss)⟩:=by
 have lo:=h.lo
 have lm:=h.lm
 have ls:=h.ls
 refine rt_of ?_
 refine x_seq (zA0 (v_cb (zAE (zAC rfl) v_nil) rfl) rfl (by simp [zAL])) ?_
 have hif:(bOr (bOf gBool (eOp gLt (eVar 3) (eK (.int 1)))) (bOr (bOf gBool (eOp gGt (eVar 3) (eK zC4))) (bOr (bOf gBool (eOp gNe (eCB gLen (eCons (eVar 1) eNil)) (eVar 3))) (bOf gBool (eOp gNe (eCB gLen (eCons (eVar 2) eNil)) (eVar 3)))))) [some ⟨.leaf,.list os⟩,some ⟨.leaf,.list ms⟩,some ⟨.leaf,.list ss⟩,some ⟨.leaf,.int (os.length:Nat)⟩,none,none]
   = .ok (bad os ms ss) [some ⟨.leaf,.list os⟩,some ⟨.leaf,.list ms⟩,some ⟨.leaf,.list ss⟩,some ⟨.leaf,.int (os.length:Nat)⟩,none,none]:=
  b_or (zAY (v_op (zAC rfl) v_k rfl)) (b_or (zAY (v_op (zAC rfl) v_k rfl)) (b_or (zAY (v_op (v_cb (zAE (zAC rfl) v_nil) rfl) (zAC rfl) ne_int)) (zAY (v_op (v_cb (zAE (zAC rfl) v_nil) rfl) (zAC rfl) ne_int))))
 cases hbad:bad os ms ss with
 | true=>
  rw [hbad] at hif
  unfold isW
  rw [hbad]
  exact x_seqR (x_if hif (fun _=>x_ret v_k rfl) nofun)
 | false=>
  rw [hbad] at hif
  refine x_seq (x_if hif nofun (fun _=>rfl)) ?_
  have c1:eComp .leaf 4 (iSeq (eVar 0)) bTrue (eOp (gIn false) (eVar 4) (eK zBG)) [some ⟨.leaf,.list os⟩,some ⟨.leaf,.list ms⟩,some ⟨.leaf,.list ss⟩,some ⟨.leaf,.int (os.length:Nat)⟩,none,none]
    = .ok ⟨.lst .leaf,.list (os.map fun d=>.bool (inP d))⟩ [some ⟨.leaf,.list os⟩,some ⟨.leaf,.list ms⟩,some ⟨.leaf,.list ss⟩,some ⟨.leaf,.int (os.length:Nat)⟩,none,none]:=by
   refine zEY (f:=fun d=>⟨.leaf,.bool (inP d)⟩) (w_seq (zAC rfl) rfl) (by simp) rfl (by omega) fun d hd=>⟨?_,rfl⟩
   obtain ⟨i,rfl⟩:=h.o d hd
   exact v_op (zAC rfl) v_k in_pl
  have c2:eComp .leaf 5 (iSeq (eVar 1)) bTrue (eCall 1 zCN (eCons (eVar 5) eNil)) [some ⟨.leaf,.list os⟩,some ⟨.leaf,.list ms⟩,some ⟨.leaf,.list ss⟩,some ⟨.leaf,.int (os.length:Nat)⟩,none,none]
    = .ok ⟨.lst .leaf,.list (ms.map fun d=>.bool (mOk d))⟩ [some ⟨.leaf,.list os⟩,some ⟨.leaf,.list ms⟩,some ⟨.leaf,.list ss⟩,some ⟨.leaf,.int (os.length:Nat)⟩,none,none]:=by
   refine zEY (f:=fun d=>⟨.leaf,.bool (mOk d)⟩) (w_seq (zAC rfl) rfl) (by simp) rfl (by omega) fun d hd=>⟨?_,rfl⟩
   obtain ⟨xs,rfl,hx,hl⟩:=h.m d hd
   exact zAT (zAE (zAC rfl) v_nil) (den_are_marks hx (by omega)) rfl rfl
  have c3:eComp .leaf 5 (iSeq (eVar 2)) bTrue (eCall 2 zCM (eCons (eVar 5) (eCons (eVar 3) eNil))) [some ⟨.leaf,.list os⟩,some ⟨.leaf,.list ms⟩,some ⟨.leaf,.list ss⟩,some ⟨.leaf,.int (os.length:Nat)⟩,none,none]
    = .ok ⟨.lst .leaf,.list (ss.map fun d=>.bool (sOk os.length d))⟩ [some ⟨.leaf,.list os⟩,some ⟨.leaf,.list ms⟩,some ⟨.leaf,.list ss⟩,some ⟨.leaf,.int (os.length:Nat)⟩,none,none]:=by
   refine zEY (f:=fun d=>⟨.leaf,.bool (sOk os.length d)⟩) (w_seq (zAC rfl) rfl) (by simp) rfl (by omega) fun d hd=>⟨?_,rfl⟩
   obtain ⟨xs,rfl,hx,hl⟩:=h.s d hd
   exact zAT (zAE (zAC rfl) (zAE (zAC rfl) v_nil)) (den_are_steps hx (by omega)) rfl rfl
  have t1:=b_not (b_tru (v_cb (zAE c1 v_nil) zHD))
  cases ho:os.all inP with
  | false=>
   rw [ho] at t1
   unfold isW
   rw [ho,Bool.false_and,Bool.and_false]
   exact x_seqR (x_if t1 (fun _=>x_ret v_k rfl) nofun)
  | true=>
   rw [ho] at t1
   refine x_seq (x_if t1 nofun (fun _=>rfl)) ?_
   unfold isW
   rw [hbad,ho,Bool.not_false,Bool.true_and,Bool.true_and]
   exact x_ret (v_and (v_cb (zAE c2 v_nil) zHD) (v_cb (zAE c3 v_nil) zHD)) rfl
theorem eq_nil {xs:List D} (h:shaped (.list xs)=true):gEq (.list xs) (.list [])=some (.bool (decide (xs.length=0))):=by
 unfold gEq
 have h2:shaped (.list [])=true:=by decide +kernel
 rw [h,h2,Bool.and_self,if_pos rfl]
 cases xs with
 | nil=>rfl
 | cons a r=>rfl
theorem zIX {xs:List D} (h:RowI xs):shaped (.list xs)=true:=by
 have c:PyData.canLayAll0 xs=true/\PyData.depthAll xs=0:=by
  induction xs with
  | nil=>exact ⟨rfl,rfl⟩
  | cons a r ih=>
   obtain ⟨n,rfl⟩:=h a mem_cons_self
   have q:=ih fun x hx=>h x (mem_cons_of_mem _ hx)
   simp [PyData.canLayAll0,PyData.canLay0,PyData.depthAll,PyData.depth,q.1,q.2]
 simp [shaped,PyData.canLay0,PyData.depth,c.1,c.2]
theorem lt_int {a b:Int}:gLt (.int a) (.int b)=some (.bool (decide (a<b))):=rfl
theorem ge_int' {a b:Int}:gGeA (.int a) (.int b)=some (.bool (decide (b<=a))):=rfl
theorem add_int' {a b:Int}:gAddI (.int a) (.int b)=some (.int (a+b)):=rfl
theorem sub_int' {a b:Int}:gSub (.int a) (.int b)=some (.int (a-b)):=rfl
theorem mod_i {a b:Int} (h:0<b):gMod (.int a) (.int b)=some (.int (a % b)):=by
 show (if cMod a b then _ else _)=_
 rw [if_pos (by unfold cMod;simpa using h)]
theorem div_i {a b:Int} (h:0<b) (h2:b<1073741824):gDiv (.int a) (.int b)=some (.int (a / b)):=by
 show (if cDiv a b then _ else _)=_
 rw [if_pos (by unfold cDiv;simp [h,h2])]
theorem mul_r {a b:Int} (h:-1000000000000<b) (h2:b<1000000000000):gMul (.int a) (.int b)=some (.int (a*b)):=by
 show (if cMul a b then _ else _)=_
 rw [if_pos (by unfold cMul;simp only [Bool.or_eq_true,Bool.and_eq_true,decide_eq_true_eq];right;omega)]
theorem mul_l {a b:Int} (h:-1000000000000<a) (h2:a<1000000000000):gMul (.int a) (.int b)=some (.int (a*b)):=by
 show (if cMul a b then _ else _)=_
 rw [if_pos (by unfold cMul;simp only [Bool.or_eq_true,Bool.and_eq_true,decide_eq_true_eq];left;omega)]
theorem pow_i {b:Int} (h:0<=b) (h2:b<=100):gPow (.int 10) (.int b)=some (.int (10 ^ b.toNat)):=by
 show (if cPow 10 b then _ else _)=_
 rw [if_pos (by unfold cPow;simp only [Bool.and_eq_true,decide_eq_true_eq];exact ⟨⟨h,by omega⟩,by decide⟩)]
theorem zGF {xs:List D} (h:RowI xs) {k:Int} (hk:0<=k):∃c,zAO [.list xs,.int k]=.ok ⟨.leaf,.int c⟩:=by
 have t:bOf gBool (eOp gLt (eVar 1) (eCB gLen (eCons (eVar 0) eNil))) [some ⟨.leaf,.list xs⟩,some ⟨.leaf,.int k⟩]=.ok (decide (k<(xs.length:Int))) [some ⟨.leaf,.list xs⟩,some ⟨.leaf,.int k⟩]:=
  zAY (v_op (zAC rfl) (v_cb (zAE (zAC rfl) v_nil) rfl) lt_int)
 cases hlt:decide (k<(xs.length:Int)) with
 | true=>
  rw [hlt] at t
  have hl:=of_decide_eq_true hlt
  have hk2:k.toNat<xs.length:=by omega
  obtain ⟨c,hc⟩:=h _ (zI3 hk2)
  have g:=zKG hk2
  rw [hc] at g
  exact ⟨c,rt_of (x_seqR (x_if t (fun _=>x_ret (zD9 (zAC rfl) (zAC rfl) (ix_of hk hl) g rfl) rfl) nofun))⟩
 | false=>
  rw [hlt] at t
  exact ⟨0,rt_of (x_seq (x_if t nofun (fun _=>rfl)) (x_ret v_k rfl))⟩
theorem den_draw {c k b:Int} (hk:0<=k) (hk2:k<=1000) (hb:1<=b) (hb2:b<=1000):∃r,zAK [.int c,.int k,.int b]=.ok ⟨.leaf,.int r⟩/\0<=r/\r<b:=by
 have t:bOf gBool (eOp gGeA (eVar 0) (eOp gPow (eK (.int 10)) (eK (.int 18)))) [some ⟨.leaf,.int c⟩,some ⟨.leaf,.int k⟩,some ⟨.leaf,.int b⟩,none,none,none]=.ok (decide (10 ^ (18:Int).toNat<=c)) [some ⟨.leaf,.int c⟩,some ⟨.leaf,.int k⟩,some ⟨.leaf,.int b⟩,none,none,none]:=
  zAY (v_op (zAC rfl) (v_op v_k v_k (pow_i (by omega) (by omega))) ge_int')
 cases hge:decide (10 ^ (18:Int).toNat<=c) with
 | true=>
  rw [hge] at t
  obtain ⟨Γ',e,l,x,hΓ⟩:=zI6 (P:=fun _ Γ=>∃l x,Γ=[some ⟨.leaf,.int c⟩,some ⟨.leaf,.int k⟩,some ⟨.leaf,.int b⟩,none,some ⟨.leaf,.int l⟩,x]) (i:=5) (body:=sSet false 4 (eOp gDiv (eVar 4) (eVar 2))) (rngD 0 k.toNat) 0
   [some ⟨.leaf,.int c⟩,some ⟨.leaf,.int k⟩,some ⟨.leaf,.int b⟩,none,some ⟨.leaf,.int c⟩,none] ⟨c,none,rfl⟩ (fun m d Γ hd _ _ ⟨l,x,hΓ⟩=>by
    subst hΓ
    refine ⟨by simp,_,zA0 (v_op (zAC rfl) (zAC rfl) (div_i (by omega) (by omega))) rfl (by simp),_,_,rfl⟩)
  subst hΓ
  exact ⟨_,rt_of (x_seqR (x_if t (fun _=>x_seq (zA0 (zAC rfl) rfl (by simp)) (x_seq (x_for (w_r1 (k:=k) (zAE (zAC rfl) v_nil) rfl (by omega) (by omega)) e) (x_ret (v_op (zAC rfl) (zAC rfl) (mod_i (by omega))) rfl))) nofun)),Int.emod_nonneg _ (by omega),Int.emod_lt_of_pos _ (by omega)⟩
 | false=>
  rw [hge] at t
  have m1:∀x:Int,0<=x % 2147483647/\x % 2147483647<2147483647:=fun x=>⟨Int.emod_nonneg _ (by omega),Int.emod_lt_of_pos _ (by omega)⟩
  refine ⟨_,rt_of (x_seq (x_if t nofun (fun _=>rfl)) (x_seq (zA0 (v_op (v_op (v_op (v_op (v_op (zAC rfl) v_k (mod_i (by omega))) (v_op v_k (zAC rfl) (mul_l (by omega) (by omega))) add_int') v_k add_int') v_k (mul_r (by omega) (by omega))) v_k (mod_i (by omega))) rfl (by simp [zAL]))
   (x_seq (zA0 (v_op (v_op (v_op (v_op (zAC rfl) (zAC rfl) (mul_l ?_ ?_)) (v_op v_k (zAC rfl) (mul_l (by omega) (by omega))) add_int') v_k add_int') v_k (mod_i (by omega))) rfl (by simp [zAL]))
   (x_ret (v_op (v_op (v_op (v_op (zAC rfl) v_k (mul_r (by omega) (by omega))) v_k (mod_i (by omega))) v_k (div_i (by omega) (by omega))) (zAC rfl) (mod_i (by omega))) rfl)))),Int.emod_nonneg _ (by omega),Int.emod_lt_of_pos _ (by omega)⟩
  ·exact Int.lt_of_lt_of_le (by omega) (m1 _).1
  ·exact Int.lt_trans (m1 _).2 (by omega)
def drw (c k b:Int):Int:=match zAK [.int c,.int k,.int b] with
 | .ok ⟨_,.int r⟩=>r
 | _=>0
theorem zFY {c k b:Int} (hk:0<=k) (hk2:k<=1000) (hb:1<=b) (hb2:b<=1000):zAK [.int c,.int k,.int b]=.ok ⟨.leaf,.int (drw c k b)⟩:=by
 obtain ⟨r,e,_⟩:=den_draw (c:=c) hk hk2 hb hb2
 unfold drw
 rw [e]
theorem zKI {c k b:Int} (hk:0<=k) (hk2:k<=1000) (hb:1<=b) (hb2:b<=1000):0<=drw c k b/\drw c k b<b:=by
 obtain ⟨r,e,h⟩:=den_draw (c:=c) hk hk2 hb hb2
 unfold drw
 rw [e]
 exact h
def abc (d:D):D:=match d with
 | .int k=>(match atI [97,98,99] k with
  | some c=>.str ⟨#[c]⟩
  | none=>.none)
 | _=>.none
theorem ok_small {c:Nat} (h:c<1000):PyData.strOk ⟨#[c]⟩=true:=by
 unfold PyData.strOk
 simp
 omega
abbrev eW:FS:=(sSeq (sSet false 8 (eCall 2 zAO (eCons (eVar 0) (eCons (eOp gAddI (eOp gAddI (eVar 1) (eK (.int 1))) (eVar 7)) eNil))))
  (sSeq (zAW 4 (eCall 3 zAK (eCons (eVar 8) (eCons (eK (.int 0)) (eCons (eK (.int 2)) eNil)))))
  (sSeq (zAW 5 (eComp .leaf 11 (iR1 (eCons (eK (.int 3)) eNil)) (bOf gBool (eOp gEq (eCall 3 zAK (eCons (eVar 8) (eCons (eOp gAddI (eK (.int 1)) (eVar 11)) (eCons (eK (.int 2)) eNil)))) (eK (.int 1)))) (eIdx (eK (.str "abc")) (eVar 11))))
  (sSeq (sSet false 9 (eComp .leaf 10 (iR1 (eCons (eVar 3) eNil)) (bOf gBool (eOp gEq (eCall 3 zAK (eCons (eVar 8) (eCons (eOp gAddI (eK (.int 4)) (eVar 10)) (eCons (eOp gAddI (eK (.int 2)) (eCB gInt (eCons (eOp gGt (eVar 3) (eK (.int 3))) eNil))) eNil)))) (eK (.int 1)))) (eVar 10)))
  (sSeq (sIf (bOf gBool (eOp gEq (eVar 9) (eList .leaf eNil))) (sSet false 9 (eList .leaf (eCons (eCall 3 zAK (eCons (eVar 8) (eCons (eOp gAddI (eK (.int 4)) (eVar 3)) (eCons (eVar 3) eNil)))) eNil))) sNext)
  (zAW 6 (eVar 9)))))))
theorem rises_of {ts:List Int} (h:ts.Pairwise (· < ·)):rises (ts.map .int)=true:=by
 unfold rises
 rw [all_eq_true]
 intro d hd
 obtain ⟨k,hk,rfl⟩:=zH8 hd
 rw [length_map] at hk
 have h1:k<ts.length:=by omega
 have h2:k+1<ts.length:=by omega
 unfold lt2
 dsimp only
 rw [show (1+(k:Int)-1).toNat=k by omega,show (1+(k:Int)).toNat=k+1 by omega]
 rw [getD_eq_getElem?_getD,getD_eq_getElem?_getD,getElem?_map,getElem?_map,getElem?_eq_getElem h1,getElem?_eq_getElem h2]
 have:=List.pairwise_iff_getElem.mp h k (k+1) h1 h2 (by omega)
 show decide (ts[k]<ts[k+1])=true
 exact decide_eq_true this
structure Gw (N:Int) (n:Nat) (os ms ss:List D):Prop where
 lo:os.length=n
 lm:ms.length=n
 ls:ss.length=n
 o:∀a∈os,a=.int 0\/a=.int 1
 m:∀r∈ms,∃xs,r=.list xs/\RowS xs/\xs.length<=30/\mOk r=true
 s:∀r∈ss,∃ts:List Int,r=.list (ts.map .int)/\ts.length<=30/\ts≠[]/\(∀t∈ts,0<=t/\t<N)/\ts.Pairwise (· < ·)
theorem zGB {ts:List Int}:RowI (ts.map .int):=fun a ha=>by
 obtain ⟨n,_,e⟩:=List.mem_map.mp ha
 exact ⟨n,e.symm⟩
theorem Gw.wk {N:Int} {n b:Nat} {os ms ss:List D} (h:Gw N n os ms ss) (hb:n<=b):Wk b os ms ss:=
 ⟨fun a ha=>(h.o a ha).elim (fun e=>⟨0,e⟩) fun e=>⟨1,e⟩,fun r hr=>let ⟨xs,e,a,b,_⟩:=h.m r hr;⟨xs,e,a,b⟩,fun r hr=>let ⟨ts,e,a,_⟩:=h.s r hr;⟨_,e,zGB,by rw [length_map];exact a⟩,by rw [h.lo];exact hb,by rw [h.lm];exact hb,by rw [h.ls];exact hb⟩
theorem Gw.isW {n:Nat} {os ms ss:List D} (h:Gw (n:Int) n os ms ss) (h1:1<=n) (h24:n<=24):isW os ms ss=true:=by
 unfold KC.isW bad
 rw [h.lo,h.lm,h.ls]
 have e1:decide ((n:Int)<1)=false:=decide_eq_false (by omega)
 have e2:decide ((24:Int)<n)=false:=decide_eq_false (by omega)
 rw [e1,e2]
 simp only [beq_self_eq_true,Bool.not_true,Bool.or_self,Bool.not_false,Bool.true_and,Bool.and_eq_true,all_eq_true]
 refine ⟨fun a ha=>?_,fun r hr=>?_,fun r hr=>?_⟩
 ·rcases h.o a ha with rfl | rfl<;>rfl
 ·obtain ⟨xs,_,_,_,e⟩:=h.m r hr
  exact e
 ·obtain ⟨ts,rfl,h2,h3,h4,h5⟩:=h.s r hr
  unfold sOk
  simp only [Bool.and_eq_true,decide_eq_true_eq,length_map,all_eq_true]
  refine ⟨by cases ts with | nil=>exact absurd rfl h3 | cons a r=>simp,fun a ha=>?_,rises_of h5⟩
  obtain ⟨t,ht,rfl⟩:=List.mem_map.mp ha
  have:=h4 t ht
  unfold inR
  simp only [Bool.and_eq_true,decide_eq_true_eq]
  exact this
theorem mOk8 (c0 c1 c2:Bool):mOk (.list (((if c0 then [PyData.str ⟨#[97]⟩] else [])++((if c1 then [PyData.str ⟨#[98]⟩] else [])++(if c2 then [PyData.str ⟨#[99]⟩] else [])))))=true:=by
 cases c0<;>cases c1<;>cases c2<;>decide +kernel
theorem rng_ts (n:Nat) (c:D->Bool):∃ts:List Int,((rngD 0 n).filter c).map (fun d=>d)=ts.map .int/\(∀t∈ts,0<=t/\t<(n:Int))/\ts.Pairwise (· < ·)/\ts.length<=n:=by
 refine ⟨((List.range n).map fun i=>(0:Int)+(i:Nat)).filter fun i=>c (.int i),?_,fun t ht=>?_,?_,?_⟩
 ·rw [List.map_id']
  unfold rngD
  rw [show (fun i:Nat=>PyData.int (0+(i:Int)))=(PyData.int∘fun i:Nat=>(0:Int)+(i:Nat)) from rfl,<-map_map,List.filter_map]
  rfl
 ·obtain ⟨h1,_⟩:=List.mem_filter.mp ht
  obtain ⟨i,hi,rfl⟩:=List.mem_map.mp h1
  rw [mem_range] at hi
  omega
 ·refine List.Pairwise.filter _ ?_
  rw [pairwise_map]
  exact List.pairwise_lt_range.imp fun h=>by omega
 ·refine Nat.le_trans (length_filter_le _ _) ?_
  simp
abbrev W3:Sh:=.tup [.lst .leaf,.lst .leaf,.lst .leaf]
abbrev tup3 (os ms ss:List D):D:=.tuple [.list os,.list ms,.list ss]
theorem nx_of {n:Nat} {g:FS} {ds:List D} {Γ:Ev} (h:g (zAL n ds)=.nx Γ):denOf n g ds=.ok ⟨.leaf,.none⟩:=by unfold denOf;rw [h]
theorem zFN {Γ Γ1:Ev} {fa:F1} {p:PV} (h:fa Γ=.ok p Γ1):sDrop fa Γ=.nx Γ1:=by unfold sDrop sOf;rw [h]
theorem den_check {b:Nat} {os ms ss:List D} (h:Wk b os ms ss) (hb:b<=100) (hw:isW os ms ss=true):zAV [tup3 os ms ss]=.ok ⟨.leaf,.none⟩:=by
 have t:bNot (bOf gTru (eCall 3 zDK (eCons (eIdx (eVar 0) (eK (.int 0))) (eCons (eIdx (eVar 0) (eK (.int 1))) (eCons (eIdx (eVar 0) (eK (.int 2))) eNil))))) [some ⟨.leaf,tup3 os ms ss⟩]=.ok (!(isW os ms ss)) [some ⟨.leaf,tup3 os ms ss⟩]:=
  b_not (b_tru (zAT (zAE (zGK (j:=0) (zAC rfl) v_k rfl rfl rfl) (zAE (zGK (j:=1) (zAC rfl) v_k rfl rfl rfl) (zAE (zGK (j:=2) (zAC rfl) v_k rfl rfl rfl) v_nil))) (den_is_world h hb) rfl rfl))
 rw [hw] at t
 exact nx_of (x_if t nofun (fun _=>rfl))
theorem eq_refl' {d:D} (h:shaped d=true):gEq d d=some (.bool true):=by
 unfold gEq
 rw [h,Bool.and_self,if_pos rfl,PySem.SeqAt.eqv_refl _ (canLay_of_shaped h)]
def dl (S:List (List Int)):List D:=S.map fun ts=>.list (ts.map .int)
structure Sw (n:Nat) (S:List (List Int)):Prop where
 len:S.length=n
 row:∀ts∈S,ts.length<=30/\(∀t∈ts,0<=t/\t<(n:Int))/\ts.Pairwise (· < ·)
theorem in_row {ts:List Int} {i:Int}:gIn false (.int i) (.list (ts.map .int))=some (.bool (ts.contains i)):=by
 unfold gIn
 simp only [zH0,zIX zGB,Bool.and_self,if_true]
 congr 2
 rw [Bool.eq_iff_iff]
 simp only [Bool.false_eq_true,if_false,any_eq_true,mem_map,contains_iff_mem]
 constructor
 ·rintro ⟨d,⟨t,ht,rfl⟩,e⟩
  rw [PyData.eqv] at e
  have:t=i:=by simpa using e
  rw [<-this];exact ht
 ·intro h
  exact ⟨.int i,⟨i,h,rfl⟩,by rw [PyData.eqv];simp⟩
def has (x:Str) (d:D):Bool:=match d with
 | .list xs=>xs.any fun y=>PyData.eqv y (.str x)
 | _=>false
theorem notin_row {ts:List Int} {i:Int}:gIn true (.int i) (.list (ts.map .int))=some (.bool (!ts.contains i)):=by
 have h:=in_row (ts:=ts) (i:=i)
 unfold gIn at h ⊢
 simp only [zH0,zIX zGB,Bool.and_self,if_true,Bool.false_eq_true,if_false] at h ⊢
 have h:=Option.some.inj h
 injection h with h
 rw [h]
end KC
namespace T
open PySem PySem.Spec L2
open PyProof.Rows hiding St
section
variable {Γ Γ1:Ev} {fa fb fc:F1} {fl:FL} {p:PV} {i n:Nat} {ga gb:FB} {g1 g2:FS}
@[simp] theorem r_line:sizeLine=16777216:=rfl
@[simp] theorem zH3 {α β:Type} {a:α} {e:Ev} {k:α->Ev->Out β}:(Out.ok a e).bind k=k a e:=rfl
@[simp] theorem r_k {d:D}:eK d Γ=.ok ⟨.leaf,d⟩ Γ:=rfl
@[simp] theorem r_nil:eNil Γ=.ok [] Γ:=rfl
@[simp] theorem r_true:bTrue Γ=.ok true Γ:=rfl
@[simp] theorem r_next:sNext Γ=.nx Γ:=rfl
@[simp] theorem r_cons:eCons fa fl Γ=(fa Γ).bind fun p Γ1=>(fl Γ1).bind fun ps Γ2=>.ok (p::ps) Γ2:=rfl
@[simp] theorem r_op {g:D->D->Option D}:eOp g fa fb Γ=(fa Γ).bind fun p Γ1=>(fb Γ1).bind fun q Γ2=>match g p.d q.d with | some d=>.ok ⟨.leaf,d⟩ Γ2 | none=>.no:=rfl
@[simp] theorem r_cb {g:List D->Option D}:eCB g fl Γ=(fl Γ).bind fun ps Γ'=>match g (ps.map (·.d)) with | some d=>.ok ⟨.leaf,d⟩ Γ' | none=>.no:=rfl
@[simp] theorem r_bOf {g:D->Option Bool}:bOf g fa Γ=(fa Γ).bind fun p Γ'=>match g p.d with | some b=>.ok b Γ' | none=>.no:=rfl
@[simp] theorem r_bNot:bNot ga Γ=(ga Γ).bind fun c Γ'=>.ok (!c) Γ':=rfl
@[simp] theorem r_bAnd:bAnd ga gb Γ=(ga Γ).bind fun c Γ'=>if c then gb Γ' else .ok false Γ':=rfl
@[simp] theorem r_bOr:bOr ga gb Γ=(ga Γ).bind fun c Γ'=>if c then .ok true Γ' else gb Γ':=rfl
@[simp] theorem r_eIf:eIf ga fa fb Γ=(ga Γ).bind fun b Γ'=>if b then fa Γ' else fb Γ':=rfl
@[simp] theorem r_eAnd:eAnd fa fb Γ=(fa Γ).bind fun p Γ=>match p.d with | .bool true=>fb Γ | .bool false=>.ok ⟨.leaf,.bool false⟩ Γ | _=>.no:=rfl
@[simp] theorem r_eNot:eNot fa Γ=(fa Γ).bind fun p Γ=>match p.d with | .bool b=>.ok ⟨.leaf,.bool (!b)⟩ Γ | _=>.no:=rfl
@[simp] theorem r_seq:sSeq g1 g2 Γ=match g1 Γ with | .nx Γ'=>g2 Γ' | .rt p=>.rt p | .bk Γ'=>.bk Γ' | .ct Γ'=>.ct Γ' | .er c Γ'=>.er c Γ' | .no=>.no:=by
 unfold sSeq
 cases g1 Γ<;>rfl
@[simp] theorem r_of {k:PV->Ev->OutS}:sOf fa k Γ=match fa Γ with | .ok p Γ1=>k p Γ1 | .er c Γ1=>.er c Γ1 | .no=>.no:=by
 unfold sOf
 cases fa Γ<;>rfl
@[simp] theorem r_if:sIf ga g1 g2 Γ=match ga Γ with | .ok b Γ1=>if b then g1 Γ1 else g2 Γ1 | .er c Γ1=>.er c Γ1 | .no=>.no:=by
 unfold sIf
 cases ga Γ<;>rfl
@[simp] theorem r_gBool {b:Bool}:gBool (.bool b)=some b:=rfl
@[simp] theorem r_gTru {b:Bool}:gTru (.bool b)=some b:=rfl
@[simp] theorem r_gTruL {xs:List D}:gTru (.list xs)=some (!xs.isEmpty):=rfl
def pvV (p:PV):PV:=match p.s with
 | .leaf=>p
 | _=>⟨.view,p.d⟩
@[simp] theorem r_pv1 {d:D}:pvV ⟨.leaf,d⟩=⟨.leaf,d⟩:=rfl
@[simp] theorem r_pv2 {s:Sh} {d:D}:pvV ⟨.lst s,d⟩=⟨.view,d⟩:=rfl
@[simp] theorem r_pv3 {s:List Sh} {d:D}:pvV ⟨.tup s,d⟩=⟨.view,d⟩:=rfl
@[simp] theorem r_var:eVar i Γ=match Γ[i]? with | some (some p)=>.ok (pvV p) Γ | _=>.no:=by
 unfold eVar
 cases h:Γ[i]? with
 | none=>rfl
 | some o=>
  cases o with
  | none=>rfl
  | some p=>
   obtain ⟨s,d⟩:=p
   cases s<;>rfl
@[simp] theorem r_move:eMove i Γ=match Γ[i]? with | some (some p)=>.ok p (Γ.set i none) | _=>.no:=rfl
@[simp] theorem r_coer {d:D}:coer .leaf ⟨.leaf,d⟩=true:=rfl
@[simp] theorem r_coerL {s:Sh} {d:D}:coer .leaf ⟨.lst s,d⟩=true:=rfl
@[simp] theorem r_coerT {s:List Sh} {d:D}:coer .leaf ⟨.tup s,d⟩=true:=rfl
@[simp] theorem r_coerI {i:Int} {s:Sh}:coer .leaf ⟨s,.int i⟩=true:=by cases s<;>rfl
@[simp] theorem r_coerB {b:Bool} {s:Sh}:coer .leaf ⟨s,.bool b⟩=true:=by cases s<;>rfl
@[simp] theorem r_isV1:Sh.isView .leaf=false:=rfl
@[simp] theorem r_isV2 {s:Sh}:Sh.isView (.lst s)=false:=rfl
@[simp] theorem r_isV3 {s:List Sh}:Sh.isView (.tup s)=false:=rfl
@[simp] theorem r_set {own:Bool}:sSet own i fa Γ=match fa Γ with | .ok p Γ1=>(if i<Γ1.length then (if own&&!p.s.isView then .nx (Γ1.set i (some p)) else if T.coer .leaf p then .nx (Γ1.set i (some ⟨.leaf,p.d⟩)) else .no) else .no) | .er c Γ1=>.er c Γ1 | .no=>.no:=by
 unfold sSet
 rw [r_of]
@[simp] theorem r_ret:sRet fa Γ=match fa Γ with | .ok p Γ1=>(if p.s.isView then (if scalD p.d then .rt ⟨.leaf,p.d⟩ else .no) else .rt p) | .er c Γ1=>.er c Γ1 | .no=>.no:=by
 unfold sRet
 rw [r_of]
@[simp] theorem r_drop:sDrop fa Γ=match fa Γ with | .ok p Γ1=>.nx Γ1 | .er c Γ1=>.er c Γ1 | .no=>.no:=by
 unfold sDrop
 rw [r_of]
@[simp] theorem r_call {den:List D->Res}:eCall n den fl Γ=(fl Γ).bind fun ps Γ'=>if ps.length=n then (match den (ps.map (·.d)) with | .ok p=>if ps.all (T.coer .leaf) then .ok p Γ' else if scalD p.d then .ok ⟨.leaf,p.d⟩ Γ' else .ok ⟨.view,p.d⟩ Γ' | _=>.no) else .no:=rfl
@[simp] theorem r_gAdd {a b:Int}:gAddI (.int a) (.int b)=some (.int (a+b)):=rfl
@[simp] theorem r_gSub {a b:Int}:gSub (.int a) (.int b)=some (.int (a-b)):=rfl
@[simp] theorem r_gLt {a b:Int}:gLt (.int a) (.int b)=some (.bool (decide (a<b))):=rfl
@[simp] theorem r_gGt {a b:Int}:gGt (.int a) (.int b)=some (.bool (decide (b<a))):=rfl
@[simp] theorem r_gLen {ds:List D}:gLen [.list ds]=some (.int ds.length):=rfl
@[simp] theorem r_gLenT {ds:List D}:gLen [.tuple ds]=some (.int ds.length):=rfl
def idxV (p q:PV):Ev->Out PV:=eIdx (fun Γ=>.ok p Γ) (fun Γ=>.ok q Γ)
@[simp] theorem r_idx:eIdx fa fb Γ=(fa Γ).bind fun p Γ1=>(fb Γ1).bind fun q Γ2=>idxV p q Γ2:=by
 unfold idxV eIdx eBind
 cases fa Γ with
 | ok p Γ1=>simp only [zH3]
 | er c Γ1=>rfl
 | no=>rfl
@[simp] theorem r_idT {ds:List D} {k:Int} {s:Sh}:idxV ⟨.leaf,.tuple ds⟩ ⟨s,.int k⟩ Γ=match atI ds k with | some d=>.ok ⟨.leaf,d⟩ Γ | none=>.no:=by
 unfold idxV eIdx eBind atI
 simp only [zH3]
 cases h:ixN ds.length k with
 | none=>rfl
 | some j=>
  simp only [Option.bind_some]
  cases h2:ds[j]? with
  | none=>rfl
  | some d=>rfl
@[simp] theorem r_idL {ds:List D} {k:Int} {s:Sh}:idxV ⟨.leaf,.list ds⟩ ⟨s,.int k⟩ Γ=match atI ds k with | some d=>.ok ⟨.leaf,d⟩ Γ | none=>.no:=by
 unfold idxV eIdx eBind atI
 simp only [zH3]
 cases h:ixN ds.length k with
 | none=>rfl
 | some j=>
  simp only [Option.bind_some]
  cases h2:ds[j]? with
  | none=>rfl
  | some d=>rfl
@[simp] theorem r_idV {ds:List D} {k:Int} {s:Sh}:idxV ⟨.view,.list ds⟩ ⟨s,.int k⟩ Γ=match atI ds k with | some d=>.ok ⟨if scalD d then .leaf else .view,d⟩ Γ | none=>.no:=by
 unfold idxV eIdx eBind atI
 simp only [zH3]
 cases h:ixN ds.length k with
 | none=>rfl
 | some j=>
  simp only [Option.bind_some]
  cases h2:ds[j]? with
  | none=>rfl
  | some d=>rfl
@[simp] theorem r_at0 {α:Type} {a:α} {r:List α}:atI (a::r) 0=some a:=by
 simp [atI,ixN]
@[simp] theorem r_at1 {α:Type} {a b:α} {r:List α}:atI (a::b::r) 1=some b:=by
 have:(1:Int)<(r.length:Int)+1+1:=by omega
 simp [atI,ixN,this]
@[simp] theorem r_at2 {α:Type} {a b c:α} {r:List α}:atI (a::b::c::r) 2=some c:=by
 have:(2:Int)<(r.length:Int)+1+1+1:=by omega
 simp [atI,ixN,this]
theorem zIS {α:Type} {xs:List α} {k:Nat} {x:α} (h:xs[k]?=some x):atI xs (k:Int)=some x:=by
 have hk:=(List.getElem?_eq_some_iff.mp h).1
 have:(k:Int)<(xs.length:Int):=by omega
 simp [atI,ixN,this,h]
end
section
variable {Γ:Ev} {fa fb:F1} {i:Nat}
@[simp] theorem r_isi {c:String}:eIsi c fa Γ=(fa Γ).bind fun p Γ=>.ok ⟨.leaf,.bool (isTy (tyD p.d) c)⟩ Γ:=rfl
@[simp] theorem r_list {s:Sh} {fl:FL}:eList s fl Γ=(fl Γ).bind fun ps Γ'=>if !s.isView&&ps.all (T.coer s)&&decide (ps.length<=sizeLine) then .ok ⟨.lst s,.list (ps.map (·.d))⟩ Γ' else .no:=rfl
@[simp] theorem r_tup {fl:FL}:eTup fl Γ=(fl Γ).bind fun ps Γ'=>if ps.all tok&&decide (ps.length<=sizeLine) then .ok ⟨.tup (ps.map tsh),.tuple (ps.map (·.d))⟩ Γ' else .no:=rfl
@[simp] theorem r_tokL {d:D}:tok ⟨.leaf,d⟩=true:=rfl
@[simp] theorem r_tokS {s:Sh} {d:D}:tok ⟨.lst s,d⟩=true:=rfl
@[simp] theorem r_tokT {s:List Sh} {d:D}:tok ⟨.tup s,d⟩=true:=rfl
@[simp] theorem r_isN {a:D}:gIsN false a .none=some (.bool (zD0 a)):=rfl
@[simp] theorem r_isnN {a:D}:gIsN true a .none=some (.bool (!zD0 a)):=rfl
@[simp] theorem r_slT:eSlT fa fb Γ=(fa Γ).bind fun p Γ1=>(fb Γ1).bind fun q Γ2=>match p.d,q.d with | .tuple xs,.int k=>if !p.s.isView&&decide (1<=k)&&decide (k<=xs.length) then .ok ⟨.leaf,.tuple (xs.drop k.toNat)⟩ Γ2 else .no | _,_=>.no:=rfl
@[simp] theorem r_inT {neg:Bool} {tab:List (Str×Int)}:eInT neg tab fa Γ=(fa Γ).bind fun p Γ=>match p.d with | .str k=>.ok ⟨.leaf,.bool (if neg then !(lookT k tab).isSome else (lookT k tab).isSome)⟩ Γ | _=>.no:=rfl
@[simp] theorem r_getT {tab:List (Str×Int)}:eGetT tab fa Γ=(fa Γ).bind fun p Γ=>match p.d with | .str k=>(match lookT k tab with | some i=>.ok ⟨.leaf,.int i⟩ Γ | none=>.no) | _=>.no:=rfl
@[simp] theorem r_iTup:iTupS fa Γ=(fa Γ).bind fun p Γ'=>match p.d with | .tuple ds=>if zAP p ds then .ok ⟨ds,!p.s.isView⟩ Γ' else .no | _=>.no:=rfl
@[simp] theorem r_iSeq:iSeq fa Γ=(fa Γ).bind fun p Γ'=>match p.d with | .list ds=>if zAP p ds then .ok ⟨ds,!p.s.isView⟩ Γ' else .no | _=>.no:=rfl
@[simp] theorem r_okI {d:D} {ds:List D}:zAP ⟨.leaf,d⟩ ds=true:=rfl
@[simp] theorem r_okL {s:Sh} {d:D} {ds:List D}:zAP ⟨.lst s,d⟩ ds=true:=rfl
@[simp] theorem r_okT {s:List Sh} {d:D} {ds:List D}:zAP ⟨.tup s,d⟩ ds=true:=rfl
@[simp] theorem r_aug {f:F1}:sAugI i f Γ=match Γ[i]? with | some (some ⟨.leaf,.int a⟩)=>sOf f (augK i a) Γ | _=>.no:=rfl
@[simp] theorem r_augK {a b:Int} {s:Sh}:augK i a ⟨s,.int b⟩ Γ=if i<Γ.length then .nx (Γ.set i (some ⟨.leaf,.int (a+b)⟩)) else .no:=rfl
theorem zHY {β:Type} {c:FB} {g:FS} {G:β->Ev} {test:β->Bool} {Inv:β->Prop} {meas:β->Nat} (hc:∀b,Inv b->c (G b)=.ok (test b) (G b)) (hg:∀b,Inv b->test b=true->∃b',g (G b)=.nx (G b')/\Inv b'/\meas b'<meas b) :
  ∀(N:Nat) (b:β),Inv b->meas b<N->∃b',zDN c g N (G b)=.nx (G b')/\Inv b'/\test b'=false
 | 0,b,_,h=>by omega
 | N+1,b,hi,hm=>by
  rw [zDN,hc b hi]
  cases ht:test b with
  | false=>exact ⟨b,rfl,hi,ht⟩
  | true=>
   obtain ⟨b1,h1,h2,h3⟩:=hg b hi ht
   obtain ⟨b',e,q⟩:=zHY hc hg N b1 h2 (by omega)
   refine ⟨b',?_,q⟩
   simp only [h1]
   exact e
theorem app_ty {fa:F1} {p:PV} {ds:List D} (ho:Γ[i]?=some (some ⟨.lst .leaf,.list ds⟩)) (h:fa Γ=.ok p Γ) (hc:coer .leaf p=true) (hn:ds.length<=9000):zAW i fa Γ=.nx (Γ.set i (some ⟨.lst .leaf,.list (ds++[p.d])⟩)):=by
 have hb:(10000:Nat)<=sizeLine:=by decide
 unfold zAW zIQ
 rw [ho]
 simp only [if_true,r_of,h]
 unfold appK
 rw [ho]
 have:ds.length<sizeLine:=by omega
 simp only [hc,decide_eq_true this,Bool.and_self,if_true]
end
theorem zIJ {α:Type} {en:α->D} {i:Nat} {fc:FB} {fe:F1} {s:Sh} {c:α->Bool} {f:α->PV} {Γ:Ev} (hΓ:Γ.set i none=Γ):∀(r:List α) (acc:List D),(∀x∈r,fc (Γ.set i (some ⟨.leaf,en x⟩))=.ok (c x) (Γ.set i (some ⟨.leaf,en x⟩))) ->
  (∀x∈r,c x=true->fe (Γ.set i (some ⟨.leaf,en x⟩))=.ok (f x) (Γ.set i (some ⟨.leaf,en x⟩))/\coer s (f x)=true)->acc.length+r.length<=sizeLine->zE0 i fc fe s (r.map en) Γ acc=.ok (acc++((r.filter c).map fun x=>(f x).d)) Γ
 | [],acc,_,_,_=>by simp [zE0]
 | x::r,acc,hc,he,hl=>by
  have h1:=hc x mem_cons_self
  have hl1:acc.length<sizeLine:=by simp only [length_cons] at hl;omega
  have back:(Γ.set i (some ⟨.leaf,en x⟩)).set i none=Γ:=by rw [set_set];exact hΓ
  rw [map_cons,zE0,h1]
  cases hcd:c x with
  | false=>
   dsimp only
   rw [if_pos hl1,back,zIJ hΓ r acc (fun d hd=>hc d (mem_cons_of_mem _ hd)) (fun d hd=>he d (mem_cons_of_mem _ hd)) (by simp only [length_cons] at hl;omega)]
   rw [List.filter_cons_of_neg (by rw [hcd];exact Bool.false_ne_true)]
  | true=>
   obtain ⟨h2,h3⟩:=he x mem_cons_self hcd
   dsimp only
   rw [h2]
   dsimp only
   rw [h3,decide_eq_true hl1,Bool.and_self,if_pos rfl,back,zIJ hΓ r (acc++[(f x).d]) (fun d hd=>hc d (mem_cons_of_mem _ hd)) (fun d hd=>he d (mem_cons_of_mem _ hd)) (by simp only [length_cons,length_append,List.length_nil] at hl ⊢;omega)]
   rw [List.filter_cons_of_pos hcd,map_cons,append_assoc]
   rfl
theorem zDA {α:Type} (en:α->D) (xs:List α) (c:α->Bool) (f:α->PV) {s:Sh} {i:Nat} {fi:FI} {fc:FB} {fe:F1} {st:Bool} {Γ:Ev} (hi:fi Γ=.ok ⟨xs.map en,st⟩ Γ) (hl:i<Γ.length) (hs:s.isView=false) (hn:xs.length<=10000)
  (hc:∀x∈xs,fc (Γ.set i (some ⟨.leaf,en x⟩))=.ok (c x) (Γ.set i (some ⟨.leaf,en x⟩))) (he:∀x∈xs,c x=true->fe (Γ.set i (some ⟨.leaf,en x⟩))=.ok (f x) (Γ.set i (some ⟨.leaf,en x⟩))/\coer s (f x)=true) :
  eComp s i fi fc fe Γ=.ok ⟨.lst s,.list ((xs.filter c).map fun x=>(f x).d)⟩ Γ:=by
 have hb:(10000:Nat)<=sizeLine:=by decide
 unfold eComp
 rw [hi]
 unfold Out.bind
 dsimp only
 rw [zIJ (c:=c) (f:=f) (by rw [set_set]) xs [] (fun d hd=>by rw [set_set];exact hc d hd) (fun d hd=>by rw [set_set];exact he d hd) (by simp;omega)]
 dsimp only
 rw [hs,decide_eq_true hl]
 simp only [Bool.not_false,Bool.and_self,if_true,nil_append,set_set]
 have:Γ.set i (Γ.getD i none)=Γ:=by
  apply zC8
  rw [getD_eq_getElem?_getD,getElem?_eq_getElem hl]
  rfl
 rw [this]
theorem zD1 {α:Type} (en:α->D) (xs:List α) (f:α->PV) {s:Sh} {i:Nat} {fi:FI} {fe:F1} {st:Bool} {Γ:Ev} (hi:fi Γ=.ok ⟨xs.map en,st⟩ Γ) (hl:i<Γ.length) (hs:s.isView=false) (hn:xs.length<=10000)
  (he:∀x∈xs,fe (Γ.set i (some ⟨.leaf,en x⟩))=.ok (f x) (Γ.set i (some ⟨.leaf,en x⟩))/\coer s (f x)=true):eComp s i fi bTrue fe Γ=.ok ⟨.lst s,.list (xs.map fun x=>(f x).d)⟩ Γ:=by
 rw [zDA (fc:=bTrue) en xs (fun _=>true) f hi hl hs hn (fun _ _=>rfl) fun x hx _=>he x hx,List.filter_eq_self.mpr fun _ _=>rfl]
theorem zI5 {α β:Type} (en:α->D) (step:β->α->β) {Inv:β->List α->Prop} {i:Nat} {body:FS} {G:β->Option PV->Ev} (hi:∀b x,i<(G b x).length) (hset:∀b x y,(G b x).set i y=G b y)
  (hb:∀b a r,Inv b (a::r)->body (G b (some ⟨.leaf,en a⟩))=.nx (G (step b a) (some ⟨.leaf,en a⟩))/\Inv (step b a) r):∀(xs:List α) (b:β) (x:Option PV),Inv b xs->∃y,forGo i body (xs.map en) (G b x)=.nx (G (xs.foldl step b) y)/\Inv (xs.foldl step b) []
 | [],b,x,h=>⟨x,rfl,h⟩
 | a::r,b,x,h=>by
  obtain ⟨h1,h2⟩:=hb b a r h
  obtain ⟨y,e,h3⟩:=zI5 en step hi hset hb r (step b a) (some ⟨.leaf,en a⟩) h2
  refine ⟨y,?_,h3⟩
  rw [map_cons,forGo,if_pos (hi b x),hset,h1]
  exact e
end T
namespace KC
open PySem PySem.Spec L2 T PySem.SeqAt
open PyProof.Rows hiding St
abbrev rm (t:Nat):D:=.int (t:Int)
abbrev rms (r:List Nat):D:=.list (r.map rm)
theorem zJR {n:Nat}:rngD 0 n=(List.range n).map rm:=by
 unfold rngD
 simp
theorem zKF {t:Nat} {r:List Nat}:gIn false (rm t) (rms r)=some (.bool (r.contains t)):=by
 have h:=in_row (ts:=r.map fun t:Nat=>(t:Int)) (i:=t)
 rw [map_map] at h
 refine h.trans ?_
 congr 2
 rw [Bool.eq_iff_iff,contains_iff_mem,contains_iff_mem,mem_map]
 exact ⟨fun ⟨a,h1,h2⟩=>by rw [<-Int.ofNat_inj.mp h2];exact h1,fun h=>⟨t,h,rfl⟩⟩
theorem zG4 {t:Nat} {r:List Nat}:gIn true (rm t) (rms r)=some (.bool (!r.contains t)):=by
 have h:=notin_row (ts:=r.map fun t:Nat=>(t:Int)) (i:=t)
 rw [map_map] at h
 refine h.trans ?_
 congr 3
 rw [Bool.eq_iff_iff,contains_iff_mem,contains_iff_mem,mem_map]
 exact ⟨fun ⟨a,h1,h2⟩=>by rw [<-Int.ofNat_inj.mp h2];exact h1,fun h=>⟨t,h,rfl⟩⟩
structure Wd where
 n:Nat
 os:List D
 m:List (List Str)
 s:List (List Nat)
def txs (r:List Str):D:=.list (r.map .str)
def Wd.enc (w:Wd):D:=tup3 w.os (w.m.map txs) (w.s.map rms)
structure Wd.Ok (w:Wd):Prop where
 g:Gw (w.n:Int) w.n w.os (w.m.map txs) (w.s.map rms)
 h1:1<=w.n
 h24:w.n<=24
 lm:w.m.length=w.n
 ls:w.s.length=w.n
 st:∀r∈w.s,r≠[]/\r.length<=30/\∀t∈r,t<w.n
 mc:∀r∈w.m,∀c∈r,PyData.strOk c=true
def Wd.stp (w:Wd) (r:Nat):List Nat:=w.s.getD r []
def Wd.mks (w:Wd) (r:Nat):List Str:=w.m.getD r []
theorem Wd.Ok.at2 {w:Wd} (h:w.Ok) {r:Nat} (hr:r<w.n):atI (w.s.map rms) (r:Int)=some (rms (w.stp r)):=by
 refine zIS ?_
 unfold Wd.stp
 rw [getElem?_map,getD_eq_getElem?_getD,getElem?_eq_getElem (by rw [h.ls];exact hr)]
 rfl
theorem Wd.Ok.stp_lt {w:Wd} (h:w.Ok) {r t:Nat} (ht:t∈w.stp r):t<w.n:=by
 unfold Wd.stp at ht
 rw [getD_eq_getElem?_getD] at ht
 cases e:w.s[r]? with
 | none=>rw [e] at ht;simp at ht
 | some x=>rw [e] at ht;exact (h.st x (mem_of_getElem? e)).2.2 t ht
theorem Wd.Ok.stp_ne {w:Wd} (h:w.Ok) {r:Nat} (hr:r<w.n):w.stp r≠[]:=by
 unfold Wd.stp
 rw [getD_eq_getElem?_getD,getElem?_eq_getElem (by rw [h.ls];exact hr)]
 exact (h.st _ (getElem_mem _)).1
theorem den_other_rooms {w:Wd} (h:w.Ok) {r:List Nat}:zCC [w.enc,rms r]=.ok ⟨.lst .leaf,rms ((List.range w.n).filter fun t=>!r.contains t)⟩:=by
 have lo:=h.g.lo
 have h24:=h.h24
 refine rt_of ?_
 have e:eComp .leaf 2 (iR1 (eCons (eCB gLen (eCons (eIdx (eVar 0) (eK (.int 0))) eNil)) eNil)) (bOf gBool (eOp (gIn true) (eVar 2) (eVar 1))) (eVar 2) (zAL 3 [w.enc,rms r])=.ok ⟨.lst .leaf,.list (((List.range w.n).filter fun t=>!r.contains t).map fun t=>rm t)⟩ (zAL 3 [w.enc,rms r]):=by
  refine zDA rm (List.range w.n) (fun t=>!r.contains t) (fun t=>⟨.leaf,rm t⟩) (st:=true) ?_ (by simp [zAL]) rfl (by simp;omega) ?_ ?_
  ·refine (w_r1 (k:=(w.n:Int)) (ps:=[⟨.leaf,.int w.n⟩]) ?_ rfl (by omega) (by omega)).trans (by rw [<-zJR];rfl)
   simp [zAL,Wd.enc,lo]
  ·intro t ht
   simp [zAL,zG4]
  ·intro t ht _
   simp [zAL]
 unfold zE5
 rw [r_ret,e]
 rfl
inductive Wr where
 | yes | mark | not | sn | an | sa | aa | and | or | su | au
 deriving DecidableEq
def Wr.t:Wr->Str
 | .yes => "yes" | .mark => "mark" | .not => "not" | .sn => "some next" | .an => "all next" | .sa => "some always" | .aa => "all always" | .and => "and" | .or => "or" | .su => "some until" | .au => "all until"
theorem eq_tt (a b:Wr):gEq (.str a.t) (.str b.t)=some (.bool (decide (a=b))):=by cases a<;>cases b<;>kernel_rfl
@[simp] theorem eq_yes (a:Wr):gEq (.str a.t) (.str "yes")=some (.bool (decide (a=.yes))):=eq_tt a .yes
@[simp] theorem eq_mark (a:Wr):gEq (.str a.t) (.str "mark")=some (.bool (decide (a=.mark))):=eq_tt a .mark
@[simp] theorem eq_not (a:Wr):gEq (.str a.t) (.str "not")=some (.bool (decide (a=.not))):=eq_tt a .not
@[simp] theorem eq_and (a:Wr):gEq (.str a.t) (.str "and")=some (.bool (decide (a=.and))):=eq_tt a .and
@[simp] theorem eq_or (a:Wr):gEq (.str a.t) (.str "or")=some (.bool (decide (a=.or))):=eq_tt a .or
@[simp] theorem in_unt (a:Wr):gIn false (.str a.t) k_UNTILS=some (.bool (decide (a=.su\/a=.au))):=by cases a<;>kernel_rfl
@[simp] theorem nin_unt (a:Wr):gIn true (.str a.t) k_UNTILS=some (.bool (!decide (a=.su\/a=.au))):=by cases a<;>kernel_rfl
@[simp] theorem in_alw (a:Wr):gIn false (.str a.t) k_ALWAYS=some (.bool (decide (a=.sa\/a=.aa))):=by cases a<;>kernel_rfl
@[simp] theorem nin_alw (a:Wr):gIn true (.str a.t) k_ALWAYS=some (.bool (!decide (a=.sa\/a=.aa))):=by cases a<;>kernel_rfl
def Wr.some (a:Wr):Bool:=decide (a=.sn\/a=.su\/a=.aa)
@[simp] theorem in_bys (a:Wr):gIn false (.str a.t) k_BY_SOME_STEP=.some (.bool a.some):=by cases a<;>kernel_rfl
def Wr.ar:Wr->Option Int
 | .yes=>Option.some 0 | .mark=>none | .and=>Option.some 2 | .or=>Option.some 2 | .su=>Option.some 2 | .au=>Option.some 2 | _=>Option.some 1
@[simp] theorem look_ar (a:Wr):lookT a.t t_PARTS=a.ar:=by cases a<;>kernel_rfl
inductive U5 where
 | not | sn | an | sa | aa
 deriving DecidableEq
inductive B4 where
 | and | or | su | au
 deriving DecidableEq
def U5.w:U5->Wr
 | .not=>.not | .sn=>.sn | .an=>.an | .sa=>.sa | .aa=>.aa
def B4.w:B4->Wr
 | .and=>.and | .or=>.or | .su=>.su | .au=>.au
inductive Sn where
 | yes | mk (c:Str) | un (k:U5) (a:Sn) | bi (k:B4) (a b:Sn)
 deriving DecidableEq
def Sn.w:Sn->Wr
 | .yes=>.yes | .mk _=>.mark | .un k _=>k.w | .bi k _ _=>k.w
def Sn.args:Sn->List Sn
 | .yes=>[] | .mk _=>[] | .un _ a=>[a] | .bi _ a b=>[a,b]
def Sn.enc:Sn->D
 | .yes=>.tuple [.str Wr.yes.t] | .mk c=>.tuple [.str Wr.mark.t,.str c] | .un k a=>.tuple [.str k.w.t,a.enc] | .bi k a b=>.tuple [.str k.w.t,a.enc,b.enc]
def Sn.size:Sn->Nat
 | .yes=>1 | .mk _=>1 | .un _ a=>a.size+1 | .bi _ a b=>a.size+b.size+1
def Sn.dep:Sn->Nat
 | .yes=>1 | .mk _=>1 | .un _ a=>a.dep+1 | .bi _ a b=>max a.dep b.dep+1
def letters:List Str:=["a", "b", "c", "d", "e", "f"]
def Sn.ok:Sn->Prop
 | .yes=>True | .mk c=>c∈letters | .un _ a=>a.ok | .bi _ a b=>a.ok/\b.ok
def Sn.psh:Sn->Sh
 | .mk _=>.tup [] | _=>.leaf
@[simp] theorem psh_v (s:Sn):s.psh.isView=false:=by cases s<;>rfl
def szs (l:List Sn):Nat:=(l.map Sn.size).sum
def deps (l:List Sn):Nat:=l.foldr (fun s m=>max s.dep m) 0
structure LS where
 ls:List (List Sn)
 l:List Sn
 many:Nat
structure LI (s:Sn) (b:LS):Prop where
 tot:(b.ls.map List.length).sum+szs b.l=s.size
 mny:b.many=(b.ls.map List.length).sum
 dep:b.ls.length+deps b.l=s.dep
 ok:∀a∈b.l,a.ok
end KC
namespace KC
def rkA (rk:List (Option Nat)) (t:Nat):Option Nat:=rk.getD t none
def led (any:Bool) (l:List Nat) (P:Nat->Prop):Prop:=if any then ∃t∈l,P t else ∀t∈l,P t
theorem led_t {l:List Nat} {P:Nat->Prop}:led true l P↔∃t∈l,P t:=by unfold led;simp
theorem led_f {l:List Nat} {P:Nat->Prop}:led false l P↔∀t∈l,P t:=by unfold led;simp
theorem zED {any:Bool} {l:List Nat} {P Q:Nat->Prop} (h:led any l P) (i:∀t∈l,P t->Q t):led any l Q:=by
 cases any with
 | true=>obtain ⟨t,ht,hp⟩:=led_t.mp h;exact led_t.mpr ⟨t,ht,i t ht hp⟩
 | false=>exact led_f.mpr fun t ht=>i t ht (led_f.mp h t ht)
structure RightG (n:Nat) (st:Nat->List Nat) (ch:Nat->Bool) (thr goal:List Nat) (rk:List (Option Nat)):Prop where
 len:rk.length=n
 g:∀r,r<n->r∈goal->rkA rk r=some 0
 p:∀r k,r<n->r∉goal->rkA rk r=some k->0<k/\r∈thr/\led (ch r) (st r) fun t=>∃j,rkA rk t=some j/\j<k
 z:∀r,r<n->rkA rk r=none->r∉goal/\(r∉thr\/¬led (ch r) (st r) fun t=>rkA rk t≠none)
section
variable {n:Nat} {st:Nat->List Nat} {ch own:Nat->Bool} {thr goal:List Nat} {rk:List (Option Nat)}
theorem RightG.min (h:RightG n st ch thr goal rk) {S:Nat->Prop} (cl:∀r t,t∈st r->t<n) (hg:∀r,r<n->r∈goal->S r) (hs:∀r,r<n->r∈thr->led (ch r) (st r) S->S r) {r:Nat} (hr:r<n) (hk:rkA rk r≠none):S r:=by
 have key:∀k r,r<n->rkA rk r=some k->S r:=by
  intro k
  induction k using Nat.strongRecOn with
  | ind k ih=>
   intro r hr hk
   by_cases hgo:r∈goal
   ·exact hg r hr hgo
   ·obtain ⟨_,h2,h3⟩:=h.p r k hr hgo hk
    exact hs r hr h2 (zED h3 fun t ht ⟨j,hj,hlt⟩=>ih j hlt t (cl r t ht) hj)
 obtain ⟨k,hk⟩:=Option.ne_none_iff_exists'.mp hk
 exact key k r hr hk
theorem RightG.step_ok (h:RightG n st ch thr goal rk) {r:Nat} (hr:r<n) (ht:r∈thr) (hl:led (ch r) (st r) fun t=>rkA rk t≠none):rkA rk r≠none:=fun z=>by
 rcases (h.z r hr z).2 with q | q
 ·exact q ht
 ·exact q hl
theorem RightG.no (h:RightG n st ch thr goal rk) {r:Nat} (hr:r<n) (ht:r∈thr) (hz:rkA rk r=none):led (!ch r) (st r) fun t=>rkA rk t=none:=by
 rcases (h.z r hr hz).2 with q | q
 ·exact absurd ht q
 ·cases hc:ch r with
  | true=>
   rw [hc,led_t] at q
   refine led_f.mpr fun t ht=>?_
   cases e:rkA rk t with
   | none=>rfl
   | some k=>exact absurd ⟨t,ht,by rw [e];simp⟩ q
  | false=>
   rw [hc,led_f] at q
   refine led_t.mpr ?_
   exact Classical.byContradiction fun c=>q fun t ht e=>c ⟨t,ht,e⟩
end
def inn (st:Nat->List Nat) (L:List Nat) (r:Nat):List Nat:=(st r).filter fun t=>L.contains t
structure Suff (n:Nat) (st:Nat->List Nat) (own:Nat->Bool) (T X:Nat->Prop):Prop where
 lt:∀r,X r->r<n
 c:∀r,X r->led (own r) (st r) X
 a:∀S:Nat->Prop,(∀r,X r->T r->S r)->(∀r,X r->led (own r) (st r) (fun t=>X t/\S t)->S r)->∀r,X r->S r
section
variable {n:Nat} {st:Nat->List Nat} {own:Nat->Bool} {T T' X:Nat->Prop} {L G lost:List Nat} {rk rk2:List (Option Nat)}
end
structure Fr {α:Type} (n:Nat) (st:Nat->List Nat) (R:Nat->Prop) (M:List α) (mk:α->Nat->Prop) (X:Nat->Prop):Prop where
 lt:∀r,X r->r<n
 sub:∀r,X r->R r
 c:∀r,X r->∃t∈st r,X t
 a:∀m∈M,∀S:Nat->Prop,(∀r,X r->mk m r->S r)->(∀r,X r->(∃t∈st r,X t/\S t)->S r)->∀r,X r->S r
def Std (n:Nat) (L:List Nat):Prop:=∃q:Nat->Bool,L=(List.range n).filter q
theorem Std.lt {n:Nat} {L:List Nat} (h:Std n L):∀r∈L,r<n:=by
 obtain ⟨q,rfl⟩:=h
 intro r hr
 exact List.mem_range.mp (List.mem_filter.mp hr).1
theorem Std.len {n:Nat} {L:List Nat} (h:Std n L):L.length<=n:=by
 obtain ⟨q,rfl⟩:=h
 exact Nat.le_trans (length_filter_le _ _) (by simp)
theorem Std.of {n:Nat} (q:Nat->Bool):Std n ((List.range n).filter q):=⟨q,rfl⟩
theorem Std.ext {n:Nat} {L M:List Nat} (h:Std n L) (h':Std n M) (e:∀r,r<n->(r∈L↔r∈M)):L=M:=by
 obtain ⟨q,rfl⟩:=h
 obtain ⟨p,rfl⟩:=h'
 refine List.filter_congr fun r hr=>?_
 have:=e r (List.mem_range.mp hr)
 simp only [List.mem_filter,hr,true_and] at this
 exact Bool.eq_iff_iff.mpr this
open PySem PySem.Spec L2 T PySem.SeqAt
open PyProof.Rows hiding St
def oD:Option Nat->D
 | none=>.none
 | some k=>.int (k:Int)
@[simp] theorem oD_none (o:Option Nat):zD0 (oD o)=o.isNone:=by cases o<;>rfl
@[simp] theorem oD_scal (o:Option Nat):scalD (oD o)=true:=by cases o<;>rfl
abbrev rks (rk:List (Option Nat)):D:=.list (rk.map oD)
theorem at_rk {rk:List (Option Nat)} {t:Nat} (h:t<rk.length):atI (rk.map oD) (t:Int)=some (oD (rkA rk t)):=by
 refine zIS ?_
 unfold rkA
 rw [getElem?_map,getD_eq_getElem?_getD,getElem?_eq_getElem h]
 rfl
def ledB (any:Bool) (bs:List Bool):Bool:=if any then bs.any id else bs.all id
theorem gAny_eq {bs:List Bool}:gAll true [.list (bs.map .bool)]=some (.bool (bs.any id)):=by
 have h:=zI4 (any:=true) (xs:=bs) (f:=id)
 show Option.map _ (zD5 _)=_
 rw [show (bs.map PyData.bool)=bs.map fun x=>PyData.bool (id x) from rfl,h]
 simp
theorem gAll_eq' {bs:List Bool}:gAll false [.list (bs.map .bool)]=some (.bool (bs.all id)):=by
 have h:=zI4 (any:=true) (xs:=bs) (f:=id)
 show Option.map _ (zD5 _)=_
 rw [show (bs.map PyData.bool)=bs.map fun x=>PyData.bool (id x) from rfl,h]
 simp
theorem den_led {c:Bool} {bs:List Bool}:zEC [.bool c,.list (bs.map .bool)]=.ok ⟨.leaf,.bool (ledB c bs)⟩:=by
 unfold ledB
 cases c<;>simp [zEC,denOf,zI9,zAL,gAny_eq,gAll_eq']
structure Wd.Ok0 (w:Wd):Prop where
 lo:w.os.length=w.n
 h24:w.n<=24
 ls:w.s.length=w.n
 st:∀r∈w.s,r.length<=30/\∀t∈r,t<w.n
theorem Wd.Ok.z {w:Wd} (h:w.Ok):w.Ok0:=⟨h.g.lo,h.h24,h.ls,fun r hr=>(h.st r hr).2⟩
theorem Wd.Ok0.at2 {w:Wd} (h:w.Ok0) {r:Nat} (hr:r<w.n):atI (w.s.map rms) (r:Int)=some (rms (w.stp r)):=by
 refine zIS ?_
 unfold Wd.stp
 rw [getElem?_map,getD_eq_getElem?_getD,getElem?_eq_getElem (by rw [h.ls];exact hr)]
 rfl
theorem Wd.Ok0.stp_lt {w:Wd} (h:w.Ok0) {r t:Nat} (ht:t∈w.stp r):t<w.n:=by
 unfold Wd.stp at ht
 rw [getD_eq_getElem?_getD] at ht
 cases e:w.s[r]? with
 | none=>rw [e] at ht;simp at ht
 | some x=>rw [e] at ht;exact (h.st x (mem_of_getElem? e)).2 t ht
theorem Wd.Ok0.len {w:Wd} (h:w.Ok0) {r:Nat}:(w.stp r).length<=10000:=by
 unfold Wd.stp
 rw [getD_eq_getElem?_getD]
 cases e:w.s[r]? with
 | none=>simp
 | some x=>
  have:=(h.st x (mem_of_getElem? e)).1
  simp only [Option.getD_some]
  omega
abbrev chs (cl:List Bool):D:=.list (cl.map .bool)
def chA (cl:List Bool) (r:Nat):Bool:=cl.getD r false
theorem at_ch {cl:List Bool} {t:Nat} (h:t<cl.length):atI (cl.map PyData.bool) (t:Int)=some (.bool (chA cl t)):=by
 refine zIS ?_
 unfold chA
 rw [getElem?_map,getD_eq_getElem?_getD,getElem?_eq_getElem h]
 rfl
def nxt (w:Wd) (ch:Nat->Bool) (thr:List Nat) (rk:List (Option Nat)):List Nat:=thr.filter fun r=>(rkA rk r).isNone&&ledB (ch r) ((w.stp r).map fun t=>(rkA rk t).isSome)
theorem den_next {w:Wd} (h:w.Ok0) {cl:List Bool} {thr:List Nat} {rk:List (Option Nat)} (hcl:cl.length=w.n) (ht:∀r∈thr,r<w.n) (hl:rk.length=w.n) (hn:thr.length<=1000):zBJ [w.enc,chs cl,rms thr,rks rk]=.ok ⟨.lst .leaf,rms (nxt w (chA cl) thr rk)⟩:=by
 obtain ⟨y,e,_⟩:=zI5 rm (fun (b:List Nat) r=>if (rkA rk r).isNone&&ledB (chA cl r) ((w.stp r).map fun t=>(rkA rk t).isSome) then b++[r] else b) (Inv:=fun b r=>b.length+r.length<=1000/\∀t∈r,t<w.n) (i:=5)
  (body:=(sIf (bAnd (bOf gBool (eOp (gIsN false) (eIdx (eVar 3) (eVar 5)) (eK .none))) (bOf gTru (eCall 2 zEC (eCons (eIdx (eVar 1) (eVar 5)) (eCons (eComp .leaf 6 (iSeq (eIdx (eIdx (eVar 0) (eK (.int 2))) (eVar 5))) bTrue (eOp (gIsN true) (eIdx (eVar 3) (eVar 6)) (eK .none))) eNil))))) (zAW 4 (eVar 5)) sNext))
  (G:=fun b x=>[some ⟨.leaf,w.enc⟩,some ⟨.leaf,chs cl⟩,some ⟨.leaf,rms thr⟩,some ⟨.leaf,rks rk⟩,some ⟨.lst .leaf,rms b⟩,x,none])
  (fun _ _=>by simp) (fun _ _ _=>by simp) (fun b r rest hI=>by
   obtain ⟨h1,h2⟩:=hI
   have hr:r<w.n:=h2 r mem_cons_self
   have a1:=at_rk (rk:=rk) (t:=r) (by omega)
   have a2:=h.at2 hr
   have a4:=at_ch (cl:=cl) (t:=r) (by omega)
   simp only [length_cons] at h1
   have c1:eComp .leaf 6 (iSeq (eIdx (eIdx (eVar 0) (eK (.int 2))) (eVar 5))) bTrue (eOp (gIsN true) (eIdx (eVar 3) (eVar 6)) (eK .none)) [some ⟨.leaf,w.enc⟩,some ⟨.leaf,chs cl⟩,some ⟨.leaf,rms thr⟩,some ⟨.leaf,rks rk⟩,some ⟨.lst .leaf,rms b⟩,some ⟨.leaf,rm r⟩,none]
     = .ok ⟨.lst .leaf,.list ((w.stp r).map fun t=>.bool (rkA rk t).isSome)⟩ [some ⟨.leaf,w.enc⟩,some ⟨.leaf,chs cl⟩,some ⟨.leaf,rms thr⟩,some ⟨.leaf,rks rk⟩,some ⟨.lst .leaf,rms b⟩,some ⟨.leaf,rm r⟩,none]:=by
    refine zD1 rm (w.stp r) (fun t=>⟨.leaf,.bool (rkA rk t).isSome⟩) (st:=true) (by simp [Wd.enc,a2]) (by simp) rfl h.len fun t ht=>?_
    have a3:=at_rk (rk:=rk) (t:=t) (by rw [hl];exact h.stp_lt ht)
    simp [a3]
   have dl:=den_led (c:=chA cl r) (bs:=(w.stp r).map fun t=>(rkA rk t).isSome)
   rw [map_map] at dl
   have dl:zEC [.bool (chA cl r),.list ((w.stp r).map fun t=>.bool (rkA rk t).isSome)]=.ok ⟨.leaf,.bool (ledB (chA cl r) ((w.stp r).map fun t=>(rkA rk t).isSome))⟩:=dl
   have ap:zAW 4 (eVar 5) [some ⟨.leaf,w.enc⟩,some ⟨.leaf,chs cl⟩,some ⟨.leaf,rms thr⟩,some ⟨.leaf,rks rk⟩,some ⟨.lst .leaf,rms b⟩,some ⟨.leaf,rm r⟩,none]=.nx [some ⟨.leaf,w.enc⟩,some ⟨.leaf,chs cl⟩,some ⟨.leaf,rms thr⟩,some ⟨.leaf,rks rk⟩,some ⟨.lst .leaf,.list (b.map rm++[rm r])⟩,some ⟨.leaf,rm r⟩,none]:=
    app_ty rfl (zAC rfl) rfl (by simp;omega)
   refine ⟨?_,?_⟩
   ·cases q1:(rkA rk r).isNone with
    | false=>simp [a1,q1]
    | true=>
     cases q2:ledB (chA cl r) ((w.stp r).map fun t=>(rkA rk t).isSome) with
     | false=>simp [a1,a4,q1,c1,dl,q2]
     | true=>simp [a1,a4,q1,c1,dl,q2,ap]
   ·refine ⟨?_,fun t ht=>h2 t (mem_cons_of_mem _ ht)⟩
    split
    ·rw [length_append,length_singleton];omega
    ·omega) thr [] none (by simp;exact ⟨hn,ht⟩)
 have ef:∀(l b:List Nat),l.foldl (fun (b:List Nat) r=>if (rkA rk r).isNone&&ledB (chA cl r) ((w.stp r).map fun t=>(rkA rk t).isSome) then b++[r] else b) b=b++nxt w (chA cl) l rk:=by
  intro l
  induction l with
  | nil=>intro b;simp [nxt]
  | cons r t ih=>
   intro b
   rw [List.foldl_cons,ih]
   unfold nxt
   rw [filter_cons]
   split<;>simp
 rw [ef,nil_append] at e
 refine rt_of ?_
 have e2:=x_for (fi:=iSeq (eVar 2)) (Γ:=[some ⟨.leaf,w.enc⟩,some ⟨.leaf,chs cl⟩,some ⟨.leaf,rms thr⟩,some ⟨.leaf,rks rk⟩,some ⟨.lst .leaf,rms []⟩,none,none]) (w_seq (ds:=thr.map rm) (zAC rfl) rfl) e
 have e1:sSet true 4 (eList .leaf eNil) (zAL 7 [w.enc,chs cl,rms thr,rks rk])=.nx [some ⟨.leaf,w.enc⟩,some ⟨.leaf,chs cl⟩,some ⟨.leaf,rms thr⟩,some ⟨.leaf,rks rk⟩,some ⟨.lst .leaf,rms []⟩,none,none]:=by simp [zAL]
 unfold zE4
 rw [r_seq,e1]
 simp only
 rw [r_seq,e2]
 simp
theorem led_iff {any:Bool} {l:List Nat} {b:Nat->Bool}:ledB any (l.map b)=true↔led any l fun t=>b t=true:=by
 unfold ledB led
 cases any<;>simp
structure Right (w:Wd) (any:Bool) (thr goal:List Nat) (rk:List (Option Nat)):Prop where
 len:rk.length=w.n
 g:∀r,r<w.n->r∈goal->rkA rk r=some 0
 p:∀r k,r<w.n->r∉goal->rkA rk r=some k->0<k/\r∈thr/\led any (w.stp r) fun t=>∃j,rkA rk t=some j/\j<k
 z:∀r,r<w.n->rkA rk r=none->r∉goal/\(r∉thr\/¬led any (w.stp r) fun t=>rkA rk t≠none)
inductive Unt (w:Wd) (any:Bool) (P Q:Nat->Prop):Nat->Prop where
 | now {r:Nat}:Q r->Unt w any P Q r
 | some {r t:Nat}:any=true->P r->t∈w.stp r->Unt w any P Q t->Unt w any P Q r
 | all {r:Nat}:any=false->P r->(∀t∈w.stp r,Unt w any P Q t)->Unt w any P Q r
def putR (rk:List (Option Nat)) (k:Nat) (fr:List Nat):List (Option Nat):=fr.foldl (fun l r=>l.set r (some k)) rk
theorem zI0 {k:Nat}:∀(fr:List Nat) (rk:List (Option Nat)),(putR rk k fr).length=rk.length
 | [],_=>rfl
 | a::r,rk=>by
  show (putR (rk.set a (some k)) k r).length=_
  rw [zI0,length_set]
theorem rkA_set {rk:List (Option Nat)} {a t:Nat} {o:Option Nat} (h:a<rk.length):rkA (rk.set a o) t=if t=a then o else rkA rk t:=by
 unfold rkA
 rw [getD_eq_getElem?_getD,getD_eq_getElem?_getD]
 split
 ·rename_i e;subst e;rw [getElem?_set_self h];rfl
 ·rename_i e;rw [getElem?_set_ne (fun z=>e z.symm)]
theorem rkA_put {k t:Nat}:∀(fr:List Nat) (rk:List (Option Nat)),(∀a∈fr,a<rk.length)->rkA (putR rk k fr) t=if t∈fr then some k else rkA rk t
 | [],rk,_=>by simp [putR]
 | a::r,rk,h=>by
  show rkA (putR (rk.set a (some k)) k r) t=_
  rw [rkA_put r _ (fun b hb=>by rw [length_set];exact h b (mem_cons_of_mem _ hb)),rkA_set (h a mem_cons_self)]
  by_cases e1:t∈r
  ·simp [e1]
  ·by_cases e2:t=a
   ·simp [e2]
   ·simp [e1,e2]
def nones (rk:List (Option Nat)):Nat:=(rk.filter Option.isNone).length
theorem nones_set {rk:List (Option Nat)} {a k:Nat} (h:rk[a]?=some none):nones (rk.set a (some k))+1=nones rk:=by
 induction rk generalizing a with
 | nil=>simp at h
 | cons x r ih=>
  cases a with
  | zero=>
   simp at h
   subst h
   simp [nones]
  | succ a=>
   have:=ih (a:=a) (by simpa using h)
   simp only [nones,List.set_cons_succ,filter_cons] at this ⊢
   cases x with
   | none=>simp only [Option.isNone_none,if_true,length_cons];omega
   | some v=>simpa using this
theorem nones_le {rk:List (Option Nat)} {a k:Nat}:nones (rk.set a (some k))<=nones rk:=by
 induction rk generalizing a with
 | nil=>simp [nones]
 | cons x r ih=>
  cases a with
  | zero=>cases x<;>simp [nones]
  | succ a=>
   have:=ih (a:=a)
   simp only [nones,List.set_cons_succ,filter_cons] at this ⊢
   cases x with
   | none=>simp only [Option.isNone_none,if_true,length_cons];omega
   | some v=>simpa using this
theorem nones_put_le {k:Nat}:∀(fr:List Nat) (rk:List (Option Nat)),nones (putR rk k fr)<=nones rk
 | [],_=>Nat.le_refl _
 | a::r,rk=>Nat.le_trans (nones_put_le r (rk.set a (some k))) nones_le
theorem nones_put {k:Nat} {fr:List Nat} {rk:List (Option Nat)} (hne:fr≠[]) (h:∀a∈fr,rk[a]?=some none):nones (putR rk k fr)<nones rk:=by
 cases fr with
 | nil=>exact absurd rfl hne
 | cons a r=>
  have h1:=nones_set (k:=k) (h a mem_cons_self)
  have h2:=nones_put_le (k:=k) r (rk.set a (some k))
  show nones (putR (rk.set a (some k)) k r)<_
  omega
structure RS where
 rk:List (Option Nat)
 k:Nat
 fr:List Nat
 x8:Option PV
structure RI (w:Wd) (ch:Nat->Bool) (thr goal:List Nat) (b:RS):Prop where
 len:b.rk.length=w.n
 frn:∀r∈b.fr,r<w.n/\rkA b.rk r=none
 frl:b.fr.length<=1000
 lt:∀r j,rkA b.rk r=some j->j<b.k
 zero:b.k=0->b.fr=goal
 g:0<b.k->∀r,r∈goal->rkA b.rk r=some 0
 p:∀r j,r<w.n->r∉goal->rkA b.rk r=some j->0<j/\r∈thr/\led (ch r) (w.stp r) fun t=>∃i,rkA b.rk t=some i/\i<j
 nx:0<b.k->b.fr=nxt w ch thr b.rk
 m1:∀r,r∈thr->rkA b.rk r=none->¬led (ch r) (w.stp r) fun t=>∃i,rkA b.rk t=some i/\i+1<b.k
 m2:∀r j,r∉goal->rkA b.rk r=some j->¬led (ch r) (w.stp r) fun t=>∃i,rkA b.rk t=some i/\i+1<j
def Few (st:Nat->List Nat) (ch:Nat->Bool) (goal:List Nat) (rk:List (Option Nat)):Prop:=∀r j,r∉goal->rkA rk r=some j->¬led (ch r) (st r) fun t=>∃i,rkA rk t=some i/\i+1<j
theorem RI.right {w:Wd} {ch:Nat->Bool} {thr goal:List Nat} {b:RS} (hne:∀r∈thr,w.stp r≠[]) (I:RI w ch thr goal b) (he:b.fr=[]):RightG w.n w.stp ch thr goal b.rk:=by
 refine ⟨I.len,fun r hr hg=>?_,I.p,fun r hr hz=>?_⟩
 ·rcases Nat.eq_zero_or_pos b.k with h | h
  ·rw [<-I.zero h,he] at hg;simp at hg
  ·exact I.g h r hg
 ·rcases Nat.eq_zero_or_pos b.k with h | h
  ·have hg:goal=[]:=by rw [<-I.zero h];exact he
   refine ⟨by rw [hg];simp,?_⟩
   by_cases ht:r∈thr
   case neg=>exact .inl ht
   refine .inr fun hl=>?_
   have no:∀t,rkA b.rk t=none:=fun t=>by
    cases e:rkA b.rk t with
    | none=>rfl
    | some j=>have:=I.lt t j e;omega
   cases hc:ch r with
   | true=>
    rw [hc] at hl
    obtain ⟨t,_,z⟩:=led_t.mp hl
    exact z (no t)
   | false=>
    rw [hc] at hl
    obtain ⟨t,ht'⟩:=exists_mem_of_ne_nil _ (hne r ht)
    exact led_f.mp hl t ht' (no t)
  ·refine ⟨fun hg=>(by rw [I.g h r hg] at hz;cases hz),?_⟩
   by_cases ht:r∈thr
   ·refine .inr fun hl=>?_
    have hx:=I.nx h
    rw [he] at hx
    have:r∈nxt w ch thr b.rk:=by
     unfold nxt
     refine List.mem_filter.mpr ⟨ht,?_⟩
     rw [hz]
     simp only [Option.isNone_none,Bool.true_and]
     exact led_iff.mpr (zED hl fun t _ z=>by cases e:rkA b.rk t with | none=>exact absurd e z | some j=>rfl)
    rw [<-hx] at this
    simp at this
   ·exact .inl ht
theorem RI.step {w:Wd} {ch:Nat->Bool} {thr goal:List Nat} (hne0:∀r∈thr,w.stp r≠[]) {b:RS} {y:Option PV} (hthr:∀r∈thr,r<w.n) (hl:thr.length<=1000) (I:RI w ch thr goal b) (hne:b.fr≠[]) :
  RI w ch thr goal ⟨putR b.rk b.k b.fr,b.k+1,nxt w ch thr (putR b.rk b.k b.fr),y⟩/\nones (putR b.rk b.k b.fr)<nones b.rk:=by
 have hfl:∀a∈b.fr,a<b.rk.length:=fun a ha=>by rw [I.len];exact (I.frn a ha).1
 have pt:∀t,rkA (putR b.rk b.k b.fr) t=if t∈b.fr then some b.k else rkA b.rk t:=fun t=>rkA_put _ _ hfl
 refine ⟨⟨by rw [zI0];exact I.len,fun r hr=>?_,?_,fun r j e=>?_,fun z=>absurd z (Nat.succ_ne_zero _),fun _ r hg=>?_,fun r j hr hg e=>?_,fun _=>rfl,fun r ht hz hl=>?_,fun r j hg e hl=>?_⟩,nones_put hne fun a ha=>?_⟩
 ·obtain ⟨h1,h2⟩:=List.mem_filter.mp hr
  simp only [Bool.and_eq_true,Option.isNone_iff_eq_none] at h2
  exact ⟨hthr r h1,h2.1⟩
 ·exact Nat.le_trans (length_filter_le _ _) hl
 ·rw [pt] at e
  show j<b.k+1
  split at e
  ·cases e;omega
  ·have:=I.lt r j e;omega
 ·show rkA (putR b.rk b.k b.fr) r=some 0
  rw [pt]
  rcases Nat.eq_zero_or_pos b.k with h | h
  ·rw [I.zero h,if_pos hg,h]
  ·have:=I.g h r hg
   split
   ·rename_i z;rw [(I.frn r z).2] at this;cases this
   ·exact this
 ·have e:rkA (putR b.rk b.k b.fr) r=some j:=e
  rw [pt] at e
  split at e
  ·rename_i hm
   cases e
   have hk:0<b.k:=by
    rcases Nat.eq_zero_or_pos b.k with h | h
    ·rw [I.zero h] at hm;exact absurd hm hg
    ·exact h
   have hx:=I.nx hk
   rw [hx] at hm
   obtain ⟨h1,h2⟩:=List.mem_filter.mp hm
   simp only [Bool.and_eq_true] at h2
   refine ⟨hk,h1,zED (led_iff.mp h2.2) fun t _ z=>?_⟩
   cases e:rkA b.rk t with
   | none=>rw [e] at z;cases z
   | some i=>
    refine ⟨i,?_,I.lt t i e⟩
    show rkA (putR b.rk b.k b.fr) t=_
    rw [pt,if_neg (fun q=>by rw [(I.frn t q).2] at e;cases e),e]
  ·obtain ⟨h1,h2,h3⟩:=I.p r j hr hg e
   refine ⟨h1,h2,zED h3 fun t _ ⟨i,hi,hlt⟩=>⟨i,?_,hlt⟩⟩
   show rkA (putR b.rk b.k b.fr) t=_
   rw [pt,if_neg (fun q=>by rw [(I.frn t q).2] at hi;cases hi),hi]
 ·have hz:rkA (putR b.rk b.k b.fr) r=none:=hz
  rw [pt] at hz
  split at hz
  ·cases hz
  rename_i hf
  have hl:led (ch r) (w.stp r) fun t=>∃i,rkA (putR b.rk b.k b.fr) t=some i/\i+1<b.k+1:=hl
  have hl:led (ch r) (w.stp r) fun t=>∃i,rkA b.rk t=some i/\i<b.k:=zED hl fun t _ ⟨i,hi,hlt⟩=>by
   rw [pt] at hi
   split at hi
   ·cases hi;omega
   ·exact ⟨i,hi,by omega⟩
  rcases Nat.eq_zero_or_pos b.k with h | h
  ·cases hc:ch r with
   | true=>
    rw [hc] at hl
    obtain ⟨t,_,i,_,z⟩:=led_t.mp hl
    omega
   | false=>
    rw [hc] at hl
    obtain ⟨t,ht'⟩:=exists_mem_of_ne_nil _ (hne0 r ht)
    obtain ⟨i,_,z⟩:=led_f.mp hl t ht'
    omega
  ·refine hf ?_
   rw [I.nx h]
   refine List.mem_filter.mpr ⟨ht,?_⟩
   rw [hz]
   simp only [Option.isNone_none,Bool.true_and]
   exact led_iff.mpr (zED hl fun t _ ⟨i,hi,_⟩=>by rw [hi];rfl)
 ·have e:rkA (putR b.rk b.k b.fr) r=some j:=e
  have hl:led (ch r) (w.stp r) fun t=>∃i,rkA (putR b.rk b.k b.fr) t=some i/\i+1<j:=hl
  have hj:j<=b.k:=by
   rw [pt] at e
   split at e
   ·cases e;omega
   ·have:=I.lt r j e;omega
  have hl:led (ch r) (w.stp r) fun t=>∃i,rkA b.rk t=some i/\i+1<j:=zED hl fun t _ ⟨i,hi,hlt⟩=>by
   rw [pt] at hi
   split at hi
   ·cases hi;omega
   ·exact ⟨i,hi,hlt⟩
  rw [pt] at e
  split at e
  ·rename_i hm
   cases e
   have hk:0<b.k:=by
    rcases Nat.eq_zero_or_pos b.k with h | h
    ·rw [I.zero h] at hm;exact absurd hm hg
    ·exact h
   have hm':=hm
   rw [I.nx hk] at hm'
   exact I.m1 r (List.mem_filter.mp hm').1 (I.frn r hm).2 hl
  ·exact I.m2 r j hg e hl
 ·obtain ⟨h1,h2⟩:=I.frn a ha
  unfold rkA at h2
  rw [getD_eq_getElem?_getD,getElem?_eq_getElem (by rw [I.len];exact h1)] at h2
  rw [getElem?_eq_getElem (by rw [I.len];exact h1)]
  simpa using h2
abbrev GR (w:Wd) (cl:List Bool) (thr goal:List Nat) (b:RS):Ev:=[some ⟨.leaf,w.enc⟩,some ⟨.leaf,chs cl⟩,some ⟨.leaf,rms thr⟩,some ⟨.leaf,rms goal⟩,some ⟨.lst .leaf,rks b.rk⟩,some ⟨.leaf,.int (b.k:Int)⟩,some ⟨.leaf,rms b.fr⟩,b.x8,none]
abbrev zKB:FS:=(sSeq (sFor 7 (iSeq (eVar 6))
  (sSetI 4 (eVar 5) (eVar 7)))
  (sSeq (sAugI 5 (eK (.int 1)))
  (sSet false 6 (zHO 4 zBJ (eCons (eVar 0) (eCons (eVar 1) (eCons (eVar 2) (eCons (eVar 4) eNil))))))))
theorem rk_turn {w:Wd} (ok:w.Ok0) {cl:List Bool} {thr goal:List Nat} {b:RS} (hcl:cl.length=w.n) (hne0:∀r∈thr,w.stp r≠[]) (hthr:∀r∈thr,r<w.n) (hl:thr.length<=1000) (I:RI w (chA cl) thr goal b) (hne:b.fr≠[]) :
  ∃b',zKB (GR w cl thr goal b)=.nx (GR w cl thr goal b')/\RI w (chA cl) thr goal b'/\nones b'.rk<nones b.rk:=by
 obtain ⟨y,e,_⟩:=zI5 rm (fun (l:List (Option Nat)) r=>l.set r (some b.k)) (Inv:=fun l r=>l.length=w.n/\∀t∈r,t<w.n) (i:=7) (body:=sSetI 4 (eVar 5) (eVar 7))
  (G:=fun l x=>[some ⟨.leaf,w.enc⟩,some ⟨.leaf,chs cl⟩,some ⟨.leaf,rms thr⟩,some ⟨.leaf,rms goal⟩,some ⟨.lst .leaf,rks l⟩,some ⟨.leaf,.int (b.k:Int)⟩,some ⟨.leaf,rms b.fr⟩,x,none])
  (fun _ _=>by simp) (fun _ _ _=>by simp) (fun l r rest ⟨h1,h2⟩=>by
   have hr:=h2 r mem_cons_self
   refine ⟨?_,by rw [length_set];exact h1,fun t ht=>h2 t (mem_cons_of_mem _ ht)⟩
   rw [x_setI (ds:=l.map oD) (j:=r) (k:=(r:Int)) rfl (zAC rfl) (zAC rfl) (zFU (by rw [length_map,h1];exact hr)) rfl]
   simp [List.map_set,oD]) b.fr b.rk b.x8 ⟨I.len,fun t ht=>(I.frn t ht).1⟩
 obtain ⟨I',hm⟩:=RI.step (y:=y) hne0 hthr hl I hne
 refine ⟨⟨putR b.rk b.k b.fr,b.k+1,nxt w (chA cl) thr (putR b.rk b.k b.fr),y⟩,?_,I',hm⟩
 have e2:=x_for (fi:=iSeq (eVar 6)) (Γ:=GR w cl thr goal b) (w_seq (ds:=b.fr.map rm) (zAC rfl) rfl) e
 have dn:=den_next ok (cl:=cl) (thr:=thr) (rk:=putR b.rk b.k b.fr) hcl hthr (by rw [zI0];exact I.len) hl
 unfold zKB
 rw [r_seq,e2]
 have fr:firm ⟨.lst .leaf,rms (nxt w (chA cl) thr (putR b.rk b.k b.fr))⟩=true:=by
  unfold firm
  simp [scalD]
 have ec:∀Γ:Ev,Γ=[some ⟨.leaf,w.enc⟩,some ⟨.leaf,chs cl⟩,some ⟨.leaf,rms thr⟩,some ⟨.leaf,rms goal⟩,some ⟨.lst .leaf,rks (putR b.rk b.k b.fr)⟩,some ⟨.leaf,.int ((b.k:Int)+1)⟩,some ⟨.leaf,rms b.fr⟩,y,none] ->
   zHO 4 zBJ (eCons (eVar 0) (eCons (eVar 1) (eCons (eVar 2) (eCons (eVar 4) eNil)))) Γ=.ok ⟨.lst .leaf,rms (nxt w (chA cl) thr (putR b.rk b.k b.fr))⟩ Γ:=fun Γ hΓ=>by
  subst hΓ
  unfold zHO
  simp [dn,fr]
 have pu:b.fr.foldl (fun l r=>l.set r (some b.k)) b.rk=putR b.rk b.k b.fr:=rfl
 rw [pu]
 simp [ec _ rfl]
theorem den_ranks_to {w:Wd} (ok:w.Ok0) {cl:List Bool} {thr goal:List Nat} (hcl:cl.length=w.n) (hne0:∀r∈thr,w.stp r≠[]) (hthr:∀r∈thr,r<w.n) (hl:thr.length<=1000) (hgoal:∀r∈goal,r<w.n) (hgl:goal.length<=1000) :
  ∃rk,zEX [w.enc,chs cl,rms thr,rms goal]=.ok ⟨.lst .leaf,rks rk⟩/\RightG w.n w.stp (chA cl) thr goal rk/\Few w.stp (chA cl) goal rk:=by
 have lo:=ok.lo
 have h24:=ok.h24
 have i0:RI w (chA cl) thr goal ⟨w.os.map fun _=>none,0,goal,none⟩:=by
  have z:∀r,rkA (w.os.map fun _=>none) r=none:=fun r=>by
   unfold rkA
   rw [getD_eq_getElem?_getD,getElem?_map]
   cases w.os[r]?<;>rfl
  refine ⟨by simp [lo],fun r hr=>⟨hgoal r hr,z r⟩,hgl,fun r j e=>(by rw [z] at e;cases e),fun _=>rfl,fun h=>absurd h (by simp),fun r j _ _ e=>(by rw [z] at e;cases e),fun h=>absurd h (by simp),fun r ht _ hl=>?_,fun r j _ e=>(by rw [z] at e;cases e)⟩
  have hl:led (chA cl r) (w.stp r) fun t=>∃i,rkA (w.os.map fun _=>none) t=some i/\i+1<0:=hl
  cases hc:chA cl r with
  | true=>
   rw [hc] at hl
   obtain ⟨t,_,i,_,z⟩:=led_t.mp hl
   omega
  | false=>
   rw [hc] at hl
   obtain ⟨t,ht'⟩:=exists_mem_of_ne_nil _ (hne0 r ht)
   obtain ⟨i,_,z⟩:=led_f.mp hl t ht'
   omega
 obtain ⟨b',e,I,hf⟩:=zHY (c:=bOf gTru (eVar 6)) (g:=zKB) (G:=GR w cl thr goal) (test:=fun b=>!b.fr.isEmpty) (Inv:=RI w (chA cl) thr goal) (meas:=fun b=>nones b.rk) (fun b I=>by simp) (fun b I hb=>rk_turn ok hcl hne0 hthr hl I (by intro z;rw [z] at hb;simp at hb)) 1000 _ i0 (by
  have:nones (w.os.map fun _=>none)<=w.os.length:=by unfold nones;exact Nat.le_trans (length_filter_le _ _) (by simp)
  show nones (w.os.map fun _=>none)<1000
  omega)
 refine ⟨b'.rk,?_,I.right hne0 (by simpa using hf),I.m2⟩
 refine rt_of ?_
 have co:∀Γ:Ev,Γ.length=9->Γ[0]?=some (some ⟨.leaf,w.enc⟩)->eComp .leaf 8 (iSeq (eIdx (eVar 0) (eK (.int 0)))) bTrue (eK .none) Γ=.ok ⟨.lst .leaf,.list (w.os.map fun _=>.none)⟩ Γ:=fun Γ h1 h2=>by
  have:=zD1 (fun d:D=>d) w.os (fun _=>⟨.leaf,.none⟩) (s:=.leaf) (i:=8) (fi:=iSeq (eIdx (eVar 0) (eK (.int 0)))) (fe:=eK .none) (st:=true) (Γ:=Γ) (by simp [h2,Wd.enc]) (by omega) rfl (by omega) (fun x hx=>by simp)
  simpa using this
 have e:zDN (bOf gTru (eVar 6)) zKB 1000 [some ⟨.leaf,w.enc⟩,some ⟨.leaf,chs cl⟩,some ⟨.leaf,rms thr⟩,some ⟨.leaf,rms goal⟩,some ⟨.lst .leaf,.list (w.os.map fun _=>.none)⟩,some ⟨.leaf,.int 0⟩,some ⟨.leaf,rms goal⟩,none,none]=.nx (GR w cl thr goal b'):=by
  have q:rks (w.os.map fun _=>none)=.list (w.os.map fun _=>.none):=by
   unfold rks
   rw [map_map]
   rfl
  rw [<-q]
  exact e
 unfold zHE
 rw [r_seq,r_set,co _ rfl rfl]
 simp [zAL]
 unfold zH2
 rw [e]
 simp
theorem v_LR {Γ Γ1:Ev} {fl:FL} {ps:List PV} {k:Int} (hl:fl Γ=.ok ps Γ1) (hp:ps.map (·.d)=[.int k]) (h0:0<=k) (h1:k<=1000):eLR fl Γ=.ok ⟨.lst .leaf,.list (rngD 0 k.toNat)⟩ Γ1:=by
 have h3:inRng k=true:=in_rng (by omega) (by omega)
 have hb:=zG6
 have h4:k<=(sizeLine:Int):=by omega
 unfold eLR;rw [hl];simp only [Out.bind,hp,rng1,h3,if_true,h4]
theorem Wd.Ok.check {w:Wd} (ok:w.Ok):zAV [w.enc]=.ok ⟨.leaf,.none⟩:=den_check (ok.g.wk (b:=24) ok.h24) (by omega) (ok.g.isW ok.h1 ok.h24)
end KC
namespace T
open PySem PySem.Spec L2
open PyProof.Rows hiding St
theorem zFW {α:Type} (en:α->D) {i:Nat} {body:FS} {Inv:List α->Ev->Prop} (hb:∀a r Γ,Inv (a::r) Γ->i<Γ.length/\∃Γ',body (Γ.set i (some ⟨.leaf,en a⟩))=.nx Γ'/\Inv r Γ'):∀(xs:List α) (Γ:Ev),Inv xs Γ->∃Γ',forGo i body (xs.map en) Γ=.nx Γ'/\Inv [] Γ'
 | [],Γ,h=>⟨Γ,rfl,h⟩
 | a::r,Γ,h=>by
  obtain ⟨hi,Γ1,h1,h2⟩:=hb a r Γ h
  obtain ⟨Γ2,e,h3⟩:=zFW en hb r Γ1 h2
  refine ⟨Γ2,?_,h3⟩
  rw [map_cons,forGo,if_pos hi,h1]
  exact e
theorem v_cat {Γ Γ1 Γ2:Ev} {fa fb:F1} {s s':Sh} {xs ys:List D} (ha:fa Γ=.ok ⟨s,.list xs⟩ Γ1) (hb:fb Γ1=.ok ⟨s',.list ys⟩ Γ2) (h1:zAP ⟨s,.list xs⟩ xs=true) (h2:zAP ⟨s',.list ys⟩ ys=true) (hn:xs.length+ys.length<=10000):eCat fa fb Γ=.ok ⟨.lst .leaf,.list (xs++ys)⟩ Γ2:=by
 have hb':(10000:Nat)<=sizeLine:=by decide
 have:xs.length+ys.length<=sizeLine:=Nat.le_trans hn hb'
 unfold eCat eBind
 rw [ha]
 simp only [zH3]
 rw [hb]
 simp only [zH3,h1,h2,decide_eq_true this,Bool.and_self,if_true]
end T
namespace KC
open PySem PySem.Spec L2 T PySem.SeqAt
open PyProof.Rows hiding St
theorem to_wd {n:Nat} {os ms ss:List D} (g:Gw (n:Int) n os ms ss) (h1:1<=n) (h24:n<=24):∃w:Wd,w.Ok/\w.enc=tup3 os ms ss/\w.n=n:=by
 have hm:∀l:List D,(∀r∈l,∃xs,r=.list xs/\RowS xs)->∃M:List (List Str),l=M.map txs/\∀r∈M,∀c∈r,PyData.strOk c=true:=by
  have one:∀xs:List D,RowS xs->∃r:List Str,xs=r.map .str/\∀c∈r,PyData.strOk c=true:=by
   intro xs
   induction xs with
   | nil=>intro _;exact ⟨[],rfl,by simp⟩
   | cons a r ih=>
    intro h
    obtain ⟨x,rfl,hx⟩:=h a mem_cons_self
    obtain ⟨t,rfl,ht⟩:=ih fun b hb=>h b (mem_cons_of_mem _ hb)
    exact ⟨x::t,rfl,fun c hc=>(List.mem_cons.mp hc).elim (fun e=>by rw [e];exact hx) (ht c)⟩
  intro l
  induction l with
  | nil=>intro _;exact ⟨[],rfl,by simp⟩
  | cons a r ih=>
   intro h
   obtain ⟨xs,rfl,hx⟩:=h a mem_cons_self
   obtain ⟨x,rfl,hx2⟩:=one xs hx
   obtain ⟨M,rfl,hM⟩:=ih fun b hb=>h b (mem_cons_of_mem _ hb)
   exact ⟨x::M,rfl,fun c hc=>(List.mem_cons.mp hc).elim (fun e=>by rw [e];exact hx2) (hM c)⟩
 have hs:∀l:List D,(∀r∈l,∃ts:List Int,r=.list (ts.map .int)/\ts.length<=30/\ts≠[]/\(∀t∈ts,0<=t/\t<(n:Int))/\ts.Pairwise (· < ·))->∃S:List (List Nat),l=S.map rms/\∀r∈S,r≠[]/\r.length<=30/\∀t∈r,t<n:=by
  have one:∀ts:List Int,(∀t∈ts,0<=t/\t<(n:Int))->∃r:List Nat,ts.map PyData.int=r.map rm/\r.length=ts.length/\∀t∈r,t<n:=by
   intro ts
   induction ts with
   | nil=>intro _;exact ⟨[],rfl,rfl,by simp⟩
   | cons a r ih=>
    intro h
    have ha:=h a mem_cons_self
    obtain ⟨t,e,el,ht⟩:=ih fun b hb=>h b (mem_cons_of_mem _ hb)
    refine ⟨a.toNat::t,?_,by simp [el],fun c hc=>(List.mem_cons.mp hc).elim (fun e=>by omega) (ht c)⟩
    rw [map_cons,map_cons,e]
    congr 2
    omega
  intro l
  induction l with
  | nil=>intro _;exact ⟨[],rfl,by simp⟩
  | cons a r ih=>
   intro h
   obtain ⟨ts,rfl,t1,t2,t3,_⟩:=h a mem_cons_self
   obtain ⟨x,e,el,hx⟩:=one ts t3
   obtain ⟨S,rfl,hS⟩:=ih fun b hb=>h b (mem_cons_of_mem _ hb)
   refine ⟨x::S,by rw [map_cons,e],fun c hc=>(List.mem_cons.mp hc).elim (fun e=>by
    subst e
    exact ⟨fun z=>t2 (List.length_eq_zero_iff.mp (by rw [<-el,z];rfl)),by omega,hx⟩) (hS c)⟩
 obtain ⟨M,eM,hM⟩:=hm ms fun r hr=>let ⟨xs,a,b,_⟩:=g.m r hr;⟨xs,a,b⟩
 obtain ⟨S,eS,hS⟩:=hs ss g.s
 subst eM eS
 refine ⟨⟨n,os,M,S⟩,⟨g,h1,h24,?_,?_,hS,hM⟩,rfl,rfl⟩
 ·have:=g.lm;simpa using this
 ·have:=g.ls;simpa using this
def knd:List Wr:=[.mark,.mark,.not,.and,.su,.au,.sn,.an,.sa,.aa,.or,.yes]
@[simp] theorem in_bin (a:Wr):gIn false (.str a.t) (.tuple [.str "and",.str "or",.str "some until",.str "all until"])=some (.bool (decide (a=.and\/a=.or\/a=.su\/a=.au))):=by cases a<;>kernel_rfl
structure Mad (made:List Sn):Prop where
 ne:0<made.length
 ok:∀s∈made,s.ok
 dp:∀s∈made,s.dep<=made.length
theorem intsOf_map (l:List Int):intsOf (l.map .int)=some l:=by
 induction l with
 | nil=>rfl
 | cons a r ih=>rw [map_cons,intsOf,ih];rfl
end KC
namespace KQ
open PySem PySem.Spec L2 T PySem.SeqAt KC
open PyProof.Rows hiding St
def d__law_world:FS:=(sSeq (sSet false 3 (eOp gAddI (eK (.int 1)) (eOp gMod (eCall 2 zAO (eCons (eVar 0) (eCons (eVar 1) eNil))) (eVar 2))))
  (sSeq (sSet true 4 (eList .leaf eNil))
  (sSeq (sSet true 5 (eList .leaf eNil))
  (sSeq (sSet true 6 (eList .leaf eNil))
  (sSeq (sFor 7 (iR1 (eCons (eVar 3) eNil))
  (sSeq (sSet false 8 (eCall 2 zAO (eCons (eVar 0) (eCons (eOp gAddI (eOp gAddI (eVar 1) (eK (.int 1))) (eVar 7)) eNil))))
  (sSeq (zAW 4 (eCall 3 zAK (eCons (eVar 8) (eCons (eK (.int 0)) (eCons (eK (.int 2)) eNil)))))
  (sSeq (zAW 5 (eComp .leaf 11 (iText "abc") (bOf gBool (eOp gEq (eCall 3 zAK (eCons (eVar 8) (eCons (eOp gAddI (eK (.int 1)) (eCB (gIdxS "abc") (eCons (eVar 11) eNil))) (eCons (eK (.int 2)) eNil)))) (eK (.int 1)))) (eVar 11)))
  (sSeq (sSet false 9 (eComp .leaf 10 (iR1 (eCons (eVar 3) eNil)) (bOf gBool (eOp gEq (eCall 3 zAK (eCons (eVar 8) (eCons (eOp gAddI (eK (.int 4)) (eVar 10)) (eCons (eOp gAddI (eK (.int 2)) (eCB gInt (eCons (eOp gGt (eVar 3) (eK (.int 3))) eNil))) eNil)))) (eK (.int 1)))) (eVar 10)))
  (sSeq (sIf (bOf gBool (eOp gEq (eVar 9) (eList .leaf eNil))) (sSet false 9 (eList .leaf (eCons (eCall 3 zAK (eCons (eVar 8) (eCons (eOp gAddI (eK (.int 4)) (eVar 3)) (eCons (eVar 3) eNil)))) eNil))) sNext)
  (zAW 6 (eVar 9))))))))
  (sRet (eTup (eCons (eMove 4) (eCons (eMove 5) (eCons (eMove 6) eNil))))))))))
def m__law_world:List PySem.PyData->Res:=denOf 12 d__law_world
abbrev eW:FS:=(sSeq (sSet false 8 (eCall 2 zAO (eCons (eVar 0) (eCons (eOp gAddI (eOp gAddI (eVar 1) (eK (.int 1))) (eVar 7)) eNil))))
  (sSeq (zAW 4 (eCall 3 zAK (eCons (eVar 8) (eCons (eK (.int 0)) (eCons (eK (.int 2)) eNil)))))
  (sSeq (zAW 5 (eComp .leaf 11 (iText "abc") (bOf gBool (eOp gEq (eCall 3 zAK (eCons (eVar 8) (eCons (eOp gAddI (eK (.int 1)) (eCB (gIdxS "abc") (eCons (eVar 11) eNil))) (eCons (eK (.int 2)) eNil)))) (eK (.int 1)))) (eVar 11)))
  (sSeq (sSet false 9 (eComp .leaf 10 (iR1 (eCons (eVar 3) eNil)) (bOf gBool (eOp gEq (eCall 3 zAK (eCons (eVar 8) (eCons (eOp gAddI (eK (.int 4)) (eVar 10)) (eCons (eOp gAddI (eK (.int 2)) (eCB gInt (eCons (eOp gGt (eVar 3) (eK (.int 3))) eNil))) eNil)))) (eK (.int 1)))) (eVar 10)))
  (sSeq (sIf (bOf gBool (eOp gEq (eVar 9) (eList .leaf eNil))) (sSet false 9 (eList .leaf (eCons (eCall 3 zAK (eCons (eVar 8) (eCons (eOp gAddI (eK (.int 4)) (eVar 3)) (eCons (eVar 3) eNil)))) eNil))) sNext)
  (zAW 6 (eVar 9)))))))
def ltr (k:Nat):D:=.str ⟨#[97+k]⟩
theorem abc_walk {Γ:Ev}:iText "abc" Γ=.ok ⟨[0,1,2].map ltr,true⟩ Γ:=by
 have:chD "abc"=[0,1,2].map ltr:=by kernel_rfl
 unfold iText
 rw [this]
theorem ltr_lt {k:Nat} (h:k∈[0,1,2]):k<3:=by
 simp at h
 omega
theorem ix_ltr {k:Nat} (h:k∈[0,1,2]):gIdxS "abc" [ltr k]=some (.int (k:Int)):=by
 simp at h
 rcases h with rfl | rfl | rfl<;>kernel_rfl
theorem body_world {xs os ms ss:List D} {at' lim many:Int} {n:Nat} {x8 x9:Option PV} (hx:RowI xs) (ha:0<=at') (hm:1<=many) (hm2:many<=24) (h:Gw many n os ms ss) (hn:n<=30) {r:Nat} :
  ∃os' ms' ss' x8' x9',eW [some ⟨.leaf,.list xs⟩,some ⟨.leaf,.int at'⟩,some ⟨.leaf,.int lim⟩,some ⟨.leaf,.int many⟩,some ⟨.lst .leaf,.list os⟩,some ⟨.lst .leaf,.list ms⟩,some ⟨.lst .leaf,.list ss⟩,some ⟨.leaf,.int (r:Nat)⟩,x8,x9,none,none]
   = .nx [some ⟨.leaf,.list xs⟩,some ⟨.leaf,.int at'⟩,some ⟨.leaf,.int lim⟩,some ⟨.leaf,.int many⟩,some ⟨.lst .leaf,.list os'⟩,some ⟨.lst .leaf,.list ms'⟩,some ⟨.lst .leaf,.list ss'⟩,some ⟨.leaf,.int (r:Nat)⟩,x8',x9',none,none]/\Gw many (n+1) os' ms' ss':=by
 obtain ⟨c,hc⟩:=zGF hx (k:=at'+1+(r:Int)) (by omega)
 have lo:=h.lo
 have lm:=h.lm
 have ls:=h.ls
 have c5:∀(Γ:Ev),Γ.length=12->Γ[8]?=some (some ⟨.leaf,.int c⟩)->(eComp .leaf 11 (iText "abc") (bOf gBool (eOp gEq (eCall 3 zAK (eCons (eVar 8) (eCons (eOp gAddI (eK (.int 1)) (eCB (gIdxS "abc") (eCons (eVar 11) eNil))) (eCons (eK (.int 2)) eNil)))) (eK (.int 1)))) (eVar 11)) Γ
   = .ok ⟨.lst .leaf,.list (([0,1,2].filter fun k:Nat=>drw c (1+(k:Int)) 2==1).map ltr)⟩ Γ:=fun Γ hl h8=>by
  refine zDA ltr [0,1,2] (fun k:Nat=>drw c (1+(k:Int)) 2==1) (fun k=>⟨.leaf,ltr k⟩) (st:=true) abc_walk (by omega) rfl (by simp) (fun k hk=>?_) fun k hk _=>?_
  ·have g11:(Γ.set 11 (some ⟨.leaf,ltr k⟩))[11]?=some (some ⟨.leaf,ltr k⟩):=by rw [getElem?_set_self (by omega)]
   have g8:(Γ.set 11 (some ⟨.leaf,ltr k⟩))[8]?=some (some ⟨.leaf,.int c⟩):=by rw [getElem?_set_ne (by omega)];exact h8
   exact zAY (v_op (zAT (zAE (zAC g8) (zAE (v_op v_k (v_cb (zAE (zAC g11) v_nil) (ix_ltr hk)) add_int') (zAE v_k v_nil))) (zFY (by omega) (by have:=ltr_lt hk;omega) (by omega) (by omega)) rfl rfl) v_k eq_int)
  ·exact ⟨zAC (by rw [getElem?_set_self (by omega)]),rfl⟩
 generalize hM:(([0,1,2].filter fun k:Nat=>drw c (1+(k:Int)) 2==1).map ltr)=M at c5
 have rM:RowS M/\M.length<=30/\mOk (.list M)=true:=by
  refine ⟨?_,?_,?_⟩
  ·rw [<-hM]
   intro a ha
   obtain ⟨k,hk,rfl⟩:=List.mem_map.mp ha
   have:=ltr_lt (List.mem_filter.mp hk).1
   exact ⟨_,rfl,ok_small (by omega)⟩
  ·rw [<-hM,length_map]
   exact Nat.le_trans (length_filter_le _ _) (by simp)
  ·rw [<-hM]
   simp only [filter_cons,List.filter_nil]
   have:=mOk8 (drw c (1+((0:Nat):Int)) 2==1) (drw c (1+((1:Nat):Int)) 2==1) (drw c (1+((2:Nat):Int)) 2==1)
   revert this
   cases (drw c (1+((0:Nat):Int)) 2==1)<;>cases (drw c (1+((1:Nat):Int)) 2==1)<;>cases (drw c (1+((2:Nat):Int)) 2==1)<;>exact fun h=>h
 have c6:∀(Γ:Ev),Γ.length=12->Γ[8]?=some (some ⟨.leaf,.int c⟩)->Γ[3]?=some (some ⟨.leaf,.int many⟩)->eComp .leaf 10 (iR1 (eCons (eVar 3) eNil)) (bOf gBool (eOp gEq (eCall 3 zAK (eCons (eVar 8) (eCons (eOp gAddI (eK (.int 4)) (eVar 10)) (eCons (eOp gAddI (eK (.int 2)) (eCB gInt (eCons (eOp gGt (eVar 3) (eK (.int 3))) eNil))) eNil)))) (eK (.int 1)))) (eVar 10) Γ
   = .ok ⟨.lst .leaf,.list (((rngD 0 many.toNat).filter fun d=>match d with | .int k=>drw c (4+k) (2+(if decide (3<many) then 1 else 0))==1 | _=>false).map fun d=>d)⟩ Γ:=fun Γ hl h8 h3=>by
  refine eComp_pure (c:=fun d=>match d with | .int k=>drw c (4+k) (2+(if decide (3<many) then 1 else 0))==1 | _=>false) (f:=fun d=>⟨.leaf,d⟩) (st:=true) (w_r1 (k:=many) (zAE (zAC h3) v_nil) rfl (by omega) (by omega)) (by omega) rfl (by rw [zIY];omega) (fun d hd=>?_) fun d hd _=>?_
  ·obtain ⟨k,hk,rfl⟩:=zH8 hd
   have g10:(Γ.set 10 (some ⟨.leaf,.int (0+(k:Int))⟩))[10]?=some (some ⟨.leaf,.int (0+(k:Int))⟩):=by rw [getElem?_set_self (by omega)]
   have g8:(Γ.set 10 (some ⟨.leaf,.int (0+(k:Int))⟩))[8]?=some (some ⟨.leaf,.int c⟩):=by rw [getElem?_set_ne (by omega)];exact h8
   have g3:(Γ.set 10 (some ⟨.leaf,.int (0+(k:Int))⟩))[3]?=some (some ⟨.leaf,.int many⟩):=by rw [getElem?_set_ne (by omega)];exact h3
   have b1:(1:Int)<=2+(if decide (3<many) then 1 else 0)/\(2:Int)+(if decide (3<many) then 1 else 0)<=1000:=by split<;>omega
   exact zAY (v_op (zAT (zAE (zAC g8) (zAE (v_op v_k (zAC g10) add_int') (zAE (v_op v_k (v_cb (zAE (v_op (zAC g3) v_k rfl) v_nil) rfl) add_int') v_nil))) (zFY (by omega) (by omega) b1.1 b1.2) rfl rfl) v_k eq_int)
  ·obtain ⟨k,hk,rfl⟩:=zH8 hd
   exact ⟨zAC (by rw [getElem?_set_self (by omega)]),rfl⟩
 obtain ⟨ts,hT,hts1,hts2,hts3⟩:=rng_ts many.toNat (fun d=>match d with | .int k=>drw c (4+k) (2+(if decide (3<many) then 1 else 0))==1 | _=>false)
 rw [hT] at c6
 have fin:∀(Γ:Ev) (T:List Int),(T.length<=30/\T≠[]/\(∀t∈T,0<=t/\t<many)/\T.Pairwise (· < ·))->Γ=[some ⟨.leaf,.list xs⟩,some ⟨.leaf,.int at'⟩,some ⟨.leaf,.int lim⟩,some ⟨.leaf,.int many⟩,some ⟨.lst .leaf,.list (os++[.int (drw c 0 2)])⟩,some ⟨.lst .leaf,.list (ms++[.list M])⟩,some ⟨.lst .leaf,.list ss⟩,some ⟨.leaf,.int (r:Nat)⟩,some ⟨.leaf,.int c⟩,some ⟨.leaf,.list (T.map .int)⟩,none,none] ->
   ∃os' ms' ss' x8' x9',zAW 6 (eVar 9) Γ=.nx [some ⟨.leaf,.list xs⟩,some ⟨.leaf,.int at'⟩,some ⟨.leaf,.int lim⟩,some ⟨.leaf,.int many⟩,some ⟨.lst .leaf,.list os'⟩,some ⟨.lst .leaf,.list ms'⟩,some ⟨.lst .leaf,.list ss'⟩,some ⟨.leaf,.int (r:Nat)⟩,x8',x9',none,none]/\Gw many (n+1) os' ms' ss':=fun Γ T hT2 hΓ=>by
  subst hΓ
  refine ⟨os++[.int (drw c 0 2)],ms++[.list M],ss++[.list (T.map .int)],_,_,zF7 rfl (zAC rfl) rfl (by omega),by simp;omega,by simp;omega,by simp;omega,fun a ha=>?_,fun a ha=>?_,fun a ha=>?_⟩
  ·rcases List.mem_append.mp ha with z | z
   ·exact h.o a z
   ·have:=zKI (c:=c) (k:=0) (b:=2) (by omega) (by omega) (by omega) (by omega)
    rw [List.mem_singleton.mp z]
    rcases (by omega:drw c 0 2=0\/drw c 0 2=1) with e | e
    ·exact .inl (by rw [e])
    ·exact .inr (by rw [e])
  ·rcases List.mem_append.mp ha with z | z
   ·exact h.m a z
   ·exact ⟨M,List.mem_singleton.mp z,rM.1,rM.2.1,by rw [List.mem_singleton.mp z];exact rM.2.2⟩
  ·rcases List.mem_append.mp ha with z | z
   ·exact h.s a z
   ·exact ⟨T,List.mem_singleton.mp z,hT2⟩
 have e1:=zA0 (i:=8) (zAT (fl:=eCons (eVar 0) (eCons (eOp gAddI (eOp gAddI (eVar 1) (eK (.int 1))) (eVar 7)) eNil)) (Γ:=[some ⟨.leaf,.list xs⟩,some ⟨.leaf,.int at'⟩,some ⟨.leaf,.int lim⟩,some ⟨.leaf,.int many⟩,some ⟨.lst .leaf,.list os⟩,some ⟨.lst .leaf,.list ms⟩,some ⟨.lst .leaf,.list ss⟩,some ⟨.leaf,.int (r:Nat)⟩,x8,x9,none,none]) (zAE (zAC rfl) (zAE (v_op (v_op (zAC rfl) v_k add_int') (zAC rfl) add_int') v_nil)) hc rfl rfl) rfl (by simp)
 have e2:zAW 4 (eCall 3 zAK (eCons (eVar 8) (eCons (eK (.int 0)) (eCons (eK (.int 2)) eNil)))) [some ⟨.leaf,.list xs⟩,some ⟨.leaf,.int at'⟩,some ⟨.leaf,.int lim⟩,some ⟨.leaf,.int many⟩,some ⟨.lst .leaf,.list os⟩,some ⟨.lst .leaf,.list ms⟩,some ⟨.lst .leaf,.list ss⟩,some ⟨.leaf,.int (r:Nat)⟩,some ⟨.leaf,.int c⟩,x9,none,none]=_:=
  zF7 rfl (zAT (zAE (zAC rfl) (zAE v_k (zAE v_k v_nil))) (zFY (by omega) (by omega) (by omega) (by omega)) rfl rfl) rfl (by omega)
 have e3:=zF7 (i:=5) (Γ:=[some ⟨.leaf,.list xs⟩,some ⟨.leaf,.int at'⟩,some ⟨.leaf,.int lim⟩,some ⟨.leaf,.int many⟩,some ⟨.lst .leaf,.list (os++[.int (drw c 0 2)])⟩,some ⟨.lst .leaf,.list ms⟩,some ⟨.lst .leaf,.list ss⟩,some ⟨.leaf,.int (r:Nat)⟩,some ⟨.leaf,.int c⟩,x9,none,none]) rfl (c5 _ rfl rfl) rfl (by omega)
 have e4:=zA0 (i:=9) (Γ:=[some ⟨.leaf,.list xs⟩,some ⟨.leaf,.int at'⟩,some ⟨.leaf,.int lim⟩,some ⟨.leaf,.int many⟩,some ⟨.lst .leaf,.list (os++[.int (drw c 0 2)])⟩,some ⟨.lst .leaf,.list (ms++[.list M])⟩,some ⟨.lst .leaf,.list ss⟩,some ⟨.leaf,.int (r:Nat)⟩,some ⟨.leaf,.int c⟩,x9,none,none]) (c6 _ rfl rfl rfl) rfl (by simp)
 have t:bOf gBool (eOp gEq (eVar 9) (eList .leaf eNil)) [some ⟨.leaf,.list xs⟩,some ⟨.leaf,.int at'⟩,some ⟨.leaf,.int lim⟩,some ⟨.leaf,.int many⟩,some ⟨.lst .leaf,.list (os++[.int (drw c 0 2)])⟩,some ⟨.lst .leaf,.list (ms++[.list M])⟩,some ⟨.lst .leaf,.list ss⟩,some ⟨.leaf,.int (r:Nat)⟩,some ⟨.leaf,.int c⟩,some ⟨.leaf,.list (ts.map .int)⟩,none,none]
   = .ok (decide ((ts.map PyData.int).length=0)) _:=zAY (v_op (zAC rfl) (zDP (s:=.leaf) v_nil rfl rfl rfl) (eq_nil (zIX zGB)))
 cases hz:decide ((ts.map PyData.int).length=0) with
 | true=>
  rw [hz] at t
  obtain ⟨o',m',s',y8,y9,f1,f2⟩:=fin _ [drw c (4+many) many] ⟨by simp,by simp,fun t ht=>by rw [List.mem_singleton.mp ht];exact zKI (by omega) (by omega) (by omega) (by omega),List.pairwise_singleton _ _⟩ rfl
  exact ⟨o',m',s',y8,y9,x_seq e1 (x_seq e2 (x_seq e3 (x_seq e4 (x_seq (x_if t (fun _=>zA0 (zDP (s:=.leaf) (zAE (zAT (zAE (zAC rfl) (zAE (v_op v_k (zAC rfl) add_int') (zAE (zAC rfl) v_nil))) (zFY (by omega) (by omega) (by omega) (by omega)) rfl rfl) v_nil) rfl rfl rfl) rfl (by simp)) nofun) f1)))),f2⟩
 | false=>
  rw [hz] at t
  obtain ⟨o',m',s',y8,y9,f1,f2⟩:=fin _ ts ⟨by omega,(fun z=>by rw [z] at hz;cases hz),(fun t ht=>by have:=hts1 t ht;omega),hts2⟩ rfl
  exact ⟨o',m',s',y8,y9,x_seq e1 (x_seq e2 (x_seq e3 (x_seq e4 (x_seq (x_if t nofun (fun _=>rfl)) f1)))),f2⟩
theorem den_world {xs:List D} {at' lim:Int} (hx:RowI xs) (ha:0<=at') (hl:1<=lim) (hl2:lim<=24):∃(n:Nat) (os ms ss:List D),m__law_world [.list xs,.int at',.int lim]=.ok ⟨W3,tup3 os ms ss⟩/\Gw (n:Int) n os ms ss/\1<=n/\(n:Int)<=lim:=by
 obtain ⟨c,hc⟩:=zGF hx (k:=at') ha
 have b0:0<=c % lim:=Int.emod_nonneg _ (by omega)
 have b1:c % lim<lim:=Int.emod_lt_of_pos _ (by omega)
 generalize hmm:1+c % lim=many at *
 have e0:sSet false 3 (eOp gAddI (eK (.int 1)) (eOp gMod (eCall 2 zAO (eCons (eVar 0) (eCons (eVar 1) eNil))) (eVar 2))) [some ⟨.leaf,.list xs⟩,some ⟨.leaf,.int at'⟩,some ⟨.leaf,.int lim⟩,none,none,none,none,none,none,none,none,none]
   = .nx [some ⟨.leaf,.list xs⟩,some ⟨.leaf,.int at'⟩,some ⟨.leaf,.int lim⟩,some ⟨.leaf,.int many⟩,none,none,none,none,none,none,none,none]:=by
  rw [<-hmm]
  exact zA0 (v_op v_k (v_op (zAT (zAE (zAC rfl) (zAE (zAC rfl) v_nil)) hc rfl rfl) (zAC rfl) (mod_i (by omega))) add_int') rfl (by simp)
 obtain ⟨Γ',e,os,ms,ss,x7,x8,x9,hΓ,hw⟩:=zI6 (P:=fun n Γ=>∃os ms ss x7 x8 x9,Γ=[some ⟨.leaf,.list xs⟩,some ⟨.leaf,.int at'⟩,some ⟨.leaf,.int lim⟩,some ⟨.leaf,.int many⟩,some ⟨.lst .leaf,.list os⟩,some ⟨.lst .leaf,.list ms⟩,some ⟨.lst .leaf,.list ss⟩,x7,x8,x9,none,none]/\Gw many n os ms ss) (i:=7) (body:=eW) (rngD 0 many.toNat) 0
  [some ⟨.leaf,.list xs⟩,some ⟨.leaf,.int at'⟩,some ⟨.leaf,.int lim⟩,some ⟨.leaf,.int many⟩,some ⟨.lst .leaf,.list []⟩,some ⟨.lst .leaf,.list []⟩,some ⟨.lst .leaf,.list []⟩,none,none,none,none,none] ⟨[],[],[],none,none,none,rfl,rfl,rfl,rfl,fun a ha=>(nomatch ha),fun a ha=>(nomatch ha),fun a ha=>(nomatch ha)⟩ (fun m d Γ hd h1 h2 ⟨os,ms,ss,x7,x8,x9,hΓ,hw⟩=>by
   subst hΓ
   obtain ⟨k,hk,rfl⟩:=zH8 hd
   rw [zIY] at h2
   rw [Int.zero_add]
   obtain ⟨os',ms',ss',y8,y9,f1,f2⟩:=body_world (at':=at') (lim:=lim) (many:=many) (x8:=x8) (x9:=x9) hx ha (by omega) (by omega) hw (by omega) (r:=k)
   exact ⟨by simp,_,f1,os',ms',ss',_,y8,y9,rfl,f2⟩)
 subst hΓ
 rw [zIY,Nat.zero_add] at hw
 have en:((many.toNat:Nat):Int)=many:=by omega
 refine ⟨many.toNat,os,ms,ss,rt_of (x_seq e0 (x_seq (zHX (zDP (s:=.leaf) v_nil rfl rfl rfl) rfl (by simp)) (x_seq (zHX (zDP (s:=.leaf) v_nil rfl rfl rfl) rfl (by simp)) (x_seq (zHX (zDP (s:=.leaf) v_nil rfl rfl rfl) rfl (by simp)) (x_seq (x_for (w_r1 (k:=many) (zAE (zAC rfl) v_nil) rfl (by omega) (by omega)) e) (x_ret (v_tup (zAE (zJH (p:=⟨.lst .leaf,.list os⟩) rfl) (zAE (zJH (p:=⟨.lst .leaf,.list ms⟩) rfl) (zAE (zJH (p:=⟨.lst .leaf,.list ss⟩) rfl) v_nil))) rfl rfl) rfl)))))),by rw [en];exact hw,by omega,by omega⟩
end KQ
namespace KC
open PySem PySem.Spec L2 T
open PyProof.Rows hiding St
def zEZ:FS:=(sRet (eAnd (eOp (gIsN true) (eVar 0) (eK .none)) (eAnd (eOp (gIsN true) (eVar 1) (eK .none)) (eOp gLt (eVar 0) (eVar 1)))))
def zDL:List PySem.PyData->Res:=denOf 2 zEZ
def zE6:FS:=(sRet (eComp .leaf 3 (iSeq (eIdx (eIdx (eVar 0) (eK (.int 2))) (eVar 2))) (bOf gTru (eCall 2 zDL (eCons (eIdx (eVar 1) (eVar 3)) (eCons (eIdx (eVar 1) (eVar 2)) eNil)))) (eVar 3)))
def zBS:List PySem.PyData->Res:=denOf 4 zE6
def zEN:FS:=(sIf (bOf gBool (eOp (gIn true) (eVar 0) (eK zBG))) sNo sNext)
def zA7:List PySem.PyData->Res:=denOf 1 zEN
def zE7:FS:=(sIf (bNot (bOf gTru (eCall 2 zBK (eCons (eVar 1) (eCons (eCB gLen (eCons (eIdx (eVar 0) (eK (.int 0))) eNil)) eNil))))) sNo sNext)
def zCD:List PySem.PyData->Res:=denOf 2 zE7
def zEM:FS:=(sRet (eOp gSub (eK (.int 1)) (eVar 0)))
def zBZ:List PySem.PyData->Res:=denOf 1 zEM
def d_is_plan_of:FS:=(sSeq (sIf (bOf gBool (eOp gNe (eCB gLen (eCons (eVar 2) eNil)) (eCB gLen (eCons (eIdx (eVar 0) (eK (.int 0))) eNil)))) (sRet (eK (.bool false))) sNext)
  (sSeq (sSet false 3 (zCI .leaf 4 5 (eVar 2) (bOf gBool (eOp (gIsN true) (eVar 5) (eK .none))) (eVar 4)))
  (sRet (eCB (gAll false) (eCons (eComp .leaf 4 (iSeq (eVar 3)) bTrue (eAnd (eOp gEq (eIdx (eIdx (eVar 0) (eK (.int 0))) (eVar 4)) (eVar 1)) (eOp (gIn false) (eIdx (eVar 2) (eVar 4)) (eIdx (eIdx (eVar 0) (eK (.int 2))) (eVar 4))))) eNil)))))
def zC1:List PySem.PyData->Res:=denOf 6 d_is_plan_of
def zF0:FS:=(sIf (bNot (bOf gTru (eCall 3 zC1 (eCons (eVar 0) (eCons (eVar 1) (eCons (eVar 2) eNil)))))) sNo sNext)
def zBB:List PySem.PyData->Res:=denOf 3 zF0
def d_follow:FS:=(sSeq (sDrop (eCall 1 zAV (eCons (eVar 0) eNil)))
  (sSeq (sDrop (eCall 1 zA7 (eCons (eVar 1) eNil)))
  (sSeq (sDrop (eCall 3 zBB (eCons (eVar 0) (eCons (eVar 1) (eCons (eVar 2) eNil)))))
  (sSeq (sSet false 3 (zCI .leaf 4 5 (eIdx (eVar 0) (eK (.int 2))) bTrue (eIf (bOf gBool (eOp (gIsN false) (eIdx (eVar 2) (eVar 4)) (eK .none))) (zCO (eVar 5)) (eList .leaf (eCons (eIdx (eVar 2) (eVar 4)) eNil)))))
  (sRet (eTup (eCons (zCO (eIdx (eVar 0) (eK (.int 0)))) (eCons (eComp .leaf 5 (iSeq (eIdx (eVar 0) (eK (.int 1)))) bTrue (zCO (eVar 5))) (eCons (eVar 3) eNil)))))))))
def zHR:List PySem.PyData->Res:=denOf 6 d_follow
def zII:FS:=(sRet (zCI .leaf 3 4 (eVar 2) bTrue (eIf (bAnd (bOf gTru (eVar 4)) (bOf gBool (eOp gEq (eIdx (eIdx (eVar 0) (eK (.int 0))) (eVar 3)) (eVar 1)))) (eIdx (eVar 4) (eK (.int 0))) (eK .none))))
def zC0:List PySem.PyData->Res:=denOf 5 zII
def zFZ:FS:=(sSeq (sDrop (eCall 1 zAV (eCons (eVar 0) eNil)))
  (sSeq (sDrop (eCall 1 zA7 (eCons (eVar 1) eNil)))
  (sDrop (eCall 2 zCD (eCons (eVar 0) (eCons (eVar 2) eNil))))))
def zBH:List PySem.PyData->Res:=denOf 3 zFZ
def d_brought:FS:=(sSeq (sSet false 3 (eCB gLen (eCons (eIdx (eVar 0) (eK (.int 0))) eNil)))
  (sSeq (sSet false 4 (eCall 4 zEX (eCons (eVar 0) (eCons (eComp .leaf 5 (iSeq (eIdx (eVar 0) (eK (.int 0)))) bTrue (eOp gEq (eVar 5) (eVar 1))) (eCons (eLR (eCons (eVar 3) eNil)) (eCons (eVar 2) eNil))))))
  (sRet (eTup (eCons (eVar 4) (eCons (eCall 3 zC0 (eCons (eVar 0) (eCons (eVar 1) (eCons (eComp .leaf 6 (iR1 (eCons (eVar 3) eNil)) bTrue (eCall 3 zBS (eCons (eVar 0) (eCons (eVar 4) (eCons (eVar 6) eNil))))) eNil)))) eNil))))))
def zC3:List PySem.PyData->Res:=denOf 7 d_brought
def zJ4:FS:=(sSeq (sDrop (eCall 3 zBH (eCons (eVar 0) (eCons (eVar 1) (eCons (eVar 2) eNil)))))
  (sRet (eCall 3 zC3 (eCons (eVar 0) (eCons (eVar 1) (eCons (eVar 2) eNil))))))
def zI2:List PySem.PyData->Res:=denOf 3 zJ4
def zD2:FS:=(sRet (zCI .leaf 1 2 (eVar 0) (bOf gBool (eOp (gIsN false) (eVar 2) (eK .none))) (eVar 1)))
def zBQ:List PySem.PyData->Res:=denOf 3 zD2
def zEL:FS:=(sRet (eComp .leaf 3 (iSeq (eIdx (eIdx (eVar 0) (eK (.int 2))) (eVar 2))) (bAnd (bOf gBool (eOp (gIn false) (eVar 2) (eVar 1))) (bOf gBool (eOp (gIn false) (eVar 3) (eVar 1)))) (eVar 3)))
def zBN:List PySem.PyData->Res:=denOf 4 zEL
def d_keep:FS:=(sSeq (sDrop (eCall 3 zBH (eCons (eVar 0) (eCons (eVar 1) (eCons (eVar 2) eNil)))))
  (sSeq (sSet false 3 (eCall 3 zC3 (eCons (eVar 0) (eCons (eCall 1 zBZ (eCons (eVar 1) eNil)) (eCons (eCall 2 zCC (eCons (eVar 0) (eCons (eVar 2) eNil))) eNil)))))
  (sSeq (sSet false 4 (eCall 1 zBQ (eCons (eIdx (eVar 3) (eK (.int 0))) eNil)))
  (sSeq (sSet false 5 (eCall 3 zC0 (eCons (eVar 0) (eCons (eVar 1) (eCons (eComp .leaf 6 (iR1 (eCons (eCB gLen (eCons (eIdx (eVar 0) (eK (.int 0))) eNil)) eNil)) bTrue (eCall 3 zBN (eCons (eVar 0) (eCons (eVar 4) (eCons (eVar 6) eNil))))) eNil)))))
  (sRet (eTup (eCons (eVar 4) (eCons (eVar 5) (eCons (eIdx (eVar 3) (eK (.int 0))) (eCons (eIdx (eVar 3) (eK (.int 1))) eNil))))))))))
def zKD:List PySem.PyData->Res:=denOf 7 d_keep
open PySem.SeqAt
theorem rmap {α:Type} {l:List α} {n:Nat} (d:α) (h:l.length=n):l=(List.range n).map fun r=>l.getD r d:=by
 apply ext_getElem?
 intro k
 rw [getElem?_map]
 by_cases hk:k<n
 ·rw [getElem?_range hk]
  show l[k]?=some (l.getD k d)
  rw [getD_eq_getElem?_getD,getElem?_eq_getElem (by omega)]
  rfl
 ·rw [getElem?_eq_none (by omega),getElem?_eq_none (by simp;omega)]
  rfl
theorem R1_of {n:Nat} {fl:FL} {Γ:Ev} {s:Sh} (hn:n<=1000) (h:fl Γ=.ok [⟨s,.int (n:Int)⟩] Γ):iR1 fl Γ=.ok ⟨(List.range n).map rm,true⟩ Γ:=by
 rw [w_r1 (k:=(n:Int)) h rfl (by omega) (by omega),Int.toNat_natCast,zJR]
theorem LR_of {n:Nat} {fl:FL} {Γ:Ev} {s:Sh} (hn:n<=1000) (h:fl Γ=.ok [⟨s,.int (n:Int)⟩] Γ):eLR fl Γ=.ok ⟨.lst .leaf,rms (List.range n)⟩ Γ:=by
 rw [v_LR (k:=(n:Int)) h rfl (by omega) (by omega),Int.toNat_natCast,zJR]
section
variable {i j:Nat} {fc:FB} {fe:F1} {s:Sh} {Γ:Ev} {e:Nat->D} {c:Nat->Bool} {f:Nat->PV}
abbrev Γ2 (Γ:Ev) (i j:Nat) (e:Nat->D) (r:Nat):Ev:=(Γ.set i (some ⟨.leaf,.int (r:Nat)⟩)).set j (some ⟨.leaf,e r⟩)
theorem zHF (hij:i≠j) (hΓ:(Γ.set i none).set j none=Γ):∀(m k:Nat) (acc:List D),(∀r,k<=r->r<k+m->fc (Γ2 Γ i j e r)=.ok (c r) (Γ2 Γ i j e r)) ->
  (∀r,k<=r->r<k+m->c r=true->fe (Γ2 Γ i j e r)=.ok (f r) (Γ2 Γ i j e r)/\coer s (f r)=true)->acc.length+m<=sizeLine->zD4 i j fc fe s k ((List.range' k m).map e) Γ acc=.ok (acc++(((List.range' k m).filter c).map fun r=>(f r).d)) Γ
 | 0,k,acc,_,_,_=>by simp [zD4]
 | m+1,k,acc,hc,he,hl=>by
  have h1:=hc k (Nat.le_refl _) (by omega)
  have hl1:acc.length<sizeLine:=by omega
  have back:((Γ2 Γ i j e k).set i none).set j none=Γ:=by
   unfold Γ2
   rw [List.set_comm _ _ (Ne.symm hij),set_set,set_set]
   exact hΓ
  rw [List.range'_succ,map_cons,zD4]
  have h1:fc ((Γ.set i (some ⟨.leaf,.int (k:Nat)⟩)).set j (some ⟨.leaf,e k⟩))=_:=h1
  rw [h1]
  cases hcd:c k with
  | false=>
   dsimp only
   rw [if_pos hl1,back,zHF hij hΓ m (k+1) acc (fun r h1 h2=>hc r (by omega) (by omega)) (fun r h1 h2=>he r (by omega) (by omega)) (by omega)]
   rw [List.filter_cons_of_neg (by rw [hcd];exact Bool.false_ne_true)]
  | true=>
   obtain ⟨h2,h3⟩:=he k (Nat.le_refl _) (by omega) hcd
   dsimp only
   rw [h2]
   dsimp only
   rw [h3,decide_eq_true hl1,Bool.and_self,if_pos rfl,back,zHF hij hΓ m (k+1) (acc++[(f k).d]) (fun r h1 h2=>hc r (by omega) (by omega)) (fun r h1 h2=>he r (by omega) (by omega)) (by simp only [length_append,length_cons,List.length_nil];omega)]
   rw [List.filter_cons_of_pos hcd,map_cons,append_assoc]
   rfl
theorem zIG (e:Nat->D) (n:Nat) (c:Nat->Bool) (f:Nat->PV) {fa:F1} {st:Bool} (hi:iSeq fa Γ=.ok ⟨(List.range n).map e,st⟩ Γ) (h1:Γ[i]?=some none) (h2:Γ[j]?=some none) (hij:i≠j) (hs:s.isView=false) (hn:n<=10000)
  (hc:∀r,r<n->fc (Γ2 Γ i j e r)=.ok (c r) (Γ2 Γ i j e r)) (he:∀r,r<n->c r=true->fe (Γ2 Γ i j e r)=.ok (f r) (Γ2 Γ i j e r)/\coer s (f r)=true) :
  zCI s i j fa fc fe Γ=.ok ⟨.lst s,.list (((List.range n).filter c).map fun r=>(f r).d)⟩ Γ:=by
 have hb:(10000:Nat)<=sizeLine:=by decide
 unfold zCI
 rw [hi]
 unfold Out.bind
 dsimp only
 rw [h1,h2,hs]
 have hΓ:(Γ.set i none).set j none=Γ:=by rw [zC8 h1,zC8 h2]
 rw [List.range_eq_range',zHF (c:=c) (f:=f) hij hΓ n 0 [] (fun r _ h=>hc r (by omega)) (fun r _ h=>he r (by omega)) (by simp;omega)]
 rfl
theorem eCompE_ixA (e:Nat->D) (n:Nat) (f:Nat->PV) {fa:F1} {st:Bool} (hi:iSeq fa Γ=.ok ⟨(List.range n).map e,st⟩ Γ) (h1:Γ[i]?=some none) (h2:Γ[j]?=some none) (hij:i≠j) (hs:s.isView=false) (hn:n<=10000)
  (he:∀r,r<n->fe (Γ2 Γ i j e r)=.ok (f r) (Γ2 Γ i j e r)/\coer s (f r)=true) :
  zCI s i j fa bTrue fe Γ=.ok ⟨.lst s,.list ((List.range n).map fun r=>(f r).d)⟩ Γ:=by
 have:=zIG (fc:=bTrue) e n (fun _=>true) f hi h1 h2 hij hs hn (fun _ _=>rfl) fun r hr _=>he r hr
 rw [this,List.filter_eq_self.mpr fun _ _=>rfl]
end
theorem den_check_player {p:Int} (h:p=0\/p=1):zA7 [.int p]=.ok ⟨.leaf,.none⟩:=by
 have:gIn true (.int p) zBG=some (.bool false):=by rcases h with rfl | rfl<;>kernel_rfl
 refine nx_of (Γ:=zAL 1 [.int p]) ?_
 simp [zEN,zAL,this]
theorem zJS {r:List Nat}:r.map rm=(r.map fun t:Nat=>(t:Int)).map PyData.int:=by rw [map_map];rfl
theorem Std.sorted {n:Nat} {L:List Nat} (h:Std n L):L.Pairwise (· < ·):=by
 obtain ⟨q,rfl⟩:=h
 exact List.Pairwise.filter _ List.pairwise_lt_range
theorem den_rooms_ok {n:Nat} (h24:n<=24) {R:List Nat} (h:Std n R):zBK [rms R,.int (n:Int)]=.ok ⟨.leaf,.bool true⟩:=by
 have hl:=h.len
 rw [rms,zJS,den_are_rooms zGB (by simp;omega)]
 have h1:((R.map fun t:Nat=>(t:Int)).map PyData.int).all (inR (n:Int))=true:=by
  rw [all_eq_true]
  intro d hd
  obtain ⟨i,hi,rfl⟩:=List.mem_map.mp hd
  obtain ⟨t,ht,rfl⟩:=List.mem_map.mp hi
  have:=h.lt t ht
  simp [inR]
  omega
 have h2:rises ((R.map fun t:Nat=>(t:Int)).map PyData.int)=true:=rises_of (by
  rw [pairwise_map]
  exact h.sorted.imp fun h=>by omega)
 rw [h1,h2]
 rfl
theorem den_check_rooms {w:Wd} (ok:w.Ok) {R:List Nat} (h:Std w.n R):zCD [w.enc,rms R]=.ok ⟨.leaf,.none⟩:=by
 have lo:=ok.g.lo
 have:=den_rooms_ok ok.h24 h
 refine nx_of (Γ:=zAL 2 [w.enc,rms R]) ?_
 simp [zE7,zAL,Wd.enc,tup3,lo,this]
theorem den_check_told {w:Wd} (ok:w.Ok) {p:Int} (hp:p=0\/p=1) {R:List Nat} (h:Std w.n R):zBH [w.enc,.int p,rms R]=.ok ⟨.leaf,.none⟩:=by
 have c1:=ok.check
 have c2:=den_check_player hp
 have c3:=den_check_rooms ok h
 refine nx_of (Γ:=zAL 3 [w.enc,.int p,rms R]) ?_
 simp [zFZ,zAL,c1,c2,c3]
theorem Wd.Ok0.s_range {w:Wd} (ok:w.Ok0):w.s.map rms=(List.range w.n).map fun r=>rms (w.stp r):=by
 conv=>lhs;rw [rmap (l:=w.s) [] ok.ls]
 rw [map_map]
 rfl
def isI (p:Int):D->Bool
 | .int o=>o==p
 | _=>false
def own (w:Wd) (p:Int):Nat->Bool:=chA (w.os.map (isI p))
theorem Wd.Ok.o_at {w:Wd} (ok:w.Ok) {r:Nat} (hr:r<w.n):∃o:Int,(o=0\/o=1)/\atI w.os (r:Int)=some (.int o)/\∀p,own w p r=(o==p):=by
 have hl:r<w.os.length:=by rw [ok.g.lo];exact hr
 have hm:=ok.g.o _ (getElem_mem hl)
 have key:∀o:Int,w.os[r]=.int o->atI w.os (r:Int)=some (.int o)/\∀p,own w p r=(o==p):=fun o e=>by
  refine ⟨zIS (by rw [getElem?_eq_getElem hl,e]),fun p=>?_⟩
  unfold own chA
  rw [getD_eq_getElem?_getD,getElem?_map,getElem?_eq_getElem hl,e]
  rfl
 rcases hm with e | e
 ·exact ⟨0,.inl rfl,key 0 e⟩
 ·exact ⟨1,.inr rfl,key 1 e⟩
theorem zJV {w:Wd} (ok:w.Ok) {p:Int} (hp:p=0\/p=1) {r:Nat} (hr:r<w.n):own w (1-p) r=!own w p r:=by
 obtain ⟨o,ho,_,h⟩:=ok.o_at hr
 rw [h,h]
 rcases ho with rfl | rfl<;>rcases hp with rfl | rfl<;>rfl
def lowB:Option Nat->Option Nat->Bool
 | some a,some b=>decide (a<b)
 | _,_=>false
theorem den_lower {a b:Option Nat}:zDL [oD a,oD b]=.ok ⟨.leaf,.bool (lowB a b)⟩:=by
 refine rt_of ?_
 cases a with
 | none=>simp [zEZ,zAL,oD,lowB,zD0]
 | some a=>
  cases b with
  | none=>simp [zEZ,zAL,oD,lowB,zD0]
  | some b=>simp [zEZ,zAL,oD,lowB,zD0]
def lows (w:Wd) (rk:List (Option Nat)) (r:Nat):List Nat:=(w.stp r).filter fun t=>lowB (rkA rk t) (rkA rk r)
theorem den_lower_steps {w:Wd} (ok:w.Ok) {rk:List (Option Nat)} (hl:rk.length=w.n) {r:Nat} (hr:r<w.n):zBS [w.enc,rks rk,rm r]=.ok ⟨.lst .leaf,rms (lows w rk r)⟩:=by
 have a2:=ok.at2 hr
 have a1:=at_rk (rk:=rk) (t:=r) (by omega)
 have e:eComp .leaf 3 (iSeq (eIdx (eIdx (eVar 0) (eK (.int 2))) (eVar 2))) (bOf gTru (eCall 2 zDL (eCons (eIdx (eVar 1) (eVar 3)) (eCons (eIdx (eVar 1) (eVar 2)) eNil)))) (eVar 3) (zAL 4 [w.enc,rks rk,rm r])=.ok ⟨.lst .leaf,.list ((lows w rk r).map fun t=>rm t)⟩ (zAL 4 [w.enc,rks rk,rm r]):=by
  refine zDA rm (w.stp r) (fun t=>lowB (rkA rk t) (rkA rk r)) (fun t=>⟨.leaf,rm t⟩) (st:=true) (by simp [zAL,Wd.enc,tup3,a2]) (by simp [zAL]) rfl ok.z.len (fun t ht=>?_) (fun t ht _=>?_)
  ·have a3:=at_rk (rk:=rk) (t:=t) (by rw [hl];exact ok.stp_lt ht)
   have dl:=den_lower (a:=rkA rk t) (b:=rkA rk r)
   simp [zAL,a1,a3,dl]
  ·simp [zAL]
 refine rt_of ?_
 unfold zE6
 rw [r_ret,e]
 rfl
def zAS (w:Wd) (p:Int) (sd:Nat->List Nat):List (Option Nat):=(List.range w.n).map fun r=>if own w p r then (sd r).head? else none
theorem zFT {w:Wd} {p:Int} {sd:Nat->List Nat} {r:Nat} (hr:r<w.n):rkA (zAS w p sd) r=if own w p r then (sd r).head? else none:=by
 unfold rkA zAS
 rw [getD_eq_getElem?_getD,getElem?_map,getElem?_range hr]
 rfl
theorem den_plan_of {w:Wd} (ok:w.Ok) {p:Int} {sd:Nat->List Nat}:zC0 [w.enc,.int p,.list ((List.range w.n).map fun r=>rms (sd r))]=.ok ⟨.lst .leaf,rks (zAS w p sd)⟩:=by
 have h24:=ok.h24
 have e:zCI .leaf 3 4 (eVar 2) bTrue (eIf (bAnd (bOf gTru (eVar 4)) (bOf gBool (eOp gEq (eIdx (eIdx (eVar 0) (eK (.int 0))) (eVar 3)) (eVar 1)))) (eIdx (eVar 4) (eK (.int 0))) (eK .none)) (zAL 5 [w.enc,.int p,.list ((List.range w.n).map fun r=>rms (sd r))])=.ok ⟨.lst .leaf,.list ((List.range w.n).map fun r=>(⟨.leaf,oD (if own w p r then (sd r).head? else none)⟩:PV).d)⟩ (zAL 5 [w.enc,.int p,.list ((List.range w.n).map fun r=>rms (sd r))]):=by
  refine eCompE_ixA (fun r=>rms (sd r)) w.n (fun r=>⟨.leaf,oD (if own w p r then (sd r).head? else none)⟩) (st:=true) (by simp [zAL]) rfl rfl (by omega) rfl (by omega) (fun r hr=>⟨?_,rfl⟩)
  obtain ⟨o,_,a0,ho⟩:=ok.o_at hr
  rw [ho p]
  cases hs:sd r with
  | nil=>simp [Γ2,zAL,hs,oD]
  | cons t l=>
   by_cases eo:o=p
   ·simp [Γ2,zAL,hs,Wd.enc,tup3,a0,eq_int,eo,oD]
   ·simp [Γ2,zAL,hs,Wd.enc,tup3,a0,eq_int,eo,oD]
 refine rt_of ?_
 unfold zII
 rw [r_ret,e]
 simp [zAS]
theorem den_brought {w:Wd} (ok:w.Ok) {p:Int} {R:List Nat} (hR:Std w.n R) :
  ∃rk,zC3 [w.enc,.int p,rms R]=.ok ⟨.tup [.leaf,.lst .leaf],.tuple [rks rk,rks (zAS w p (lows w rk))]⟩/\RightG w.n w.stp (own w p) (List.range w.n) R rk/\Few w.stp (own w p) R rk:=by
 have lo:=ok.g.lo
 have h24:=ok.h24
 obtain ⟨rk,e,Rt,fw⟩:=den_ranks_to ok.z (cl:=w.os.map (isI p)) (thr:=List.range w.n) (goal:=R) (by rw [length_map];exact lo) (fun r hr=>ok.stp_ne (List.mem_range.mp hr)) (fun r hr=>List.mem_range.mp hr) (by simp;omega) hR.lt (by have:=hR.len;omega)
 refine ⟨rk,?_,Rt,fw⟩
 have c1:eComp .leaf 5 (iSeq (eIdx (eVar 0) (eK (.int 0)))) bTrue (eOp gEq (eVar 5) (eVar 1)) [some ⟨.leaf,w.enc⟩,some ⟨.leaf,.int p⟩,some ⟨.leaf,rms R⟩,some ⟨.leaf,.int (w.n:Int)⟩,none,none,none]=.ok ⟨.lst .leaf,chs (w.os.map (isI p))⟩ [some ⟨.leaf,w.enc⟩,some ⟨.leaf,.int p⟩,some ⟨.leaf,rms R⟩,some ⟨.leaf,.int (w.n:Int)⟩,none,none,none]:=by
  have:=zD1 (fun d:D=>d) w.os (fun d=>⟨.leaf,.bool (isI p d)⟩) (s:=.leaf) (i:=5) (fi:=iSeq (eIdx (eVar 0) (eK (.int 0)))) (fe:=eOp gEq (eVar 5) (eVar 1)) (st:=true) (Γ:=[some ⟨.leaf,w.enc⟩,some ⟨.leaf,.int p⟩,some ⟨.leaf,rms R⟩,some ⟨.leaf,.int (w.n:Int)⟩,none,none,none]) (by simp [Wd.enc,tup3]) (by simp) rfl (by omega) (fun d hd=>by
   rcases ok.g.o d hd with rfl | rfl<;>simp [eq_int,isI])
  rw [this]
  simp
 have c2:eLR (eCons (eVar 3) eNil) [some ⟨.leaf,w.enc⟩,some ⟨.leaf,.int p⟩,some ⟨.leaf,rms R⟩,some ⟨.leaf,.int (w.n:Int)⟩,none,none,none]=.ok ⟨.lst .leaf,rms (List.range w.n)⟩ [some ⟨.leaf,w.enc⟩,some ⟨.leaf,.int p⟩,some ⟨.leaf,rms R⟩,some ⟨.leaf,.int (w.n:Int)⟩,none,none,none]:=by
  exact LR_of (s:=.leaf) (n:=w.n) (by omega) (by simp)
 have c3:eComp .leaf 6 (iR1 (eCons (eVar 3) eNil)) bTrue (eCall 3 zBS (eCons (eVar 0) (eCons (eVar 4) (eCons (eVar 6) eNil)))) [some ⟨.leaf,w.enc⟩,some ⟨.leaf,.int p⟩,some ⟨.leaf,rms R⟩,some ⟨.leaf,.int (w.n:Int)⟩,some ⟨.leaf,rks rk⟩,none,none]=.ok ⟨.lst .leaf,.list ((List.range w.n).map fun r=>rms (lows w rk r))⟩ [some ⟨.leaf,w.enc⟩,some ⟨.leaf,.int p⟩,some ⟨.leaf,rms R⟩,some ⟨.leaf,.int (w.n:Int)⟩,some ⟨.leaf,rks rk⟩,none,none]:=by
  refine zD1 rm (List.range w.n) (fun r=>⟨.lst .leaf,rms (lows w rk r)⟩) (st:=true) ?_ (by simp) rfl (by simp;omega) (fun r hr=>⟨?_,rfl⟩)
  ·exact R1_of (s:=.leaf) (n:=w.n) (by omega) (by simp)
  ·have:=den_lower_steps ok Rt.len (List.mem_range.mp hr)
   simp [this]
 have pl:=den_plan_of ok (p:=p) (sd:=lows w rk)
 refine rt_of (x_seq (Γ1:=[some ⟨.leaf,w.enc⟩,some ⟨.leaf,.int p⟩,some ⟨.leaf,rms R⟩,some ⟨.leaf,.int (w.n:Int)⟩,none,none,none]) (by simp [zAL,Wd.enc,tup3,lo]) (x_seq (zA0 (zAT (zAE (zAC rfl) (zAE c1 (zAE c2 (zAE (zAC rfl) v_nil)))) e rfl rfl) rfl (by simp)) (x_ret (v_tup (zAE (zAC rfl) (zAE (zAT (zAE (zAC rfl) (zAE (zAC rfl) (zAE c3 v_nil))) pl rfl rfl) v_nil)) rfl rfl) rfl)))
theorem den_bring {w:Wd} (ok:w.Ok) {p:Int} (hp:p=0\/p=1) {R:List Nat} (hR:Std w.n R) :
  ∃rk,zI2 [w.enc,.int p,rms R]=.ok ⟨.tup [.leaf,.lst .leaf],.tuple [rks rk,rks (zAS w p (lows w rk))]⟩/\RightG w.n w.stp (own w p) (List.range w.n) R rk/\Few w.stp (own w p) R rk:=by
 obtain ⟨rk,e,h⟩:=den_brought ok (p:=p) hR
 refine ⟨rk,?_,h⟩
 have c:=den_check_told ok hp hR
 refine rt_of ?_
 simp [zJ4,zAL,c,e]
def noR (n:Nat) (rk:List (Option Nat)):List Nat:=(List.range n).filter fun r=>(rkA rk r).isNone
theorem zJY {n:Nat} {rk:List (Option Nat)} {r:Nat}:r∈noR n rk↔r<n/\rkA rk r=none:=by unfold noR;simp
theorem zG2 {rk:List (Option Nat)} {n:Nat} (h:rk.length=n):rk.map oD=(List.range n).map fun r=>oD (rkA rk r):=by
 conv=>lhs;rw [rmap (l:=rk) none h]
 rw [map_map]
 rfl
theorem den_without {n:Nat} {rk:List (Option Nat)} (h:rk.length=n) (hn:n<=1000):zBQ [rks rk]=.ok ⟨.lst .leaf,rms (noR n rk)⟩:=by
 have e:zCI .leaf 1 2 (eVar 0) (bOf gBool (eOp (gIsN false) (eVar 2) (eK .none))) (eVar 1) (zAL 3 [rks rk])=.ok ⟨.lst .leaf,.list ((noR n rk).map fun r=>rm r)⟩ (zAL 3 [rks rk]):=by
  refine zIG (fun r=>oD (rkA rk r)) n (fun r=>(rkA rk r).isNone) (fun r=>⟨.leaf,rm r⟩) (st:=true) ?_ rfl rfl (by omega) rfl (by omega) (fun r hr=>?_) (fun r hr _=>?_)
  ·simp only [zAL,rks,zG2 h]
   simp
  ·simp [Γ2,zAL]
  ·simp [Γ2,zAL]
 refine rt_of ?_
 unfold zD2
 rw [r_ret,e]
 rfl
def wthn (w:Wd) (K:List Nat) (r:Nat):List Nat:=(w.stp r).filter fun t=>K.contains r&&K.contains t
theorem den_within' {w:Wd} (ok:w.Ok) {K:List Nat} {r:Nat} (hr:r<w.n):zBN [w.enc,rms K,rm r]=.ok ⟨.lst .leaf,rms (wthn w K r)⟩:=by
 have a2:=ok.at2 hr
 have e:eComp .leaf 3 (iSeq (eIdx (eIdx (eVar 0) (eK (.int 2))) (eVar 2))) (bAnd (bOf gBool (eOp (gIn false) (eVar 2) (eVar 1))) (bOf gBool (eOp (gIn false) (eVar 3) (eVar 1)))) (eVar 3) (zAL 4 [w.enc,rms K,rm r])=.ok ⟨.lst .leaf,.list ((wthn w K r).map fun t=>rm t)⟩ (zAL 4 [w.enc,rms K,rm r]):=by
  refine zDA rm (w.stp r) (fun t=>K.contains r&&K.contains t) (fun t=>⟨.leaf,rm t⟩) (st:=true) (by simp [zAL,Wd.enc,tup3,a2]) (by simp [zAL]) rfl ok.z.len (fun t ht=>?_) (fun t ht _=>?_)
  ·exact b_and (zAY (s:=.leaf) (v_op (zAC rfl) (zAC rfl) zKF)) (zAY (s:=.leaf) (v_op (zAC rfl) (zAC rfl) zKF))
  ·simp [zAL]
 refine rt_of ?_
 unfold zEL
 rw [r_ret,e]
 rfl
theorem den_other_player {p:Int}:zBZ [.int p]=.ok ⟨.leaf,.int (1-p)⟩:=by
 refine rt_of ?_
 simp [zEM,zAL]
theorem den_keep {w:Wd} (ok:w.Ok) {p:Int} (hp:p=0\/p=1) {R:List Nat} (hR:Std w.n R) :
  ∃rk,zKD [w.enc,.int p,rms R]=.ok ⟨.tup [.leaf,.leaf,.leaf,.leaf],.tuple [rms (noR w.n rk),rks (zAS w p (wthn w (noR w.n rk))),rks rk,rks (zAS w (1-p) (lows w rk))]⟩/\RightG w.n w.stp (own w (1-p)) (List.range w.n) ((List.range w.n).filter fun t=>!R.contains t) rk:=by
 have lo:=ok.g.lo
 have h24:=ok.h24
 obtain ⟨rk,e,Rt,_⟩:=den_brought ok (p:=1-p) (R:=(List.range w.n).filter fun t=>!R.contains t) (Std.of _)
 refine ⟨rk,?_,Rt⟩
 have c:=den_check_told ok hp hR
 have co:=den_other_rooms ok (r:=R)
 have cp:=den_other_player (p:=p)
 have cw:=den_without Rt.len (by omega)
 have pl:=den_plan_of ok (p:=p) (sd:=wthn w (noR w.n rk))
 have c3:eComp .leaf 6 (iR1 (eCons (eCB gLen (eCons (eIdx (eVar 0) (eK (.int 0))) eNil)) eNil)) bTrue (eCall 3 zBN (eCons (eVar 0) (eCons (eVar 4) (eCons (eVar 6) eNil)))) [some ⟨.leaf,w.enc⟩,some ⟨.leaf,.int p⟩,some ⟨.leaf,rms R⟩,some ⟨.leaf,.tuple [rks rk,rks (zAS w (1-p) (lows w rk))]⟩,some ⟨.leaf,rms (noR w.n rk)⟩,none,none]=.ok ⟨.lst .leaf,.list ((List.range w.n).map fun r=>rms (wthn w (noR w.n rk) r))⟩ [some ⟨.leaf,w.enc⟩,some ⟨.leaf,.int p⟩,some ⟨.leaf,rms R⟩,some ⟨.leaf,.tuple [rks rk,rks (zAS w (1-p) (lows w rk))]⟩,some ⟨.leaf,rms (noR w.n rk)⟩,none,none]:=by
  refine zD1 rm (List.range w.n) (fun r=>⟨.lst .leaf,rms (wthn w (noR w.n rk) r)⟩) (st:=true) ?_ (by simp) rfl (by simp;omega) (fun r hr=>⟨?_,rfl⟩)
  ·exact R1_of (s:=.leaf) (n:=w.n) (by omega) (by simp [Wd.enc,tup3,lo])
  ·have:=den_within' ok (K:=noR w.n rk) (List.mem_range.mp hr)
   simp [this]
 refine rt_of (x_seq (zFN (zAT (zAE (zAC rfl) (zAE (zAC rfl) (zAE (zAC rfl) v_nil))) c rfl rfl)) (x_seq (zA0 (zAT (zAE (zAC rfl) (zAE (zAT (zAE (zAC rfl) v_nil) cp rfl rfl) (zAE (zAT (zAE (zAC rfl) (zAE (zAC rfl) v_nil)) co rfl rfl) v_nil))) e rfl rfl) rfl (by simp [zAL])) (x_seq (zA0 (zAT (zAE (zGK (j:=0) (zAC rfl) v_k rfl rfl rfl) v_nil) cw rfl rfl) rfl (by simp [zAL])) (x_seq (zA0 (zAT (zAE (zAC rfl) (zAE (zAC rfl) (zAE c3 v_nil))) pl rfl rfl) rfl (by simp [zAL])) (x_ret (v_tup (zAE (zAC rfl) (zAE (zAC rfl) (zAE (zGK (j:=0) (zAC rfl) v_k rfl rfl rfl) (zAE (zGK (j:=1) (zAC rfl) v_k rfl rfl rfl) v_nil)))) rfl rfl) rfl)))))
structure PlanOk (w:Wd) (p:Int) (pl:List (Option Nat)):Prop where
 len:pl.length=w.n
 st:∀r t,r<w.n->rkA pl r=some t->own w p r=true/\t∈w.stp r
theorem zFS {w:Wd} {p:Int} {sd:Nat->List Nat} (h:∀r t,r<w.n->t∈sd r->t∈w.stp r):PlanOk w p (zAS w p sd):=by
 refine ⟨by simp [zAS],fun r t hr e=>?_⟩
 rw [zFT hr] at e
 split at e
 ·rename_i ho
  exact ⟨ho,h r t hr (List.mem_of_mem_head? e)⟩
 ·cases e
def fol (w:Wd) (pl:List (Option Nat)):Wd:=⟨w.n,w.os,w.m,(List.range w.n).map fun r=>match rkA pl r with | some t=>[t] | none=>w.stp r⟩
theorem zIE {w:Wd} {pl:List (Option Nat)} {r:Nat} (hr:r<w.n):(fol w pl).stp r=match rkA pl r with | some t=>[t] | none=>w.stp r:=by
 unfold Wd.stp fol
 simp only
 rw [getD_eq_getElem?_getD,getElem?_map,getElem?_range hr]
 rfl
theorem fol_ok {w:Wd} (ok:w.Ok) {p:Int} {pl:List (Option Nat)} (h:PlanOk w p pl):(fol w pl).Ok:=by
 have row:∀r,r<w.n->w.stp r∈w.s:=fun r hr=>by
  unfold Wd.stp
  rw [getD_eq_getElem?_getD,getElem?_eq_getElem (by rw [ok.ls];exact hr)]
  exact getElem_mem _
 refine ⟨⟨ok.g.lo,ok.g.lm,by simp [fol],ok.g.o,ok.g.m,fun x hx=>?_⟩,ok.h1,ok.h24,ok.lm,by simp [fol],fun x hx=>?_,ok.mc⟩
 ·obtain ⟨l,hl,rfl⟩:=List.mem_map.mp hx
  obtain ⟨r,hr,rfl⟩:=List.mem_map.mp hl
  have hr:=List.mem_range.mp hr
  cases e:rkA pl r with
  | none=>
   simp only [e]
   exact ok.g.s _ (List.mem_map.mpr ⟨_,row r hr,rfl⟩)
  | some t=>
   simp only [e]
   have:=ok.stp_lt (h.st r t hr e).2
   refine ⟨[(t:Int)],rfl,by simp,by simp,fun i hi=>?_,List.pairwise_singleton _ _⟩
   rw [List.mem_singleton.mp hi]
   show (0:Int)<=t/\(t:Int)<(w.n:Int)
   omega
 ·obtain ⟨r,hr,rfl⟩:=List.mem_map.mp hx
  have hr:=List.mem_range.mp hr
  cases e:rkA pl r with
  | none=>simp only [e];exact ok.st _ (row r hr)
  | some t=>
   simp only [e]
   refine ⟨by simp,by simp,fun i hi=>?_⟩
   rw [List.mem_singleton.mp hi]
   exact ok.stp_lt (h.st r t hr e).2
theorem den_is_plan {w:Wd} (ok:w.Ok) {p:Int} {pl:List (Option Nat)} (h:PlanOk w p pl):zC1 [w.enc,.int p,rks pl]=.ok ⟨.leaf,.bool true⟩:=by
 have lo:=ok.g.lo
 have h24:=ok.h24
 have hl:=h.len
 have e1:zCI .leaf 4 5 (eVar 2) (bOf gBool (eOp (gIsN true) (eVar 5) (eK .none))) (eVar 4) [some ⟨.leaf,w.enc⟩,some ⟨.leaf,.int p⟩,some ⟨.leaf,rks pl⟩,none,none,none]=.ok ⟨.lst .leaf,.list (((List.range w.n).filter fun r=>!(rkA pl r).isNone).map fun r=>rm r)⟩ [some ⟨.leaf,w.enc⟩,some ⟨.leaf,.int p⟩,some ⟨.leaf,rks pl⟩,none,none,none]:=by
  refine zIG (fun r=>oD (rkA pl r)) w.n (fun r=>!(rkA pl r).isNone) (fun r=>⟨.leaf,rm r⟩) (st:=true) ?_ rfl rfl (by omega) rfl (by omega) (fun r hr=>?_) (fun r hr _=>?_)
  ·simp only [rks,zG2 h.len]
   simp
  ·simp [Γ2]
  ·simp [Γ2]
 have e2:eComp .leaf 4 (iSeq (eVar 3)) bTrue (eAnd (eOp gEq (eIdx (eIdx (eVar 0) (eK (.int 0))) (eVar 4)) (eVar 1)) (eOp (gIn false) (eIdx (eVar 2) (eVar 4)) (eIdx (eIdx (eVar 0) (eK (.int 2))) (eVar 4)))) [some ⟨.leaf,w.enc⟩,some ⟨.leaf,.int p⟩,some ⟨.leaf,rks pl⟩,some ⟨.leaf,rms ((List.range w.n).filter fun r=>!(rkA pl r).isNone)⟩,none,none]=.ok ⟨.lst .leaf,.list (((List.range w.n).filter fun r=>!(rkA pl r).isNone).map fun r=>.bool true)⟩ [some ⟨.leaf,w.enc⟩,some ⟨.leaf,.int p⟩,some ⟨.leaf,rks pl⟩,some ⟨.leaf,rms ((List.range w.n).filter fun r=>!(rkA pl r).isNone)⟩,none,none]:=by
  refine zD1 rm _ (fun r=>⟨.leaf,.bool true⟩) (st:=true) (by simp) (by simp) rfl (Nat.le_trans (length_filter_le _ _) (by simp;omega)) (fun r hr=>⟨?_,rfl⟩)
  obtain ⟨h1,h2⟩:=List.mem_filter.mp hr
  have h1:=List.mem_range.mp h1
  obtain ⟨o,_,a0,ho⟩:=ok.o_at h1
  have a1:=at_rk (rk:=pl) (t:=r) (by omega)
  have a2:=ok.at2 h1
  cases e:rkA pl r with
  | none=>rw [e] at h2;simp at h2
  | some t=>
   obtain ⟨q1,q2⟩:=h.st r t h1 e
   rw [ho p] at q1
   have q1:o=p:=by simpa using q1
   subst q1
   rw [e] at a1
   have i1:gIn false (rm t) (rms (w.stp r))=some (.bool true):=by rw [zKF];simp [q2]
   refine v_and (s:=.leaf) (b:=true) (a:=true) ?_ ?_
   ·simp [Wd.enc,tup3,a0,eq_int]
   ·simp [Wd.enc,tup3,a1,a2,oD,i1]
 have g1:gAll false [.list (((List.range w.n).filter fun r=>!(rkA pl r).isNone).map fun r=>PyData.bool true)]=some (.bool true):=by
  have:=gAll_eq' (bs:=((List.range w.n).filter fun r=>!(rkA pl r).isNone).map fun _=>true)
  rw [map_map] at this
  refine this.trans ?_
  simp
 refine rt_of (x_seq (Γ1:=zAL 6 [w.enc,.int p,rks pl]) ?_ (x_seq (zA0 e1 rfl (by simp)) (x_ret (v_cb (zAE e2 v_nil) g1) rfl)))
 simp [zAL,Wd.enc,tup3,lo,hl,ne_int]
theorem zEK {w:Wd} (ok:w.Ok) {p:Int} {pl:List (Option Nat)} (h:PlanOk w p pl):zBB [w.enc,.int p,rks pl]=.ok ⟨.leaf,.none⟩:=by
 have:=den_is_plan ok h
 refine nx_of (Γ:=zAL 3 [w.enc,.int p,rks pl]) ?_
 simp [zF0,zAL,this]
theorem den_follow {w:Wd} (ok:w.Ok) {p:Int} (hp:p=0\/p=1) {pl:List (Option Nat)} (h:PlanOk w p pl):zHR [w.enc,.int p,rks pl]=.ok ⟨.tup [.lst .leaf,.lst .leaf,.leaf],(fol w pl).enc⟩:=by
 have lo:=ok.g.lo
 have lm:=ok.lm
 have h24:=ok.h24
 have c1:=ok.check
 have c2:=den_check_player hp
 have c3:=zEK ok h
 have e1:zCI .leaf 4 5 (eIdx (eVar 0) (eK (.int 2))) bTrue (eIf (bOf gBool (eOp (gIsN false) (eIdx (eVar 2) (eVar 4)) (eK .none))) (zCO (eVar 5)) (eList .leaf (eCons (eIdx (eVar 2) (eVar 4)) eNil))) [some ⟨.leaf,w.enc⟩,some ⟨.leaf,.int p⟩,some ⟨.leaf,rks pl⟩,none,none,none]=.ok ⟨.lst .leaf,.list ((List.range w.n).map fun r=>rms (match rkA pl r with | some t=>[t] | none=>w.stp r))⟩ [some ⟨.leaf,w.enc⟩,some ⟨.leaf,.int p⟩,some ⟨.leaf,rks pl⟩,none,none,none]:=by
  refine eCompE_ixA (fun r=>rms (w.stp r)) w.n (fun r=>⟨.lst .leaf,rms (match rkA pl r with | some t=>[t] | none=>w.stp r)⟩) (st:=true) ?_ rfl rfl (by omega) rfl (by omega) (fun r hr=>⟨?_,rfl⟩)
  ·simp [Wd.enc,tup3,ok.z.s_range]
  ·have a1:=at_rk (rk:=pl) (t:=r) (by rw [h.len];exact hr)
   have b1:bOf gBool (eOp (gIsN false) (eIdx (eVar 2) (eVar 4)) (eK .none)) (Γ2 [some ⟨.leaf,w.enc⟩,some ⟨.leaf,.int p⟩,some ⟨.leaf,rks pl⟩,none,none,none] 4 5 (fun r=>rms (w.stp r)) r)=.ok (rkA pl r).isNone (Γ2 [some ⟨.leaf,w.enc⟩,some ⟨.leaf,.int p⟩,some ⟨.leaf,rks pl⟩,none,none,none] 4 5 (fun r=>rms (w.stp r)) r):=by simp [Γ2,a1]
   rw [r_eIf,b1]
   cases e:rkA pl r with
   | none=>
    have l1:zCO (eVar 5) (Γ2 [some ⟨.leaf,w.enc⟩,some ⟨.leaf,.int p⟩,some ⟨.leaf,rks pl⟩,none,none,none] 4 5 (fun r=>rms (w.stp r)) r)=.ok ⟨.lst .leaf,rms (w.stp r)⟩ (Γ2 [some ⟨.leaf,w.enc⟩,some ⟨.leaf,.int p⟩,some ⟨.leaf,rks pl⟩,none,none,none] 4 5 (fun r=>rms (w.stp r)) r):=zHQ (ds:=(w.stp r).map rm) (zAC (i:=5) rfl) rfl
    exact l1
   | some t=>
    rw [e] at a1
    simp [Γ2,a1,oD]
 have e2:eComp .leaf 5 (iSeq (eIdx (eVar 0) (eK (.int 1)))) bTrue (zCO (eVar 5)) [some ⟨.leaf,w.enc⟩,some ⟨.leaf,.int p⟩,some ⟨.leaf,rks pl⟩,some ⟨.leaf,.list ((List.range w.n).map fun r=>rms (match rkA pl r with | some t=>[t] | none=>w.stp r))⟩,none,none]=.ok ⟨.lst .leaf,.list (w.m.map txs)⟩ [some ⟨.leaf,w.enc⟩,some ⟨.leaf,.int p⟩,some ⟨.leaf,rks pl⟩,some ⟨.leaf,.list ((List.range w.n).map fun r=>rms (match rkA pl r with | some t=>[t] | none=>w.stp r))⟩,none,none]:=by
  refine zD1 txs w.m (fun r=>⟨.lst .leaf,txs r⟩) (st:=true) (by simp [Wd.enc,tup3]) (by simp) rfl (by omega) (fun r hr=>⟨?_,rfl⟩)
  exact zHQ (ds:=r.map .str) (zAC rfl) rfl
 have e3:(fol w pl).enc=.tuple [.list w.os,.list (w.m.map txs),.list ((List.range w.n).map fun r=>rms (match rkA pl r with | some t=>[t] | none=>w.stp r))]:=by
  unfold fol Wd.enc tup3
  simp
 rw [e3]
 refine rt_of (x_seq (zFN (zAT (zAE (zAC rfl) v_nil) c1 rfl rfl)) (x_seq (zFN (zAT (zAE (zAC rfl) v_nil) c2 rfl rfl)) (x_seq (zFN (zAT (zAE (zAC rfl) (zAE (zAC rfl) (zAE (zAC rfl) v_nil))) c3 rfl rfl)) (x_seq (zA0 e1 rfl (by simp)) (x_ret (v_tup (zAE (zHQ (zGK (j:=0) (zAC rfl) v_k rfl rfl rfl) rfl) (zAE e2 (zAE (zAC rfl) v_nil))) rfl rfl) rfl)))))
theorem zJZ {w:Wd} {rk:List (Option Nat)}:∀r t,r<w.n->t∈lows w rk r->t∈w.stp r:=fun r t _ h=>(List.mem_filter.mp h).1
theorem wthn_in {w:Wd} {K:List Nat}:∀r t,r<w.n->t∈wthn w K r->t∈w.stp r:=fun r t _ h=>(List.mem_filter.mp h).1
theorem mem_lows {w:Wd} {rk:List (Option Nat)} {r t:Nat}:t∈lows w rk r↔t∈w.stp r/\∃i k,rkA rk t=some i/\rkA rk r=some k/\i<k:=by
 unfold lows
 rw [List.mem_filter]
 constructor
 ·rintro ⟨h1,h2⟩
  cases e1:rkA rk t with
  | none=>rw [e1] at h2;cases rkA rk r<;>cases h2
  | some i=>
   cases e2:rkA rk r with
   | none=>rw [e1,e2] at h2;cases h2
   | some k=>rw [e1,e2] at h2;exact ⟨h1,i,k,rfl,rfl,by simpa [lowB] using h2⟩
 ·rintro ⟨h1,i,k,e1,e2,h⟩
  rw [e1,e2]
  exact ⟨h1,by simpa [lowB] using h⟩
theorem zJ3 {l:List Nat} (h:l≠[]):∃t,l.head?=some t/\t∈l:=by
 cases l with
 | nil=>exact absurd rfl h
 | cons a r=>exact ⟨a,rfl,mem_cons_self⟩
theorem bring_right {w:Wd} (ok:w.Ok) {p:Int} {R:List Nat} {rk:List (Option Nat)} (h:RightG w.n w.stp (own w p) (List.range w.n) R rk):Right (fol w (zAS w p (lows w rk))) false (List.range w.n) R rk:=by
 refine ⟨h.len,h.g,fun r k hr hg e=>?_,fun r hr e=>?_⟩
 ·have hr:r<w.n:=hr
  obtain ⟨h1,h2,h3⟩:=h.p r k hr hg e
  refine ⟨h1,h2,led_f.mpr fun t ht=>?_⟩
  rw [zIE hr,zFT hr] at ht
  cases ho:own w p r with
  | true=>
   rw [ho] at h3 ht
   obtain ⟨t',ht',j,hj,hlt⟩:=led_t.mp h3
   obtain ⟨u,hu,hm⟩:=zJ3 (l:=lows w rk r) (List.ne_nil_of_mem (mem_lows.mpr ⟨ht',j,k,hj,e,hlt⟩))
   simp only [if_true,hu,List.mem_singleton] at ht
   subst ht
   obtain ⟨_,i,k',hi,hk,hlt⟩:=mem_lows.mp hm
   rw [e] at hk
   cases hk
   exact ⟨i,hi,hlt⟩
  | false=>
   rw [ho] at h3 ht
   exact led_f.mp h3 t (by simpa using ht)
 ·have hr:r<w.n:=hr
  refine ⟨(h.z r hr e).1,.inr fun hl=>?_⟩
  have hno:=h.no hr (List.mem_range.mpr hr) e
  have hs:(fol w (zAS w p (lows w rk))).stp r=w.stp r:=by
   rw [zIE hr,zFT hr]
   have:lows w rk r=[]:=by
    rw [List.eq_nil_iff_forall_not_mem]
    intro t ht
    obtain ⟨_,i,k,_,hk,_⟩:=mem_lows.mp ht
    rw [e] at hk
    cases hk
   rw [this]
   simp
  rw [hs] at hl
  have hl:=led_f.mp hl
  cases ho:own w p r with
  | true=>
   rw [ho] at hno
   obtain ⟨t,ht⟩:=exists_mem_of_ne_nil _ (ok.stp_ne hr)
   exact hl t ht (led_f.mp hno t ht)
  | false=>
   rw [ho] at hno
   obtain ⟨t,ht,z⟩:=led_t.mp hno
   exact hl t ht z
theorem keep_right {w:Wd} (ok:w.Ok) {p:Int} (hp:p=0\/p=1) {R:List Nat} {rk:List (Option Nat)} (h:RightG w.n w.stp (own w (1-p)) (List.range w.n) R rk):Right (fol w (zAS w p (wthn w (noR w.n rk)))) true (List.range w.n) R rk:=by
 refine ⟨h.len,h.g,fun r k hr hg e=>?_,fun r hr e=>?_⟩
 ·have hr:r<w.n:=hr
  obtain ⟨h1,h2,h3⟩:=h.p r k hr hg e
  refine ⟨h1,h2,led_t.mpr ?_⟩
  have hs:(fol w (zAS w p (wthn w (noR w.n rk)))).stp r=w.stp r:=by
   rw [zIE hr,zFT hr]
   have:wthn w (noR w.n rk) r=[]:=by
    rw [List.eq_nil_iff_forall_not_mem]
    intro t ht
    have:=(List.mem_filter.mp ht).2
    simp only [Bool.and_eq_true,contains_iff_mem,zJY] at this
    rw [e] at this
    cases this.1.2
   rw [this]
   simp
  rw [hs]
  cases ho:own w (1-p) r with
  | true=>rw [ho] at h3;exact led_t.mp h3
  | false=>
   rw [ho] at h3
   obtain ⟨t,ht⟩:=exists_mem_of_ne_nil _ (ok.stp_ne hr)
   exact ⟨t,ht,led_f.mp h3 t ht⟩
 ·have hr:r<w.n:=hr
  refine ⟨(h.z r hr e).1,.inr fun hl=>?_⟩
  obtain ⟨t,ht,hz⟩:=led_t.mp hl
  have hno:=h.no hr (List.mem_range.mpr hr) e
  rw [zJV ok hp hr,Bool.not_not] at hno
  rw [zIE hr,zFT hr] at ht
  cases ho:own w p r with
  | true=>
   rw [ho] at hno ht
   obtain ⟨t',ht',z⟩:=led_t.mp hno
   have hm':t'∈wthn w (noR w.n rk) r:=List.mem_filter.mpr ⟨ht',by simp [zJY,hr,e,ok.stp_lt ht',z]⟩
   obtain ⟨u,hu,hm⟩:=zJ3 (List.ne_nil_of_mem hm')
   simp only [if_true,hu,List.mem_singleton] at ht
   subst ht
   have:=(List.mem_filter.mp hm).2
   simp only [Bool.and_eq_true,contains_iff_mem,zJY] at this
   exact hz this.2.2
  | false=>
   rw [ho] at hno ht
   exact hz (led_f.mp hno t (by simpa using ht))
end KC
namespace T
open PySem PySem.Spec L2
open PyProof.Rows hiding St
section
variable {K:Fg} {W:XW} {σ:St} {H:Hp} {D:Ends} {fl:FL}
end
section
variable {X:Cx}
variable {N gl:List Str} {vs cs ls lo gs:List Nat} {W:XW} {a b:Expr} {pos:Pos} {fl:FL}
end
end T
namespace TQ
open PySem PySem.Spec L2 T
open PyProof.Rows hiding St
section
variable {X:Cx} {N gl:List Str} {vs cs ls lo gs:List Nat} {W:XW} {a b:Expr} {pos:Pos} {fl:FL}
end
end TQ
namespace T
open PySem PySem.Spec L2
open PyProof.Rows hiding St
section
variable {K:Fg} {W:XW} {σ:St} {H:Hp} {Q:VK} {D:Ends} {fa fb:F1} {fl:FL}
end
section
variable {X:Cx} {N gl:List Str} {vs cs ls lo gs:List Nat} {W:XW} {a b c e:Expr} {es:List Expr} {pos p:Pos} {fa fb fc:F1} {fl:FL} {g:FS}
end
end T
namespace TQ
open PySem PySem.Spec L2 T
open PyProof.Rows hiding St
section
variable {X:Cx} {N gl:List Str} {vs cs ls lo gs:List Nat} {W:XW} {a b c e:Expr} {es:List Expr} {pos p:Pos} {fa fb fc:F1} {fl:FL} {ga gb:FB} {g1 g2 g:FS}
end
end TQ
namespace T
open PySem PySem.Spec L2
open PyProof.Rows hiding St
def Itz (K:Fg) (a b:Addr):It:=
 ⟨fun i H=>∃xs ys x y,SqL K H a xs/\SqL K H b ys/\xs[i]?=some x/\ys[i]?=some y,fun i H x H'=>∃T v w,x=.ref T/\H T=none/\H'=upd H T (.tup [v,w])/\∀xs ys,SqL K H a xs->SqL K H b ys->xs[i]?=some v/\ys[i]?=some w,fun i H=>∃xs ys,SqL K H a xs/\SqL K H b ys/\i=min xs.length ys.length⟩
theorem turn_zip {P:Program} {w:World} {K:Fg} {elts:List Expr} {k:Nat} {pos:Pos} (a b z TI TO i1 i2:Addr) (D:ZipApart z TI TO i1 i2 a b) :
  Turn P w K (.Tuple elts k pos) (Itz K a b) [z,TI,TO,i1,i2] z (fun i h=>IsZip h z TI TO .none/\IsPair h TI (.ref i1) (.ref i2)/\(∃a b,IsPair h TO a b)/\h.IsListIter i1 a i/\h.IsListIter i2 b i) where
 mem:=by simp
 obj:=fun i h st c hc=>by
  obtain ⟨hz,hTI,⟨u,v,hTO⟩,⟨o1,e1,c1,d1⟩,⟨o2,e2,c2,d2⟩⟩:=st
  simp only [mem_cons,not_mem_nil,or_false] at hc
  rcases hc with rfl | rfl | rfl | rfl | rfl
  ·exact ⟨_,hz,fun v z=>by
    have z':Data.fields _=Data.cell v:=z
    cases z'⟩
  ·exact ⟨_,hTI,fun v z=>by
    have z':Data.seq _ _=Data.cell v:=z
    cases z'⟩
  ·exact ⟨_,hTO,fun v z=>by
    have z':Data.seq _ _=Data.cell v:=z
    cases z'⟩
  ·exact ⟨o1,e1,fun v z=>by rw [d1] at z;cases z⟩
  ·exact ⟨o2,e2,fun v z=>by rw [d2] at z;cases z⟩
 keep:=fun i h h' st kk=>by
  obtain ⟨hz,hTI,⟨u,v,hTO⟩,h1,h2⟩:=st
  exact ⟨kk z (by simp) _ hz,kk TI (by simp) _ hTI,⟨u,v,kk TO (by simp) _ hTO⟩,h1.at fun o q=>kk i1 (by simp) o q,h2.at fun o q=>kk i2 (by simp) o q⟩
 item:=by
  intro X hP hw hK hc i pins s σ H E I hf st hg
  subst hP hw hK
  obtain ⟨xs,ys,x,y,hq,hq2,hx,hy⟩:=hg
  obtain ⟨its,rv,p,hz⟩:=I.list hq
  obtain ⟨its2,rv2,p2,hz2⟩:=I.list hq2
  obtain ⟨u,hu,ru⟩:=rv.get hx
  obtain ⟨u2,hu2,ru2⟩:=rv2.get hy
  have W:=WalksT.zip2 (prog:=X.prog) (w:=X.w) (A:=X.A) (I.ok.hd hc) z TI TO i1 i2 a b D its.toArray its2.toArray
  have hil:i<min its.toArray.size its2.toArray.size:=by
   have h1:=(List.getElem?_eq_some_iff.mp hu).1
   have h2:=(List.getElem?_eq_some_iff.mp hu2).1
   rw [size_toArray,size_toArray]
   omega
  refine W.item i s _ _ hil ⟨st.1,st.2.1,st.2.2.1,st.2.2.2.1,st.2.2.2.2,p.isList,p2.isList⟩ fun T vals h' tk hv hT hTT hMid kk=>?_
  obtain ⟨y1,y2,e1,e2,rfl⟩:=hv
  have ey:y1=u:=by
   rw [getElem?_toArray,hu] at e1
   exact (Option.some.inj e1).symm
  have ey2:y2=u2:=by
   rw [getElem?_toArray,hu2] at e2
   exact (Option.some.inj e2).symm
  subst ey ey2
  refine ⟨.ref T,rfl,W.go elts k pos i T _ _ _ hMid fun h2 st2 kk2=>?_⟩
  have hTn:H T=none:=I.hok.fresh hT
  have hTw:T∉[z,TO,i1,i2]:=W.apart i T _ hMid
  have sub:∀c∈[z,TO,i1,i2],c∈[z,TI,TO,i1,i2]:=fun c hc=>by
   simp only [mem_cons,not_mem_nil,or_false] at hc ⊢
   rcases hc with h | h | h | h<;>simp [h]
  have kAll:∀c o,c∉[z,TI,TO,i1,i2]->s.heap.get? c=some o->h2.get? c=some o:=fun c o hb q=>kk2 c o (fun q=>hb (sub c q)) (kk c o (fun q=>hb (sub c q)) q)
  have I1:L2.Inv X pins σ H { s with heap:=h2,toks:=tk }:=Inv.turnedL I kAll hf
  have tT:h2.IsTuple T #[y1,y2]:=by
   obtain ⟨o,q1,q2⟩:=hTT
   exact ⟨o,kk2 T o hTw q1,q2⟩
  have hvs:Vals [x,y] [y1,y2]:=.cons ru (.cons ru2 .nil)
  have I3:L2.Inv X pins σ (upd H T (.tup [x,y])) { s with heap:=h2,toks:=tk }:=Inv.turnedT (t':=tk) I kAll hf hT ⟨by show 2<=sizeLine;decide,[y1,y2],hvs,(show IsTup h2 T _ from tT)⟩
  have hTI:T≠TI:=fun q=>by
   have:=Heap.lt_size st.2.1
   rw [<-q] at this
   exact absurd (Nat.lt_of_lt_of_le this hT) (Nat.lt_irrefl _)
  refine ⟨.ref T,upd H T (.tup [x,y]),I3,rfl,⟨T,x,y,rfl,hTn,rfl,fun xs' ys' h1 h2=>by rw [I.list_inj h1 hq,I.list_inj h2 hq2];exact ⟨hx,hy⟩⟩,⟨st2.1,st2.2.1,st2.2.2.1,st2.2.2.2.1,st2.2.2.2.2.1⟩,fun c hb=>?_⟩
  have hbT:c≠T:=fun q=>by
   subst q
   simp only [mem_cons,not_mem_nil,or_false] at hb hTw
   rcases hb with h | h | h | h | h
   ·exact hTw (.inl h)
   ·exact hTI h
   ·exact hTw (.inr (.inl h))
   ·exact hTw (.inr (.inr (.inl h)))
   ·exact hTw (.inr (.inr (.inr h)))
  rw [zA6 hbT]
  exact (hf c hb).1
 done:=by
  intro X hP hw hK hc i pins s σ H E I hf st hg
  subst hP hw hK
  obtain ⟨xs,ys,hq,hq2,hx⟩:=hg
  obtain ⟨its,rv,p,hz⟩:=I.list hq
  obtain ⟨its2,rv2,p2,hz2⟩:=I.list hq2
  have W:=WalksT.zip2 (prog:=X.prog) (w:=X.w) (A:=X.A) (I.ok.hd hc) z TI TO i1 i2 a b D its.toArray its2.toArray
  have hi:i=min its.toArray.size its2.toArray.size:=by
   rw [size_toArray,size_toArray,<-rv.length,<-rv2.length]
   exact hx
  subst hi
  refine W.done s _ _ ⟨st.1,st.2.1,st.2.2.1,st.2.2.2.1,st.2.2.2.2,p.isList,p2.isList⟩ fun h' tk hk=>⟨rfl,Inv.turnedL (t':=tk) I (fun c o hb q=>hk c o (fun y=>hb ?_) q) hf⟩
  simp only [mem_cons,not_mem_nil,or_false] at y ⊢
  rcases y with h | h | h | h<;>simp [h]
 self:=fun _ _ _ _ _ st h=>wpAny_pyIter_zip st.1 h
def iZip (K:Fg) (ta:TA):TI:=fun σ H R=>ta σ H fun vs H1=>∃a b,vs=[.ref a,.ref b]/\(∃xs,SqL K H1 a xs)/\(∃ys,SqL K H1 b ys)/\R (Itz K a b) H1
theorem boot_zip:bootBuiltins "zip"=some (.type "zip"):=by decide +kernel
theorem pi_zip {X:Cx} {elts:List Expr} {kt:Nat} {ptg:Pos} {l m:Expr} {ta:TA} {p pos:Pos} (hg:Gl X "zip") (hm:X.mg "zip"=none) (ha:PA X [l,m] ta) (hs:starEach [l,m] X.env=(false,eval l X.env)::starEach [m] X.env) (hpl:(backTo pos (starEach [m] X.env)).any (·.1)=false) :
  PI X (.Tuple elts kt ptg) (.Call (.Name "zip" p) [l,m] [] pos) (iZip X.K ta):=by
 intro pins s σ H R I h
 refine Call_ (zGL I hg hm boot_zip (PyProof.Rows.callWith_type1 (thn (ha pos pins s σ H _ I h) fun us s1 ⟨vs,H1,I1,r1,q1⟩=>?_) hs hpl))
 obtain ⟨a,b,e,⟨xs,hq⟩,⟨ys,hq2⟩,q⟩:=q1
 subst e
 obtain ⟨u1,u2,rfl,ru,ru2⟩:∃u1 u2,us=[u1,u2]/\RelV (.ref a) u1/\RelV (.ref b) u2:=by
  cases r1 with
  | cons p q=>
   cases q with
   | cons p' q'=>
    cases q'
    exact ⟨_,_,rfl,p,p'⟩
 cases ru
 cases ru2
 obtain ⟨its,rv,pl,hz⟩:=I1.list hq
 obtain ⟨its2,rv2,pl2,hz2⟩:=I1.list hq2
 refine call_zip_2 pl.isList pl2.isList fun h' hZ hTI hTO hi1 hi2 hsz hk=>?_
 have ha1:a<s1.heap.objs.size:=by
  obtain ⟨o,q1,_⟩:=pl.isList
  exact Heap.lt_size q1
 have hb1:b<s1.heap.objs.size:=by
  obtain ⟨o,q1,_⟩:=pl2.isList
  exact Heap.lt_size q1
 refine wpAny_pyIter_zip (s:={ s1 with heap:=h' }) hZ ?_
 have I2:L2.Inv X pins σ H1 { s1 with heap:=h' }:=I1.kept (t':=s1.toks) hk
 have D:ZipApart (s1.heap.objs.size+4) (s1.heap.objs.size+2) (s1.heap.objs.size+3) s1.heap.objs.size (s1.heap.objs.size+1) a b:=by
  constructor<;>first | exact Nat.ne_of_lt (by omega) | exact Nat.ne_of_gt (by omega) | exact Nat.ne_of_lt (Nat.lt_of_lt_of_le ha1 (by omega)) | exact Nat.ne_of_lt (Nat.lt_of_lt_of_le hb1 (by omega))
 refine ⟨s1.heap.objs.size+4,[s1.heap.objs.size+4,s1.heap.objs.size+2,s1.heap.objs.size+3,s1.heap.objs.size,s1.heap.objs.size+1],_,Itz X.K a b,H1,rfl,I2,turn_zip a b _ _ _ _ _ D,⟨hZ,hTI,⟨_,_,hTO⟩,hi1,hi2⟩,fun c hb=>?_,q⟩
 simp only [mem_cons,not_mem_nil,or_false] at hb
 have hb2:s1.heap.objs.size<=c:=by
  rcases hb with z | z | z | z | z<;>rw [z]<;>first | exact Nat.le_add_right _ _ | exact Nat.le_refl _
 exact I1.fpOk hb2 (I1.hok.fresh hb2)
def zD3 (i j:Nat) (fc:FB) (fe:F1) (s:Sh):List (PySem.PyData×PySem.PyData)->Ev->List PySem.PyData->Out (List PySem.PyData)
 | [],Γ,acc=>.ok acc Γ
 | (d,d2)::r,Γ,acc=>match fc ((Γ.set i (some ⟨.leaf,d⟩)).set j (some ⟨.leaf,d2⟩)) with
  | .ok true Γ1=>(match fe Γ1 with
   | .ok p Γ2=>if T.coer s p&&decide (acc.length<sizeLine) then zD3 i j fc fe s r ((Γ2.set i none).set j none) (acc++[p.d]) else .no
   | _=>.no)
  | .ok false Γ1=>if acc.length<sizeLine then zD3 i j fc fe s r ((Γ1.set i none).set j none) acc else .no
  | _=>.no
def zipK (s:Sh) (i j:Nat) (fc:FB) (fe:F1) (ps:List PV) (Γ1:Ev):Out PV:=match ps with
 | [⟨s1,.list ds⟩,⟨s2,.list ds2⟩]=>if zAP ⟨s1,.list ds⟩ ds&&zAP ⟨s2,.list ds2⟩ ds2&&decide (ds.length=ds2.length)&&zCG Γ1[i]?&&zCG Γ1[j]?&&!s.isView then (match zD3 i j fc fe s (ds.zip ds2) Γ1 [] with
  | .ok ds Γ2=>.ok ⟨.lst s,.list ds⟩ Γ2
  | _=>.no) else .no
 | _=>.no
def zHN (s:Sh) (i j:Nat) (fl:FL) (fc:FB) (fe:F1):F1:=fun Γ=>(fl Γ).bind (zipK s i j fc fe)
section
variable {K:Fg} {W:XW} {σ:St} {H:Hp} {Q:VK} {fl:FL} {fe:F1} {fc:FB} {s:Sh} {i j:Nat}
theorem rd_compZ (hij:i≠j) (h:tE K W (zHN s i j fl fc fe) σ H Q):tComp [i,j] (iZip K (tA K W fl)) (gTup K 2 (gCons (gName i) (gCons (gName j) gNil))) (tT K W0 fc) (tE K W0 fe) σ H Q:=by
 obtain ⟨He,O,Fs,Γ,E,h⟩:=h
 refine ⟨He,O,Fs,Γ,E,?_⟩
 unfold zHN at h
 cases e:fl Γ with
 | er c Γ1=>rw [e] at h;exact h
 | no=>rw [e] at h;exact h
 | ok ps Γ1=>
  rw [e] at h
  intro us H1 Gs0 Fs1 A
  have hz:Wants K W He O Fs H σ Q (zipK s i j fc fe ps Γ1):=h
  clear h
  unfold zipK at hz
  split at hz
  case h_2=>exact hz.elim
  rename_i s1 ds s2 ds2
  have h:=hz
  clear hz
  by_cases hn:(zAP ⟨s1,.list ds⟩ ds&&zAP ⟨s2,.list ds2⟩ ds2&&decide (ds.length=ds2.length)&&zCG Γ1[i]?&&zCG Γ1[j]?&&!s.isView)=true
  case neg=>rw [if_neg hn] at h;exact h.elim
  rw [if_pos hn] at h
  simp only [Bool.and_eq_true,Bool.not_eq_true',decide_eq_true_eq] at hn
  obtain ⟨⟨⟨⟨⟨hc1,hc2⟩,hdl⟩,hni⟩,hnj⟩,hsv⟩:=hn
  have hni:=zGE hni
  have hnj:=zGE hnj
  match us,A.len1,Gs0,A.len2,A with
  | [v1,v2],_,[G1,G2],_,A=>
    cases eg:zD3 i j fc fe s (ds.zip ds2) Γ1 [] with
    | er c Γ'=>rw [eg] at h;exact h.elim
    | no=>rw [eg] at h;exact h.elim
    | ok ds' Γ2=>
     rw [eg] at h
     have h:Wants K W He O Fs H σ Q (.ok ⟨.lst s,.list ds'⟩ Γ2):=h
     have nd0:=A.env.nd
     have dis:∀a∈[G1,G2].flatten,a∉O++Fs1.flatten:=fun a ha z=>by
      obtain ⟨n1,n2,n3⟩:=List.nodup_append.mp nd0
      rcases List.mem_append.mp z with y | y
      ·exact (List.nodup_append.mp n1).2.2 a ha a y rfl
      ·exact n3 a (mem_append_left _ ha) a y rfl
     have sub:∀a∈O++Fs1.flatten,a∈[G1,G2].flatten++O++Fs1.flatten:=fun a ha=>by
      rcases List.mem_append.mp ha with z | z
      ·exact mem_append_left _ (mem_append_right _ z)
      ·exact mem_append_right _ z
     obtain ⟨p,vs,rfl,hq,hst,hr⟩:=(A.own 0 v1 _ G1 rfl rfl rfl).items (O':=O++Fs1.flatten) hc1 sub (fun a ha=>dis a (by simp [ha]))
     obtain ⟨p2,vs2,rfl,hq2,hst2,hr2⟩:=(A.own 1 v2 _ G2 rfl rfl rfl).items (O':=O++Fs1.flatten) hc2 sub (fun a ha=>dis a (by simp [ha]))
     have E1:EnvOk K He O Fs1 H1 σ Γ1:=A.env.dropL
     have hlen:vs.length=ds.length:=hr.1
     have hlen2:vs2.length=ds2.length:=hr2.1
     have hi:i<Γ1.length:=(List.getElem?_eq_some_iff.mp hni).1
     have hj:j<Γ1.length:=(List.getElem?_eq_some_iff.mp hnj).1
     refine ⟨p,p2,rfl,⟨vs,hq⟩,⟨vs2,hq2⟩,fun A0 hD=>?_⟩
     have hHeD:He A0=none:=E1.same.free hD
     have E0':EnvOk K He (A0::([]:List (List Addr)).flatten++O) Fs1 (upd H1 A0 (.lst [])) (blank [i,j] σ) Γ1:=
      (E1.blank2 hni hnj).hide (G:=[A0]) (zA4 hD) (by simp) (fun a ha=>by simp at ha;rw [ha];exact hD) (fun a ha=>by simp at ha;rw [ha,zAU];exact Option.some_ne_none _)
     refine ⟨fun k m ys H'=>m=vs.length-k/\k<=vs.length/\∃Γk Fk Gs acc,GathE K He O Fs1 H1 σ i j s A0 Γ1.length ys H' Γk Fk Gs acc/\zD3 i j fc fe s ((ds.zip ds2).drop k) Γk acc=.ok ds' Γ2,⟨vs.length,by simp,Nat.zero_le _,Γ1,Fs1,[],[],⟨E0',zA4 hD,zAU,fun a ha=>.inl (by simpa using ha),rfl,rfl,fun m v d G h1=>by simp at h1,rfl⟩,by simpa using eg⟩,?_⟩
     rintro k m ys H' ⟨rfl,hk,Γk,Fk,Gs,acc,g,eg'⟩
     refine ⟨g.at_,?_⟩
     have hPk:SqL K H' p vs:=g.same.seq hq
     have hPk2:SqL K H' p2 vs2:=g.same.seq hq2
     by_cases hlt:k<vs.length
     case neg=>
      left
      have:(ds.zip ds2).drop k=[]:=drop_eq_nil_of_le (by rw [List.length_zip];omega)
      rw [this] at eg'
      have eg'':(Out.ok acc Γk:Out (List PySem.PyData))=.ok ds' Γ2:=eg'
      injection eg'' with e1 e2
      subst e1
      subst e2
      refine ⟨⟨vs,vs2,hPk,hPk2,by omega⟩,?_⟩
      obtain ⟨n1',_,n3'⟩:=List.nodup_append.mp g.env.ndO
      refine h (.ref A0) H' (A0::Gs.flatten) Fk ⟨A.same.trans g.same,g.env.unblank2,fun a ha=>?_,?_⟩
      ·have up:a∈Fs1.flatten\/H1 a=none->a∈Fs.flatten\/H a=none:=fun z=>z.elim (fun y=>A.new a (mem_append_right _ y)) fun y=>.inr (A.same.free y)
       rcases List.mem_append.mp ha with z | z
       ·rcases List.mem_cons.mp z with z | z
        ·exact up (.inr (by rw [z];exact hD))
        ·exact up (g.new a (mem_append_left _ z))
       ·exact up (g.new a (mem_append_right _ z))
      ·exact .lst hsv g.at_ g.l1 g.l2 n1' fun m v d G h1 h2 h3=>g.own m v d G h1 h2 h3
     case pos=>
      right
      have hv:vs[k]?=some vs[k]:=getElem?_eq_getElem hlt
      have hkd:k<ds.length:=by omega
      have hd:ds[k]?=some ds[k]:=getElem?_eq_getElem hkd
      have hv2:vs2[k]?=some (vs2[k]'(by omega)):=getElem?_eq_getElem _
      have hd2:ds2[k]?=some (ds2[k]'(by omega)):=getElem?_eq_getElem _
      have hdr:(ds.zip ds2).drop k=(ds[k],ds2[k]'(by omega))::(ds.zip ds2).drop (k+1):=by
       rw [drop_eq_getElem_cons (by rw [List.length_zip];omega),List.getElem_zip]
      rw [hdr] at eg'
      generalize hdk:ds[k]=d at hd eg'
      generalize hvk:vs[k]=v at hv
      generalize hdk2:ds2[k]'(by omega)=d2 at hd2 eg'
      generalize hvk2:vs2[k]'(by omega)=w2 at hv2
      simp only [zD3] at eg'
      have hik:i<Γk.length:=by rw [g.len];exact hi
      have hjk:j<Γk.length:=by rw [g.len];exact hj
      have hsl:ys.length<sizeLine:=by
       rw [g.l1]
       cases ec:fc ((Γk.set i (some ⟨.leaf,d⟩)).set j (some ⟨.leaf,d2⟩)) with
       | no=>rw [ec] at eg';cases eg'
       | er c Γ'=>rw [ec] at eg';cases eg'
       | ok b Γa=>
        rw [ec] at eg'
        cases b with
        | false=>
         dsimp only at eg'
         split at eg'
         ·assumption
         ·cases eg'
        | true=>
         dsimp only at eg'
         split at eg'
         ·split at eg'
          ·rename_i z
           simp only [Bool.and_eq_true,decide_eq_true_eq] at z
           exact z.2
          ·cases eg'
         ·cases eg'
      refine ⟨⟨vs,vs2,v,w2,hPk,hPk2,hv,hv2⟩,hsl,?_⟩
      rintro x Hx ⟨T,v',u',rfl,hTn,rfl,hv'⟩
      have ev:v'=v:=Option.some.inj ((hv' vs vs2 hPk hPk2).1.symm.trans hv)
      subst ev
      have eu:u'=w2:=Option.some.inj ((hv' vs vs2 hPk hPk2).2.symm.trans hv2)
      subst eu
      refine ⟨T,[v',u'],rfl,.of zAU,rfl,v',[u'],rfl,u',[],rfl,rfl,?_⟩
      have sT:Same H' (upd H' T (.tup [v',u'])):=zA4 hTn
      have Eg:=g.env.grow sT
      have reps:∀(x:V) (e:PySem.PyData),Rep K (hid H1 (O++Fs1.flatten)) x e->Rep K (hid (upd H' T (.tup [v',u'])) (A0::Gs.flatten++O++Fk.flatten)) x e:=fun x e hxe=>hxe.mono (zB2 (g.same.trans sT) fun a ha=>by
       rcases List.mem_append.mp ha with z | z
       ·rcases List.mem_append.mp z with z | z
        ·rcases List.mem_cons.mp z with z | z
         ·rw [z];exact .inr hD
         ·exact (g.new a (mem_append_left _ z)).elim (fun y=>.inl (mem_append_right _ y)) .inr
        ·exact .inl (mem_append_left _ z)
       ·exact (g.new a (mem_append_right _ z)).elim (fun y=>.inl (mem_append_right _ y)) .inr)
      have rep:=reps _ _ (hr.2 k v' d hv hd)
      have rep2:=reps _ _ (hr2.2 k u' d2 hv2 hd2)
      have lF:Fk.length=Γk.length:=g.env.len2
      have Ep:=EnvOk.put (G:=[]) (i:=i) (p:=⟨.leaf,d⟩) (v:=v') Eg (.leaf rep) rfl (fun a ha=>by simp at ha) hik
      have fk:∀a∈(Fk.set i []).flatten,a∈Fk.flatten:=fun a ha=>zHT (by omega) ha
      have Eq:=EnvOk.put (G:=[]) (i:=j) (p:=⟨.leaf,d2⟩) (v:=u') Ep (.leaf (rep2.mono (zB2 (Same.refl _) fun a ha=>.inl (by
       rcases List.mem_append.mp ha with z | z
       ·exact mem_append_left _ z
       ·exact mem_append_right _ (fk a z))))) rfl (fun a ha=>by simp at ha) (by rw [length_set];exact hjk)
      have fkk:∀a∈((Fk.set i []).set j []).flatten,a∈Fk.flatten:=fun a ha=>fk a (zHT (by rw [length_set];omega) ha)
      refine ⟨⟨by rw [length_set,length_set],fun m u hm=>?_⟩,?_⟩
      ·have:=(zF1 hm).1
       simp only [mem_cons,not_mem_nil,or_false,not_or] at this
       rw [getElem?_set_ne (Ne.symm this.2),getElem?_set_ne (Ne.symm this.1)]
       exact hm
      refine ⟨He,_,_,_,Eq,?_⟩
      cases ec:fc ((Γk.set i (some ⟨.leaf,d⟩)).set j (some ⟨.leaf,d2⟩)) with
      | no=>rw [ec] at eg';cases eg'
      | er c Γ'=>rw [ec] at eg';cases eg'
      | ok b Γa=>
       rw [ec] at eg'
       intro H3 Fs3 s3' E3 n3
       have s3:Same H' H3:=sT.trans s3'
       have lena:Γa.length=Γ1.length:=by
        have:=E3.len1
        rw [length_set,length_set,zB1,E1.len1] at this
        exact this.symm
       have n3':∀a∈Fs3.flatten,a∈Fs1.flatten\/H1 a=none:=fun a ha=>(n3 a ha).elim (fun z=>g.new a (mem_append_right _ (fkk a z))) fun z=>.inr (g.same.free (sT.free z))
       have n3k:∀a∈Fs3.flatten,a∈Fk.flatten\/H' a=none:=fun a ha=>(n3 a ha).elim (fun z=>.inl (fkk a z)) fun z=>.inr (sT.free z)
       cases b with
       | false=>
        dsimp only at eg'
        split at eg'
        case isFalse=>cases eg'
        refine iteF ⟨vs.length-(k+1),by omega,rfl,hlt,(Γa.set i none).set j none,Fs3,Gs,acc,⟨E3.forget2,g.same.trans s3,s3 _ _ g.at_,fun a ha=>?_,g.l1,g.l2,fun m v d G h1 h2 h3=>(g.own m v d G h1 h2 h3).mono s3 fun a ha=>?_,by rw [length_set,length_set];exact lena⟩,eg'⟩
        ·rcases List.mem_append.mp ha with z | z
         ·exact g.new a (mem_append_left _ z)
         ·exact n3' a z
        ·rcases List.mem_append.mp ha with z | z
         ·exact .inl (mem_append_left _ z)
         ·exact (n3k a z).elim (fun y=>.inl (mem_append_right _ y)) .inr
       | true=>
        refine iteT ⟨He,_,_,_,E3,?_⟩
        dsimp only at eg'
        cases ee:fe Γa with
        | no=>rw [ee] at eg';cases eg'
        | er c Γ'=>rw [ee] at eg';cases eg'
        | ok p Γb=>
         rw [ee] at eg'
         dsimp only at eg'
         split at eg'
         case isFalse=>cases eg'
         rename_i hco
         simp only [Bool.and_eq_true,decide_eq_true_eq] at hco
         obtain ⟨hco,_⟩:=hco
         intro u H4 G Fs4 A4
         have lenb:Γb.length=Γ1.length:=by
          have:=A4.env.len1
          rw [length_set,length_set,zB1,E1.len1] at this
          exact this.symm
         have at4:H4 A0=some (.lst ys):=A4.same _ _ (s3 _ _ g.at_)
         have s14:Same H1 H4:=(g.same.trans s3).trans A4.same
         have new4:∀a∈G++Fs4.flatten,a∈Fs1.flatten\/H1 a=none:=fun a ha=>(A4.new a ha).elim (n3' a) fun z=>.inr ((g.same.trans s3).free z)
         have hG':∀a∈keepG s G,a∈G:=fun a ha=>zG7 ha
         obtain ⟨k1,k2,k3⟩:=List.nodup_append.mp A4.env.ndO
         have ndk:(keepG s G).Nodup:=by
          cases s<;>first | exact nodup_nil | exact k1
         have pmO:(A0::(Gs++[keepG s G]).flatten++O).Perm (keepG s G++(A0::Gs.flatten++O)):=by
          rw [zAZ]
          show (A0::((Gs.flatten++keepG s G)++O)).Perm _
          refine List.Perm.trans ?_ List.perm_middle.symm
          refine List.Perm.cons _ ?_
          rw [append_assoc]
          exact perm3 _ _ _
         have E5:EnvOk K He (keepG s G++(A0::Gs.flatten++O)) Fs4 H4 (((blank [i,j] σ).set i (some v')).set j (some u')) Γb:=A4.env.drop (fun a ha=>by
          rcases List.mem_append.mp ha with z | z
          ·exact mem_append_left _ (hG' a z)
          ·exact mem_append_right _ z) (List.nodup_append.mpr ⟨ndk,k2,fun a ha b hb=>k3 a (hG' a ha) b hb⟩)
         have E6:=(E5.perm pmO).forget2
         have hDin:A0∈A0::(Gs++[keepG s G]).flatten++O:=mem_cons_self
         have E7:=E6.mutO (o:=.lst (ys++[u])) hDin at4 hHeD
         have subH:∀a∈A0::(Gs++[keepG s G]).flatten++O++Fs4.flatten,a∈G++(A0::Gs.flatten++O)++Fs4.flatten:=fun a ha=>by
          rcases List.mem_append.mp ha with z | z
          ·rcases List.mem_append.mp (pmO.mem_iff.mp z) with y | y
           ·exact mem_append_left _ (mem_append_left _ (hG' a y))
           ·exact mem_append_left _ (mem_append_right _ y)
          ·exact mem_append_right _ z
         have Dnot:∀{m:Nat} {Gj:List Addr},Gs[m]?=some Gj->A0∉Gj:=fun {m Gj} hj z=>by
          have nd:=g.env.ndO
          exact (List.nodup_cons.mp nd).1 (mem_append_left _ (zBA hj z))
         refine ⟨at4,vs.length-(k+1),by omega,rfl,hlt,(Γb.set i none).set j none,Fs4,Gs++[keepG s G],acc++[p.d],⟨E7,fun b o hb=>?_,zAU,fun a ha=>?_,by simp [g.l1],by simp [g.l2],fun m w d' G' h1 h2 h3=>?_,by rw [length_set,length_set];exact lenb⟩,eg'⟩
         ·rw [zA6 (zBF hb hD)]
          exact s14 b o hb
         ·rcases List.mem_append.mp ha with z | z
          ·rw [zAZ] at z
           rcases List.mem_append.mp z with z | z
           ·exact g.new a (mem_append_left _ z)
           ·exact new4 a (mem_append_left _ (hG' a z))
          ·exact new4 a (mem_append_right _ z)
         ·by_cases hm:m<ys.length
          ·rw [getElem?_append_left hm] at h1
           rw [getElem?_append_left (by rw [<-g.l1];exact hm)] at h2
           rw [getElem?_append_left (by rw [g.l2,<-g.l1];exact hm)] at h3
           have o1:=g.own m w d' G' h1 h2 h3
           have o2:=o1.mono (O':=A0::(Gs++[keepG s G]).flatten++O++Fs4.flatten) (s3.trans A4.same) fun a ha=>by
            have up:a∈G++Fs4.flatten->a∈A0::Gs.flatten++O++Fk.flatten\/H' a=none:=fun z=>(A4.new a z).elim (fun y=>(n3k a y).elim (fun y=>.inl (mem_append_right _ y)) .inr) fun y=>.inr (s3.free y)
            rcases List.mem_append.mp (subH a ha) with z | z
            ·rcases List.mem_append.mp z with z | z
             ·exact up (mem_append_left _ z)
             ·exact .inl (mem_append_left _ z)
            ·exact up (mem_append_right _ z)
           exact o2.mut hsv (mem_append_left _ hDin) (Dnot h3) at4
          ·have hm':m=ys.length:=by
            have:=(List.getElem?_eq_some_iff.mp h1).1
            rw [length_append,length_singleton] at this
            omega
           subst hm'
           rw [getElem?_append_right (Nat.le_refl _),Nat.sub_self] at h1
           rw [getElem?_append_right (by rw [g.l1];exact Nat.le_refl _),show ys.length-acc.length=0 by rw [g.l1];exact Nat.sub_self _] at h2
           rw [getElem?_append_right (by rw [g.l2,g.l1];exact Nat.le_refl _),show ys.length-Gs.length=0 by rw [g.l2,g.l1];exact Nat.sub_self _] at h3
           cases h1
           cases h2
           cases h3
           have o3:=A4.own.coer (s:=s) (O':=A0::(Gs++[keepG s G]).flatten++O++Fs4.flatten) hco subH fun a ha hO=>by
            cases s with
            | leaf=>
             exfalso
             have hO':a∈(A0::Gs.flatten++O)++Fs4.flatten:=by
              rw [zAZ] at hO
              simpa [keepG] using hO
             rcases List.mem_append.mp hO' with z | z
             ·exact k3 a ha a z rfl
             ·have nd:=A4.env.nd
              exact (List.nodup_append.mp nd).2.2 a (mem_append_left _ ha) a z rfl
            | view=>cases hsv
            | lst s=>exact ha
            | tup ss=>exact ha
           refine o3.mut hsv (mem_append_left _ hDin) (fun z=>?_) at4
           exact k3 A0 (hG' A0 z) A0 mem_cons_self rfl
end
section
variable {X:Cx} {N gl:List Str} {vs cs ls lo gs:List Nat} {W:XW} {a b:Expr} {pos p:Pos} {fl:FL}
end
section
variable {X:Cx} {N gl:List Str} {vs cs ls lo gs:List Nat} {W:XW} {a b:Expr} {pos p:Pos} {fl:FL}
theorem cs_setCompZ {scope:Scope} {x y z:Str} {px py pt pos' spos cpos:Pos} {kt:Nat} {elt:Expr} {ifs:List Expr} {fe:F1} {fc:FB} {vs' cs' lo' gs':List Nat} (S:Cp X N gl vs cs ls lo gs) (own:Bool) (l:Nat) (s:Sh) (i j:Nat) (hz:N[l]?=some z) (hzl:lo.contains l=true) (hij:(i != j)=true) (hx:N[i]?=some x) (hy:N[j]?=some y) (k:Nat) (hk:gl[k]?=some ("zip":Str)) (hg:gs.contains k=true) (hm:X.mg "zip"=none)
  (hsl:(pos'.line==pos.line)=true) (hsn:(scope.names.any fun (n,k)=>n==z&&(k==NameKind.local||k==NameKind.cell))=false)
  (h1:zHP N [i,j] cs scope=true) (h2:cpB N gl vs' cs' [i,j] lo' gs' scope=true) (ha:PA X [a,b] (tA X.K W fl)) (hs1:starEach [a,b] X.env=(false,eval a X.env)::starEach [b] X.env) (hpl:(backTo cpos (starEach [b] X.env)).any (·.1)=false)
  (hc:Blk X N gl vs' cs' [i,j] lo' gs' fun Y=>PF Y ifs (tT Y.K W0 fc)) (he:Blk X N gl vs' cs' [i,j] lo' gs' fun Y=>PE Y elt (tE Y.K W0 fe)) (hs:∀x,foldedSetIterable (.Call (.Name "zip" p) [a,b] [] cpos) X.env x=pure x) :
  PS X (.Assign [.Name z pos'] (.ListComp elt [⟨.Tuple [.Name x px,.Name y py] kt pt,.Call (.Name "zip" p) [a,b] [] cpos,ifs,0⟩] scope pos) spos) (tS X.K W (sSet own l (zHN s i j fl fc fe))):=by
 have B:=fun cells C s₀ H₀ ex=>S.blk h2 cells C s₀ H₀ ex
 have L:=fun cells C s₀ H₀ ex=>(B cells C s₀ H₀ ex).loc i x hx (by simp)
 have L2':=fun cells C s₀ H₀ ex=>(B cells C s₀ H₀ ex).loc j y hy (by simp)
 have hN:X.N.Nodup:=by rw [S.hN];exact S.nd
 exact PSimp (zHC hN (by rw [S.hN];exact hz) (S.loo l z hz hzl) (zIK S h1) S.calm (pi_zip (S.g hk hg).1 hm ha hs1 hpl)
  (fun cells C s₀ H₀ ex=>zJL (X:=blk X scope cells C s₀ H₀ ex) S.calm (zCP (zCL (X:=blk X scope cells C s₀ H₀ ex) (i:=i) hN (by show X.N[i]?=_;rw [S.hN];exact hx) (L cells C s₀ H₀ ex).1 (L cells C s₀ H₀ ex).2) (zCP (zCL (X:=blk X scope cells C s₀ H₀ ex) (i:=j) hN (by show X.N[j]?=_;rw [S.hN];exact hy) (L2' cells C s₀ H₀ ex).1 (L2' cells C s₀ H₀ ex).2) zH6)))
  (fun cells C s₀ H₀ ex=>hc _ (B cells C s₀ H₀ ex) ⟨rfl,rfl,rfl,rfl,rfl,rfl⟩) (fun cells C s₀ H₀ ex=>he _ (B cells C s₀ H₀ ex) ⟨rfl,rfl,rfl,rfl,rfl,rfl⟩) (zHB S.kind (S.loo l z hz hzl) hsl hsn) hs) fun D σ H h=>by
   have h2:tAsg (tE X.K W (zHN s i j fl fc fe)) (gName l) D σ H:=zKC h
   exact rd_compZ (by simpa using hij) h2
end
end T
namespace TQ
open PySem PySem.Spec L2 T
open PyProof.Rows hiding St
variable {X:Cx} {N gl:List Str} {vs cs ls lo gs:List Nat} {W:XW} {a b:Expr} {pos p:Pos} {fl:FL}
theorem w_cs_setCompZ {scope:Scope} {x y z:Str} {px py pt pos' spos cpos:Pos} {kt:Nat} {elt:Expr} {ifs:List Expr} {fe:F1} {fc:FB} {vs' cs' lo' gs':List Nat} (S:Cp X N gl vs cs ls lo gs) (own:Bool) (l:Nat) (s:Sh) (i j:Nat) (hz:N[l]?=some z) (hzl:lo.contains l=true) (hij:(i != j)=true) (hx:N[i]?=some x) (hy:N[j]?=some y) (k:Nat) (hk:gl[k]?=some ("zip":Str)) (hg:gs.contains k=true) (hm:X.mg "zip"=none)
  (hsl:(pos'.line==pos.line)=true) (hsn:(scope.names.any fun (n,k)=>n==z&&(k==NameKind.local||k==NameKind.cell))=false)
  (h1:zHP N [i,j] cs scope=true) (h2:cpB N gl vs' cs' [i,j] lo' gs' scope=true) (ha:Q (PA X [a,b] (tA X.K W fl))) (hs1:starEach [a,b] X.env=(false,eval a X.env)::starEach [b] X.env) (hpl:(backTo cpos (starEach [b] X.env)).any (·.1)=false)
  (hc:Blk X N gl vs' cs' [i,j] lo' gs' fun Y=>Q (PF Y ifs (tT Y.K W0 fc))) (he:Blk X N gl vs' cs' [i,j] lo' gs' fun Y=>Q (PE Y elt (tE Y.K W0 fe))) (hs:∀x,foldedSetIterable (.Call (.Name "zip" p) [a,b] [] cpos) X.env x=pure x) :
  Q (PS X (.Assign [.Name z pos'] (.ListComp elt [⟨.Tuple [.Name x px,.Name y py] kt pt,.Call (.Name "zip" p) [a,b] [] cpos,ifs,0⟩] scope pos) spos) (tS X.K W (sSet own l (zHN s i j fl fc fe)))):=⟨T.cs_setCompZ S own l s i j hz hzl hij hx hy k hk hg hm hsl hsn h1 h2 ha.p hs1 hpl (fun Y S' F=>(hc Y S' F).p) (fun Y S' F=>(he Y S' F).p) hs⟩
end TQ
namespace T
open PySem PySem.Spec L2
open PyProof.Rows hiding St
section
variable {K:Fg} {W:XW} {σ:St} {H:Hp} {Q:VK} {D:Ends} {fa fb:F1} {fl:FL}
open Classical in
end
section
variable {X:Cx} {N gl:List Str} {vs cs ls lo gs:List Nat} {W:XW} {a b c e:Expr} {es:List Expr} {pos p:Pos} {fa fb fc:F1} {fl:FL} {g:FS}
end
end T
namespace TQ
open PySem PySem.Spec L2 T
open PyProof.Rows hiding St
section
variable {X:Cx} {N gl:List Str} {vs cs ls lo gs:List Nat} {W:XW} {a b c e:Expr} {es:List Expr} {pos p:Pos} {fa fb fc:F1} {fl:FL} {g:FS}
end
end TQ
namespace T
open PySem PySem.Spec L2
open PyProof.Rows hiding St
section
variable {K:Fg} {W:XW} {σ:St} {H:Hp} {Q:VK} {fa fb:F1} {fl:FL}
end
section
variable {X:Cx} {N gl:List Str} {vs cs ls lo gs:List Nat} {W:XW} {a b c e:Expr} {es:List Expr} {pos p:Pos} {fa fb fc:F1} {fl:FL} {g:FS}
end
end T
namespace TQ
open PySem PySem.Spec L2 T
open PyProof.Rows hiding St
section
variable {X:Cx} {N gl:List Str} {vs cs ls lo gs:List Nat} {W:XW} {a b c e:Expr} {es:List Expr} {pos p:Pos} {fa fb fc:F1} {fl:FL} {g:FS}
end
end TQ
namespace T
open PySem PySem.Spec L2
open PyProof.Rows hiding St
section
variable {K:Fg} {W:XW} {σ:St} {H:Hp} {Q:VK} {D:Ends} {fk fa:F1}
end
section
variable {X:Cx} {N gl:List Str} {vs cs ls lo gs:List Nat} {W:XW} {a b c e:Expr} {es:List Expr} {pos p:Pos} {fa fb fc fk:F1} {fl:FL} {g:FS}
end
end T
namespace TQ
open PySem PySem.Spec L2 T
open PyProof.Rows hiding St
section
variable {X:Cx} {N gl:List Str} {vs cs ls lo gs:List Nat} {W:XW} {a b c e:Expr} {es:List Expr} {pos p:Pos} {fa fb fc fk:F1} {fl:FL} {g:FS}
end
end TQ
namespace T
open PySem PySem.Spec L2
open PyProof.Rows hiding St
section
variable {K:Fg} {W:XW} {σ:St} {H:Hp} {Q:VK} {D:Ends} {fb:F1}
end
section
variable {X:Cx} {N gl:List Str} {vs cs ls lo gs:List Nat} {W:XW} {a b c e:Expr} {es:List Expr} {pos p:Pos} {fa fb fc fk:F1} {fl:FL} {g:FS}
end
end T
namespace TQ
open PySem PySem.Spec L2 T
open PyProof.Rows hiding St
section
variable {X:Cx} {N gl:List Str} {vs cs ls lo gs:List Nat} {W:XW} {a b c e:Expr} {es:List Expr} {pos p:Pos} {fa fb fc fk:F1} {fl:FL} {g:FS}
end
end TQ
namespace KC
open PySem PySem.Spec L2 T PySem.SeqAt
open PyProof.Rows hiding St
def Wd.inn (w:Wd) (L:List Nat):Wd:=⟨w.n,w.os,w.m,w.s.map fun row=>row.filter fun t=>L.contains t⟩
abbrev gl (T L:List Nat):List Nat:=L.filter fun r=>T.contains r
abbrev lst (rk:List (Option Nat)) (L:List Nat):List Nat:=L.filter fun r=>(rkA rk r).isNone
def tD:Option (Nat×Nat)->D
 | none=>.none
 | some (a,b)=>.tuple [.int (a:Int),.int (b:Int)]
@[simp] theorem tD_none (o:Option (Nat×Nat)):zD0 (tD o)=o.isNone:=by cases o<;>rfl
def tnA (tn:List (Option (Nat×Nat))) (t:Nat):Option (Nat×Nat):=tn.getD t none
def Down (tn:List (Option (Nat×Nat))) (a b t:Nat):Prop:=∃a' b',tnA tn t=some (a',b')/\(a'<a\/(a'=a/\(b'<b\/(b=0/\b'=0))))
structure TS where
 tn:List (Option (Nat×Nat))
 L:List Nat
 k:Nat
 lost:List Nat
 x7:Option PV
 x8:Option PV
structure TI (w:Wd) (p:Int) (T:List Nat) (b:TS):Prop where
 len:b.tn.length=w.n
 std:Std w.n b.L
 mem:∀r,r<w.n->(r∈b.L↔tnA b.tn r=none)
 c:∀r∈b.L,led (own w p r) (w.stp r) (·∈b.L)
 big:∀X,Suff w.n w.stp (own w p) (·∈T) X->∀r,X r->r∈b.L
 los:∃rk,RightG w.n (inn w.stp b.L) (own w p) b.L (gl T b.L) rk/\b.lost=lst rk b.L
 tk:∀r a j,tnA b.tn r=some (a,j)->a<b.k
 td:∀r a j,r<w.n->tnA b.tn r=some (a,j)->(j=0->r∉T)/\led (!own w p r) (w.stp r) (Down b.tn a j)
structure AgOk (w:Wd) (p:Int) (T:List Nat) (tn:List (Option (Nat×Nat))) (L:List Nat):Prop where
 len:tn.length=w.n
 std:Std w.n L
 mem:∀r,r<w.n->(r∈L↔tnA tn r=none)
 c:∀r∈L,led (own w p r) (w.stp r) (·∈L)
 suff:Suff w.n w.stp (own w p) (·∈T) (·∈L)
 big:∀X,Suff w.n w.stp (own w p) (·∈T) X->∀r,X r->r∈L
 td:∀r a j,r<w.n->tnA tn r=some (a,j)->(j=0->r∉T)/\led (!own w p r) (w.stp r) (Down tn a j)
abbrev mkP (w:Wd) (c:Str) (r:Nat):Prop:=c∈w.mks r
structure OffOk (w:Wd) (M:List Str) (L off:List Nat):Prop where
 ne:off≠[]
 sub:∀r∈off,r∈L
 no:∀(R:Nat->Prop) X,Fr w.n w.stp R M (mkP w) X->(∀r,X r->r∈L)->∀r∈off,¬X r
structure EndOk (w:Wd) (M:List Str) (L:List Nat):Prop where
 c:∀r∈L,∃t∈w.stp r,t∈L
 a:∀m∈M,∀S:Nat->Prop,(∀r,r∈L->mkP w m r->S r)->(∀r,r∈L->(∃t∈w.stp r,t∈L/\S t)->S r)->∀r,r∈L->S r
structure FS1 where
 rows:List D
 L:List Nat
 row:D
structure FI (w:Wd) (R:List Nat) (M:List Str) (b:FS1):Prop where
 std:Std w.n b.L
 sub:∀r∈b.L,r∈R
 cnt:b.rows.length+b.L.length<=w.n
 big:∀X,Fr w.n w.stp (·∈R) M (mkP w) X->∀r,X r->r∈b.L
 row:(b.row=.none/\EndOk w M b.L)\/(∃off o,b.row=.tuple [rms off,o]/\OffOk w M b.L off)
theorem x_unpN {is:List Nat} {f:F1} {Γ Γ1 Γ':Ev} {p:PV} {ps:List PV} (h:f Γ=.ok p Γ1) (hu:unpN p=some ps) (hl:ps.length=is.length) (hp:putN is ps Γ1=some Γ'):sUnpN is f Γ=.nx Γ':=by
 unfold sUnpN sOf
 rw [h]
 simp only [hu,hl,if_true,hp]
theorem zJP {r:List Nat}:shaped (rms r)=true:=zIX fun a ha=>by
 obtain ⟨t,_,e⟩:=List.mem_map.mp ha
 exact ⟨(t:Int),e.symm⟩
theorem eq_rms {a b:List Nat} (h:a=b):gEq (rms a) (rms b)=some (.bool true):=by rw [h];exact eq_refl' zJP
theorem drw2 {c k:Int} (h0:0<=k) (h1:k<=1000):drw c k 2=0\/drw c k 2=1:=by
 have:=zKI (c:=c) (k:=k) (b:=2) h0 h1 (by omega) (by omega)
 omega
def Chn (w:Wd):List Nat->Prop
 | a::b::r=>b∈w.stp a/\Chn w (b::r)
 | _=>True
structure Las (w:Wd) (p:List Nat):Prop where
 ch:Chn w p
 nd:p.Nodup
 bk:∃z t,p.getLast?=some z/\t∈w.stp z/\t∈p
theorem zHL:∀{n:Nat} {p:List Nat},p.Nodup->(∀x∈p,x<n)->p.length<=n
 | 0,[],_,_=>Nat.le_refl _
 | 0,a::p,_,h=>absurd (h a (by simp)) (Nat.not_lt_zero _)
 | n+1,p,nd,h=>by
  by_cases hn:n∈p
  ·have:=zHL (n:=n) (nd.erase n) fun x hx=>by
    obtain ⟨h1,h2⟩:=nd.mem_erase_iff.mp hx
    have:=h x h2
    omega
   rw [List.length_erase_of_mem hn] at this
   omega
  ·have:=zHL (n:=n) nd fun x hx=>by
    have h1:=h x hx
    have:x≠n:=fun e=>hn (e▸hx)
    omega
   omega
theorem nd_snoc {p:List Nat} {t:Nat} (h:p.Nodup) (ht:t∉p):(p++[t]).Nodup:=by
 rw [List.nodup_append]
 refine ⟨h,by simp,fun a ha b hb=>?_⟩
 rw [List.mem_singleton.mp hb]
 exact fun e=>ht (e▸ha)
section
variable {w:Wd} {thr goal:List Nat} {rk:List (Option Nat)}
end
end KC
namespace KC
open PySem PySem.Spec L2 T
open PyProof.Rows hiding St
end KC
namespace KQ
open PySem PySem.Spec L2 T
open PyProof.Rows hiding St
open KC
end KQ
namespace KC
open PySem PySem.Spec L2 T PySem.SeqAt
open PyProof.Rows hiding St
theorem v_sl2 {Γ Γ1 Γ2:Ev} {g:Int->Option Int×Option Int} {fa fb:F1} {s s':Sh} {xs:List D} {k:Int} (ha:fa Γ=.ok ⟨s,.list xs⟩ Γ1) (hb:fb Γ1=.ok ⟨s',.int k⟩ Γ2) (ho:zAP ⟨s,.list xs⟩ xs=true):eSl2 g fa fb Γ=.ok ⟨.lst .leaf,.list (T.cutD xs (g k).1 (g k).2)⟩ Γ2:=by
 unfold eSl2 eBind
 rw [ha]
 simp only [Out.bind]
 rw [hb]
 simp only [ho,if_true]
theorem ok_rms {s:Sh} {l:List Nat}:zAP ⟨s,rms l⟩ (l.map rm)=true:=by
 unfold zAP
 simp [scalD]
theorem sl_to {l:List Nat} {k:Nat}:T.cutD (l.map rm) none (some (k:Int))=(l.take k).map rm:=by
 unfold T.cutD
 rw [HT.sIx_none,HT.sIx_nat,List.drop_zero,length_map,Nat.sub_zero,List.map_take]
 by_cases h:k<=l.length
 ·rw [Nat.min_eq_left h]
 ·rw [Nat.min_eq_right (by omega),take_of_length_le (by simp),take_of_length_le (by simp;omega)]
theorem sl_from {l:List Nat} {k:Nat}:T.cutD (l.map rm) (some (k:Int)) none=(l.drop k).map rm:=by
 unfold T.cutD
 rw [HT.sIx_none,HT.sIx_nat,length_map,List.map_drop]
 by_cases h:k<=l.length
 ·rw [Nat.min_eq_left h,take_of_length_le (by simp)]
 ·rw [Nat.min_eq_right (by omega),List.drop_of_length_le (by simp),List.drop_of_length_le (by simp;omega)]
  simp
theorem v_atL {Γ:Ev} {fa fb:F1} {s:Sh} {l:List Nat} {k:Nat} (ha:fa Γ=.ok ⟨.leaf,rms l⟩ Γ) (hb:fb Γ=.ok ⟨s,.int (k:Int)⟩ Γ) (h:k<l.length):eIdx fa fb Γ=.ok ⟨.leaf,rm (l.getD k 0)⟩ Γ:=by
 rw [r_idx,ha]
 simp only [Out.bind]
 rw [hb]
 simp only
 rw [r_idL,zIS (x:=rm (l.getD k 0)) (by rw [getElem?_map,getD_eq_getElem?_getD,getElem?_eq_getElem h];rfl)]
abbrev wy (F R:List Nat):D:=.tuple [rms F,rms R]
structure IsWay (w:Wd) (F R:List Nat):Prop where
 ne:R≠[]
 lt:∀x∈F++R,x<w.n
 ch:Chn w (F++R++R.take 1)
 len:F.length+R.length<=1000
theorem zIW {w:Wd} (ok:w.Ok) {Γ:Ev} {i:Nat} {fb:F1} {s:Sh} {r:Nat} (h0:Γ[i]?=some (some ⟨.leaf,w.enc⟩)) (hb:fb Γ=.ok ⟨s,rm r⟩ Γ) (hr:r<w.n):eIdx (eIdx (eVar i) (eK (.int 2))) fb Γ=.ok ⟨.leaf,rms (w.stp r)⟩ Γ:=by
 rw [r_idx,r_idx,zAC h0]
 simp only [Out.bind,v_k,Wd.enc,tup3,r_idT,r_at2]
 rw [hb]
 simp only [r_idL]
 rw [ok.at2 hr]
theorem zJO {w:Wd} (ok:w.Ok) {Γ:Ev} {i:Nat} (h0:Γ[i]?=some (some ⟨.leaf,w.enc⟩)):eCB gLen (eCons (eIdx (eVar i) (eK (.int 0))) eNil) Γ=.ok ⟨.leaf,.int (w.n:Int)⟩ Γ:=by
 have e:eIdx (eVar i) (eK (.int 0)) Γ=.ok ⟨.leaf,.list w.os⟩ Γ:=by
  rw [r_idx,zAC h0]
  simp only [Out.bind,v_k,Wd.enc,tup3,r_idT,r_at0]
 refine v_cb (zAE e v_nil) ?_
 simp [ok.g.lo]
theorem take1 {R:List Nat} (h:R≠[]):∃a,R.take 1=[a]/\a∈R:=by
 cases R with
 | nil=>exact absurd rfl h
 | cons a r=>exact ⟨a,rfl,by simp⟩
end KC
namespace KC
open PySem PySem.Spec L2 T
open PyProof.Rows hiding St
def k_OF_SOME:PySem.PyData:=.tuple [.str "some next",.str "some until",.str "some always"]
def k_OF_ALL:PySem.PyData:=.tuple [.str "all next",.str "all until",.str "all always"]
def d_check_room:FS:=(sIf (bNot (bOf gBool (zFM gLe gLt (eK (.int 0)) (eVar 1) (eCB gLen (eCons (eIdx (eVar 0) (eK (.int 0))) eNil))))) sNo sNext)
def zC2:List PySem.PyData->Res:=denOf 2 d_check_room
def d_way_along:FS:=(sSeq (sSet true 2 (eList .leaf eNil))
  (sSeq (sSet false 3 (eVar 1))
  (sSeq (zH2 100 (bAnd (bOf gBool (eOp (gIsN true) (eVar 3) (eK .none))) (bOf gBool (eOp (gIn true) (eVar 3) (eVar 2))))
  (sSeq (zAW 2 (eVar 3))
  (sSet false 3 (eIdx (eVar 0) (eVar 3)))))
  (sSeq (sIf (bOf gBool (eOp (gIsN false) (eVar 3) (eK .none))) (sRet (eK .none)) sNext)
  (sFrz 2 (sSeq (sSet false 4 (eIxN 2 (eVar 3)))
  (sRet (eTup (eCons (eSl2 (fun k=>(none,some k)) (eVar 2) (eVar 4)) (eCons (eSl2 (fun k=>(some k,none)) (eVar 2) (eVar 4)) eNil))))))))))
def zDX:List PySem.PyData->Res:=denOf 5 d_way_along
open PySem.SeqAt
def Wr.ofS (a:Wr):Bool:=decide (a=.sn\/a=.su\/a=.sa)
def Wr.ofA (a:Wr):Bool:=decide (a=.an\/a=.au\/a=.aa)
@[simp] theorem in_ofS (a:Wr):gIn false (.str a.t) k_OF_SOME=some (.bool a.ofS):=by cases a<;>kernel_rfl
@[simp] theorem nin_ofS (a:Wr):gIn true (.str a.t) k_OF_SOME=some (.bool (!a.ofS)):=by cases a<;>kernel_rfl
@[simp] theorem nin_ofA (a:Wr):gIn true (.str a.t) k_OF_ALL=some (.bool (!a.ofA)):=by cases a<;>kernel_rfl
end KC
namespace KC
open PySem PySem.Spec L2 T
open PyProof.Rows hiding St
def d_way_by:FS:=(sSeq (sDrop (eCall 1 zAV (eCons (eVar 0) eNil)))
  (sSeq (sDrop (eCall 2 zC2 (eCons (eVar 0) (eCons (eVar 3) eNil))))
  (sSeq (sDrop (eCall 3 zBB (eCons (eVar 0) (eCons (eK (.int 0)) (eCons (eVar 1) eNil)))))
  (sSeq (sDrop (eCall 3 zBB (eCons (eVar 0) (eCons (eK (.int 1)) (eCons (eVar 2) eNil)))))
  (sSeq (sSet false 4 (zHN .leaf 6 7 (eCons (eVar 1) (eCons (eVar 2) eNil)) bTrue (eIf (bOf gBool (eOp (gIsN false) (eVar 6) (eK .none))) (eVar 7) (eVar 6))))
  (sSeq (sSet false 5 (eCall 2 zDX (eCons (eVar 4) (eCons (eVar 3) eNil))))
  (sSeq (sIf (bOf gBool (eOp (gIsN false) (eVar 5) (eK .none))) sNo sNext)
  (sRet (eVar 5)))))))))
def zG5:List PySem.PyData->Res:=denOf 8 d_way_by
end KC
namespace KQ
open PySem PySem.Spec L2 T
open PyProof.Rows hiding St
open KC
def d__law_plan:FS:=(sSeq (sSet true 4 (eList .leaf eNil))
  (sSeq (sFor 5 (iR1 (eCons (eCB gLen (eCons (eIdx (eVar 0) (eK (.int 0))) eNil)) eNil))
  (sSeq (sSet false 6 (eIdx (eIdx (eVar 0) (eK (.int 2))) (eVar 5)))
  (sSeq (sSet false 7 (eIdx (eVar 6) (eOp gMod (eCall 3 zAK (eCons (eVar 2) (eCons (eVar 5) (eCons (eK (.int 24)) eNil)))) (eCB gLen (eCons (eVar 6) eNil)))))
  (sSeq (sIf (bOr (bOf gBool (eOp gNe (eIdx (eIdx (eVar 0) (eK (.int 0))) (eVar 5)) (eVar 1))) (bAnd (bOf gTru (eVar 3)) (bOf gBool (eOp gEq (eCall 3 zAK (eCons (eVar 2) (eCons (eOp gAddI (eK (.int 30)) (eVar 5)) (eCons (eK (.int 3)) eNil)))) (eK (.int 1)))))) (sSet false 7 (eK .none)) sNext)
  (zAW 4 (eVar 7))))))
  (sRet (eMove 4))))
def zDY:List PySem.PyData->Res:=denOf 8 d__law_plan
end KQ
namespace KC
open PySem PySem.Spec L2 T PySem.SeqAt
open PyProof.Rows hiding St
theorem ow_at {w:Wd} (ok:w.Ok) {Γ:Ev} {i:Nat} {fb:F1} {s:Sh} {r:Nat} (h0:Γ[i]?=some (some ⟨.leaf,w.enc⟩)) (hb:fb Γ=.ok ⟨s,rm r⟩ Γ) (hr:r<w.n):∃o:Int,eIdx (eIdx (eVar i) (eK (.int 0))) fb Γ=.ok ⟨.leaf,.int o⟩ Γ/\∀p,own w p r=(o==p):=by
 obtain ⟨o,_,a0,ho⟩:=ok.o_at hr
 refine ⟨o,?_,ho⟩
 rw [r_idx,r_idx,zAC h0]
 simp only [Out.bind,v_k,Wd.enc,tup3,r_idT,r_at0]
 rw [hb]
 simp only [r_idL]
 rw [a0]
end KC
namespace KQ
open PySem PySem.Spec L2 T PySem.SeqAt KC
open PyProof.Rows hiding St
abbrev GP (w:Wd) (p c:Int) (b:Bool) (l:List (Option Nat)) (x5 x6 x7:Option PV):Ev:=[some ⟨.leaf,w.enc⟩,some ⟨.leaf,.int p⟩,some ⟨.leaf,.int c⟩,some ⟨.leaf,.bool b⟩,some ⟨.lst .leaf,rks l⟩,x5,x6,x7]
abbrev plBody:FS:=(sSeq (sSet false 6 (eIdx (eIdx (eVar 0) (eK (.int 2))) (eVar 5)))
  (sSeq (sSet false 7 (eIdx (eVar 6) (eOp gMod (eCall 3 zAK (eCons (eVar 2) (eCons (eVar 5) (eCons (eK (.int 24)) eNil)))) (eCB gLen (eCons (eVar 6) eNil)))))
  (sSeq (sIf (bOr (bOf gBool (eOp gNe (eIdx (eIdx (eVar 0) (eK (.int 0))) (eVar 5)) (eVar 1))) (bAnd (bOf gTru (eVar 3)) (bOf gBool (eOp gEq (eCall 3 zAK (eCons (eVar 2) (eCons (eOp gAddI (eK (.int 30)) (eVar 5)) (eCons (eK (.int 3)) eNil)))) (eK (.int 1)))))) (sSet false 7 (eK .none)) sNext)
  (zAW 4 (eVar 7)))))
theorem pick0 {c k:Int} (h0:0<=k) (h1:k<=1000) {b m:Nat} (hb:1<=b) (hb2:b<=1000) (hm:1<=m):∃j:Nat,j<m/\drw c k b % (m:Int)=(j:Int):=by
 have h:=zKI (c:=c) (k:=k) (b:=b) h0 h1 (by omega) (by omega)
 have h2:=Int.emod_nonneg (drw c k b) (show (m:Int)≠0 by omega)
 have h3:=Int.emod_lt_of_pos (drw c k b) (show (0:Int)<m by omega)
 exact ⟨(drw c k b % (m:Int)).toNat,by omega,by omega⟩
theorem pl_turn {w:Wd} (ok:w.Ok) {p c:Int} {b:Bool} {l:List (Option Nat)} (hl:l.length<=100) {r:Nat} (hr:r<w.n) {x6 x7:Option PV}:∃(o:Option Nat) (y6 y7:Option PV),plBody (GP w p c b l (some ⟨.leaf,rm r⟩) x6 x7)=.nx (GP w p c b (l++[o]) (some ⟨.leaf,rm r⟩) y6 y7)/\(∀t,o=some t->own w p r=true/\t∈w.stp r)/\(b=false->own w p r=true->o≠none):=by
 have h24:=ok.h24
 have hpos:1<=(w.stp r).length:=by
  cases e:w.stp r with
  | nil=>exact absurd e (ok.stp_ne hr)
  | cons a b=>simp
 obtain ⟨j,hj,ej⟩:=pick0 (c:=c) (k:=(r:Int)) (by omega) (by omega) (b:=24) (by omega) (by omega) hpos
 have m1:gMod (.int (drw c (r:Int) 24)) (.int ((w.stp r).length:Int))=some (.int (j:Int)):=by
  rw [mod_i (by omega),show drw c (r:Int) 24 % ((w.stp r).length:Int)=(j:Int) from ej]
 have e6:sSet false 6 (eIdx (eIdx (eVar 0) (eK (.int 2))) (eVar 5)) (GP w p c b l (some ⟨.leaf,rm r⟩) x6 x7)=.nx (GP w p c b l (some ⟨.leaf,rm r⟩) (some ⟨.leaf,rms (w.stp r)⟩) x7):=zA0 (zIW ok rfl (zAC rfl) hr) rfl (by simp)
 have e7:sSet false 7 (eIdx (eVar 6) (eOp gMod (eCall 3 zAK (eCons (eVar 2) (eCons (eVar 5) (eCons (eK (.int 24)) eNil)))) (eCB gLen (eCons (eVar 6) eNil)))) (GP w p c b l (some ⟨.leaf,rm r⟩) (some ⟨.leaf,rms (w.stp r)⟩) x7)=.nx (GP w p c b l (some ⟨.leaf,rm r⟩) (some ⟨.leaf,rms (w.stp r)⟩) (some ⟨.leaf,rm ((w.stp r).getD j 0)⟩)):=
  zA0 (v_atL (zAC rfl) (s:=.leaf) (k:=j) (v_op (zAT (zAE (zAC rfl) (zAE (zAC rfl) (zAE v_k v_nil))) (zFY (b:=24) (by omega) (by omega) (by omega) (by omega)) rfl rfl) (v_cb (d:=.int ((w.stp r).length:Int)) (zAE (zAC rfl) v_nil) (by simp)) m1) hj) rfl (by simp)
 have hm:(w.stp r).getD j 0∈w.stp r:=by
  rw [getD_eq_getElem?_getD,getElem?_eq_getElem hj]
  exact getElem_mem _
 generalize (w.stp r).getD j 0=t at e7 hm
 obtain ⟨o,eo,ho⟩:=ow_at ok (Γ:=GP w p c b l (some ⟨.leaf,rm r⟩) (some ⟨.leaf,rms (w.stp r)⟩) (some ⟨.leaf,rm t⟩)) (i:=0) (fb:=eVar 5) (s:=.leaf) (r:=r) rfl (zAC rfl) hr
 have dr:=zFY (c:=c) (k:=30+(r:Int)) (b:=3) (by omega) (by omega) (by omega) (by omega)
 have tt:bOr (bOf gBool (eOp gNe (eIdx (eIdx (eVar 0) (eK (.int 0))) (eVar 5)) (eVar 1))) (bAnd (bOf gTru (eVar 3)) (bOf gBool (eOp gEq (eCall 3 zAK (eCons (eVar 2) (eCons (eOp gAddI (eK (.int 30)) (eVar 5)) (eCons (eK (.int 3)) eNil)))) (eK (.int 1))))) (GP w p c b l (some ⟨.leaf,rm r⟩) (some ⟨.leaf,rms (w.stp r)⟩) (some ⟨.leaf,rm t⟩))=.ok (!(o==p)||(b&&(drw c (30+(r:Int)) 3==1))) (GP w p c b l (some ⟨.leaf,rm r⟩) (some ⟨.leaf,rms (w.stp r)⟩) (some ⟨.leaf,rm t⟩)):=b_or (zAY (s:=.leaf) (v_op eo (zAC (i:=1) rfl) KC.ne_int)) (b_and (b_tru (fa:=eVar 3) (s:=.leaf) (zAC rfl)) (zAY (s:=.leaf) (v_op (zAT (zAE (zAC (i:=2) rfl) (zAE (v_op v_k (zAC (i:=5) rfl) KC.add_int') (zAE v_k v_nil))) dr rfl rfl) v_k KC.eq_int)))
 cases hT:(!(o==p)||(b&&(drw c (30+(r:Int)) 3==1))) with
 | true=>
  rw [hT] at tt
  have ap:=zF7 (i:=4) (s:=.leaf) (ds:=l.map oD) (fa:=eVar 7) (p:=⟨.leaf,.none⟩) (Γ:=GP w p c b l (some ⟨.leaf,rm r⟩) (some ⟨.leaf,rms (w.stp r)⟩) (some ⟨.leaf,.none⟩)) rfl (zAC rfl) rfl (by simpa using (by omega:l.length<=900))
  refine ⟨none,some ⟨.leaf,rms (w.stp r)⟩,some ⟨.leaf,.none⟩,x_seq e6 (x_seq e7 (x_seq (Γ1:=GP w p c b l (some ⟨.leaf,rm r⟩) (some ⟨.leaf,rms (w.stp r)⟩) (some ⟨.leaf,.none⟩)) (x_if tt (fun _=>zA0 v_k rfl (by simp)) nofun) (ap.trans ?_))),fun t z=>(nomatch z),fun hb hw=>?_⟩
  ·simp [oD,rks]
  ·subst hb
   rw [ho p] at hw
   rw [hw] at hT
   cases hT
 | false=>
  rw [hT] at tt
  have ap:=zF7 (i:=4) (s:=.leaf) (ds:=l.map oD) (fa:=eVar 7) (p:=⟨.leaf,rm t⟩) (Γ:=GP w p c b l (some ⟨.leaf,rm r⟩) (some ⟨.leaf,rms (w.stp r)⟩) (some ⟨.leaf,rm t⟩)) rfl (zAC rfl) rfl (by simpa using (by omega:l.length<=900))
  refine ⟨some t,some ⟨.leaf,rms (w.stp r)⟩,some ⟨.leaf,rm t⟩,x_seq e6 (x_seq e7 (x_seq (x_if tt nofun fun _=>rfl) (ap.trans ?_))),fun t' z=>?_,fun _ _ z=>nomatch z⟩
  ·simp [oD,rks]
  ·cases z
   refine ⟨?_,hm⟩
   rw [ho p]
   revert hT
   cases o==p<;>simp
theorem den_lplan {w:Wd} (ok:w.Ok) {p c:Int} {b:Bool}:∃pl,zDY [w.enc,.int p,.int c,.bool b]=.ok ⟨.lst .leaf,rks pl⟩/\PlanOk w p pl/\(b=false->∀r,r<w.n->own w p r=true->rkA pl r≠none):=by
 have h24:=ok.h24
 obtain ⟨Γ1,e1,l,x5,x6,x7,rfl,hl,hq⟩:=zFW rm (i:=5) (body:=plBody) (Inv:=fun rest Γ=>∃l x5 x6 x7,Γ=GP w p c b l x5 x6 x7/\rest=(List.range w.n).drop l.length/\l.length<=w.n/\(∀r t,r<l.length->rkA l r=some t->own w p r=true/\t∈w.stp r)/\(b=false->∀r,r<l.length->own w p r=true->rkA l r≠none))
  (fun a rest Γ ⟨l,x5,x6,x7,e,hl,hle,hq,hf⟩=>by
   subst e
   have hlt:l.length<w.n:=by
    cases Nat.lt_or_ge l.length w.n with
    | inl h=>exact h
    | inr h=>
     rw [List.drop_of_length_le (by simpa using h)] at hl
     cases hl
   rw [drop_eq_getElem_cons (by simpa using hlt)] at hl
   simp only [List.getElem_range] at hl
   injection hl with ha hr
   subst ha
   obtain ⟨o,y6,y7,e,ho,ho2⟩:=pl_turn ok (p:=p) (c:=c) (b:=b) (l:=l) (by omega) hlt (x6:=x6) (x7:=x7)
   refine ⟨by simp,_,e,l++[o],_,y6,y7,rfl,by rw [hr];simp,by simp;omega,fun r t hr' hk=>?_,fun hb r hr' hw=>?_⟩
   rotate_left
   ·by_cases h:r<l.length
    ·have:=hf hb r h hw
     unfold rkA at this ⊢
     rw [getD_eq_getElem?_getD,getElem?_append_left h,<-getD_eq_getElem?_getD]
     exact this
    ·have:r=l.length:=by
      simp at hr'
      omega
     subst this
     unfold rkA
     rw [getD_eq_getElem?_getD,getElem?_append_right (Nat.le_refl _),Nat.sub_self]
     simpa using ho2 hb hw
   by_cases h:r<l.length
   ·refine hq r t h ?_
    unfold rkA at hk ⊢
    rw [getD_eq_getElem?_getD,getElem?_append_left h,<-getD_eq_getElem?_getD] at hk
    exact hk
   ·have:r=l.length:=by
     simp at hr'
     omega
    subst this
    unfold rkA at hk
    rw [getD_eq_getElem?_getD,getElem?_append_right (Nat.le_refl _),Nat.sub_self] at hk
    exact ho t (by simpa using hk)) (List.range w.n) (GP w p c b [] none none none) ⟨[],none,none,none,rfl,by simp,by simp,fun r t h=>by simp at h,fun _ r h=>by simp at h⟩
 have hlen:l.length=w.n:=by
  have:(List.range w.n).drop l.length=[]:=hl.symm
  have:=List.drop_eq_nil_iff.mp this
  simp at this
  have:=hq.1
  omega
 refine ⟨l,?_,⟨hlen,fun r t hr e=>hq.2.1 r t (by omega) e⟩,fun hb r hr=>hq.2.2 hb r (by omega)⟩
 have z0:sSet true 4 (eList .leaf eNil) (zAL 8 [w.enc,.int p,.int c,.bool b])=.nx (GP w p c b [] none none none):=zHX (zDP v_nil rfl rfl rfl) rfl (by simp [zAL])
 have hR:iR1 (eCons (eCB gLen (eCons (eIdx (eVar 0) (eK (.int 0))) eNil)) eNil) (GP w p c b [] none none none)=.ok ⟨(List.range w.n).map rm,true⟩ (GP w p c b [] none none none):=R1_of (s:=.leaf) (by omega) (zAE (zJO ok rfl) v_nil)
 exact rt_of (x_seq z0 (x_seq (x_for hR e1) (x_ret (zJH rfl) rfl)))
end KQ
namespace KC
open PySem PySem.Spec L2 T PySem.SeqAt
open PyProof.Rows hiding St
def FCh (ch:List (Option Nat)):List Nat->Prop
 | a::b::r=>rkA ch a=some b/\FCh ch (b::r)
 | _=>True
theorem zI7 {ch:List (Option Nat)} {z t:Nat} (ht:rkA ch z=some t):∀{p:List Nat},FCh ch p->p.getLast?=some z->FCh ch (p++[t])
 | [],_,h=>by simp at h
 | [a],_,h=>by
  simp at h
  subst h
  exact ⟨ht,trivial⟩
 | a::b::r,h,e=>⟨h.1,zI7 ht h.2 (by simpa using e)⟩
structure Lasso (n:Nat) (ch:List (Option Nat)) (r:Nat) (F R:List Nat):Prop where
 ne:R≠[]
 lt:∀x∈F++R,x<n
 nd:(F++R).Nodup
 hd:(F++R).head?=some r
 fc:FCh ch (F++R++R.take 1)
abbrev GA (ch:List (Option Nat)) (r:Nat) (b:List Nat×Option Nat):Ev:=[some ⟨.leaf,rks ch⟩,some ⟨.leaf,rm r⟩,some ⟨.lst .leaf,rms b.1⟩,some ⟨.leaf,oD b.2⟩,none]
structure AI (n:Nat) (ch:List (Option Nat)) (r:Nat) (b:List Nat×Option Nat):Prop where
 nd:b.1.Nodup
 lt:∀x∈b.1,x<n
 hl:∀t,b.2=some t->t<n
 fc:FCh ch b.1
 st:(b.1=[]/\b.2=some r)\/(b.1.head?=some r/\∃z,b.1.getLast?=some z/\b.2=rkA ch z)
theorem ixI_take {t:Nat}:∀{p:List Nat} {j:Nat},ixI (t:Int) (p.map fun x:Nat=>(x:Int))=some j->j<p.length/\p.getD j 0=t
 | [],j,h=>by simp [ixI] at h
 | a::r,j,h=>by
  unfold ixI at h
  simp only [map_cons] at h
  by_cases e:(a:Int)=(t:Int)
  ·rw [if_pos e] at h
   cases h
   exact ⟨by simp,by simp;omega⟩
  ·rw [if_neg e] at h
   cases hr:ixI (t:Int) (r.map fun x:Nat=>(x:Int)) with
   | none=>rw [hr] at h;cases h
   | some j'=>
    rw [hr] at h
    cases h
    obtain ⟨h1,h2⟩:=ixI_take hr
    exact ⟨by simp;omega,by simpa using h2⟩
theorem ixI_has {t:Nat}:∀{p:List Nat},t∈p->∃j,ixI (t:Int) (p.map fun x:Nat=>(x:Int))=some j
 | [],h=>by simp at h
 | a::r,h=>by
  unfold ixI
  simp only [map_cons]
  by_cases e:(a:Int)=(t:Int)
  ·exact ⟨0,by rw [if_pos e]⟩
  ·rw [if_neg e]
   obtain ⟨j,hj⟩:=ixI_has (p:=r) (by
    rcases List.mem_cons.mp h with z | z
    ·exact absurd (by rw [z]) e
    ·exact z)
   exact ⟨j+1,by rw [hj];rfl⟩
theorem ints_rms {p:List Nat}:intsOf (p.map rm)=some (p.map fun x:Nat=>(x:Int)):=by
 have:=intsOf_map (p.map fun x:Nat=>(x:Int))
 rw [map_map] at this
 exact this
abbrev waTest:FB:=bAnd (bOf gBool (eOp (gIsN true) (eVar 3) (eK .none))) (bOf gBool (eOp (gIn true) (eVar 3) (eVar 2)))
abbrev waBody:FS:=sSeq (zAW 2 (eVar 3)) (sSet false 3 (eIdx (eVar 0) (eVar 3)))
theorem den_along' {n:Nat} (hn:n<=24) {ch:List (Option Nat)} (hl:ch.length=n) (hc:∀r,r<n->∃t,rkA ch r=some t/\t<n) {r:Nat} (hr:r<n):∃F R,zDX [rks ch,rm r]=.ok ⟨.tup [.lst .leaf,.lst .leaf],wy F R⟩/\Lasso n ch r F R:=by
 obtain ⟨b',e1,I,ht⟩:=zHY (β:=List Nat×Option Nat) (c:=waTest) (g:=waBody) (G:=GA ch r) (test:=fun b=>match b.2 with | some t=>!b.1.contains t | none=>false) (Inv:=AI n ch r) (meas:=fun b=>n-b.1.length)
  (fun b I=>by
   obtain ⟨met,here⟩:=b
   cases here with
   | none=>
    have e:bOf gBool (eOp (gIsN true) (eVar 3) (eK .none)) (GA ch r (met,none))=.ok false (GA ch r (met,none)):=zAY (s:=.leaf) (v_op (zAC rfl) v_k rfl)
    unfold waTest bAnd
    rw [e]
    rfl
   | some t=>exact b_and (a:=true) (zAY (s:=.leaf) (v_op (zAC rfl) v_k rfl)) (zAY (s:=.leaf) (v_op (zAC (d:=rm t) rfl) (v_lst rfl) zG4)))
  (fun b I h=>by
   obtain ⟨met,here⟩:=b
   cases here with
   | none=>cases h
   | some t=>
    simp only [Bool.not_eq_true',Bool.eq_false_iff,ne_eq,contains_iff_mem] at h
    have htn:=I.hl t rfl
    have hml:=zHL I.nd I.lt
    have hml':=zHL (nd_snoc I.nd h) (n:=n) fun x hx=>by
     rcases List.mem_append.mp hx with z | z
     ·exact I.lt x z
     ·rw [List.mem_singleton.mp z];exact htn
    simp only [length_append,length_singleton] at hml hml'
    obtain ⟨u,hu,hun⟩:=hc t htn
    have ap:=zF7 (i:=2) (s:=.leaf) (ds:=met.map rm) (fa:=eVar 3) (p:=⟨.leaf,rm t⟩) (Γ:=GA ch r (met,some t)) rfl (zAC rfl) rfl (by simp;omega)
    have a1:(ch.map oD)[t]?=some (oD (rkA ch t)):=by
     rw [getElem?_map,getElem?_eq_getElem (by omega),rkA,getD_eq_getElem?_getD,getElem?_eq_getElem (by omega)]
     rfl
    refine ⟨(met++[t],rkA ch t),x_seq (Γ1:=GA ch r (met++[t],some t)) (ap.trans ?_) (zA0 (zD9 (j:=t) (zAC rfl) (zAC (d:=rm t) rfl) (zFU (by rw [length_map];omega)) a1 rfl) (by cases rkA ch t<;>rfl) (by simp)),⟨nd_snoc I.nd h,fun x hx=>?_,fun v hv=>?_,?_,.inr ⟨?_,t,by simp,rfl⟩⟩,?_⟩
    ·simp [rms]
    ·rcases List.mem_append.mp hx with z | z
     ·exact I.lt x z
     ·rw [List.mem_singleton.mp z];exact htn
    ·rw [hu] at hv
     cases hv
     exact hun
    ·rcases I.st with ⟨e,_⟩ | ⟨_,z,hz,ez⟩
     ·simp only at e
      rw [e]
      trivial
     ·exact zI7 ez.symm I.fc hz
    ·rcases I.st with ⟨e,e2⟩ | ⟨hh,_⟩
     ·simp only at e e2
      rw [e]
      simpa using e2
     ·simp only at hh ⊢
      cases met with
      | nil=>simp at hh
      | cons a s=>simpa using hh
    ·simp only [length_append,length_singleton]
     omega) 100 ([],some r) ⟨by simp,by simp,fun t e=>by cases e;exact hr,trivial,.inl ⟨rfl,rfl⟩⟩ (by simp;omega)
 obtain ⟨met,here⟩:=b'
 obtain ⟨t,eh,htm,hh,z,hz,ez⟩:∃t,here=some t/\t∈met/\met.head?=some r/\∃z,met.getLast?=some z/\here=rkA ch z:=by
  rcases I.st with ⟨e,e2⟩ | ⟨hh,z,hz,ez⟩
  ·simp only at e e2
   subst e e2
   simp at ht
  ·simp only at hh hz ez
   obtain ⟨t,hu,_⟩:=hc z (I.lt z (List.mem_of_getLast? hz))
   rw [hu] at ez
   subst ez
   simp only [Bool.not_eq_false',contains_iff_mem] at ht
   exact ⟨t,rfl,ht,hh,z,hz,hu.symm⟩
 subst eh
 obtain ⟨j,hj⟩:=ixI_has htm
 obtain ⟨hjl,hjt⟩:=ixI_take hj
 have mlen:=zHL I.nd I.lt
 simp only at mlen
 have hz0:sSet true 2 (eList .leaf eNil) (zAL 5 [rks ch,rm r])=.nx [some ⟨.leaf,rks ch⟩,some ⟨.leaf,rm r⟩,some ⟨.lst .leaf,rms []⟩,none,none]:=zHX (zDP v_nil rfl rfl rfl) rfl (by simp [zAL])
 have tk:met.take j++met.drop j=met:=List.take_append_drop _ _
 have hd1:(met.drop j).take 1=[t]:=by
  rw [drop_eq_getElem_cons hjl]
  rw [getD_eq_getElem?_getD,getElem?_eq_getElem hjl] at hjt
  exact congrArg (fun x=>[x]) hjt
 refine ⟨met.take j,met.drop j,?_,⟨?_,?_,?_,?_,?_⟩⟩
 ·refine rt_of ?_
  refine x_seq hz0 ?_
  refine x_seq (Γ1:=GA ch r ([],some r)) (zA0 (zAC rfl) rfl (by simp)) ?_
  refine x_seq (Γ1:=GA ch r (met,some t)) ?_ ?_
  ·unfold zH2
   exact e1
  refine x_seq (x_if (t:=false) (zAY (s:=.leaf) (v_op (zAC rfl) v_k rfl)) nofun fun _=>rfl) ?_
  refine x_frz (p:=⟨.lst .leaf,rms met⟩) rfl ?_
  have ix:eIxN 2 (eVar 3) [some ⟨.leaf,rks ch⟩,some ⟨.leaf,rm r⟩,some ⟨.leaf,rms met⟩,some ⟨.leaf,rm t⟩,none]=.ok ⟨.leaf,.int (j:Int)⟩ [some ⟨.leaf,rks ch⟩,some ⟨.leaf,rm r⟩,some ⟨.leaf,rms met⟩,some ⟨.leaf,rm t⟩,none]:=by
   unfold eIxN
   simp only [getElem?_cons_succ,List.getElem?_cons_zero,isLfL,if_true]
   rw [zAC (d:=rm t) rfl]
   simp only [Out.bind,ixNK,getElem?_cons_succ,List.getElem?_cons_zero]
   rw [ints_rms]
   simp only
   rw [hj]
  refine x_seq (Γ1:=[some ⟨.leaf,rks ch⟩,some ⟨.leaf,rm r⟩,some ⟨.leaf,rms met⟩,some ⟨.leaf,rm t⟩,some ⟨.leaf,.int (j:Int)⟩]) (zA0 ix rfl (by simp)) ?_
  have q1:=v_sl2 (g:=fun k=>(none,some k)) (Γ:=[some ⟨.leaf,rks ch⟩,some ⟨.leaf,rm r⟩,some ⟨.leaf,rms met⟩,some ⟨.leaf,rm t⟩,some ⟨.leaf,.int (j:Int)⟩]) (fa:=eVar 2) (fb:=eVar 4) (k:=(j:Int)) (zAC rfl) (zAC rfl) ok_rms
  have q2:=v_sl2 (g:=fun k=>(some k,none)) (Γ:=[some ⟨.leaf,rks ch⟩,some ⟨.leaf,rm r⟩,some ⟨.leaf,rms met⟩,some ⟨.leaf,rm t⟩,some ⟨.leaf,.int (j:Int)⟩]) (fa:=eVar 2) (fb:=eVar 4) (k:=(j:Int)) (zAC rfl) (zAC rfl) ok_rms
  simp only at q1 q2
  rw [sl_to] at q1
  rw [sl_from] at q2
  exact x_ret (v_tup (zAE q1 (zAE q2 v_nil)) rfl rfl) rfl
 ·intro e
  rw [e] at hd1
  simp at hd1
 ·rw [tk];exact I.lt
 ·rw [tk];exact I.nd
 ·rw [tk];exact hh
 ·rw [tk,hd1]
  exact zI7 ez.symm I.fc hz
end KC
namespace KC
section
variable {n:Nat} {st:Nat->List Nat} {ch:Nat->Bool} {goal:List Nat} {rk:List (Option Nat)}
theorem few_below (R:RightG n st ch (List.range n) goal rk) (F:Few st ch goal rk) (cl:∀r t,t∈st r->t<n) {r j:Nat} (hr:r<n) (e:rkA rk r=some (j+1)):∃t,t<n/\rkA rk t=some j:=by
 have hg:r∉goal:=fun z=>by have:=R.g r hr z;rw [e] at this;cases this
 refine Classical.byContradiction fun no=>F r (j+1) hg e (zED (R.p r (j+1) hr hg e).2.2 fun t ht ⟨i,ei,hi⟩=>⟨i,ei,?_⟩)
 have:i≠j:=fun z=>no ⟨t,cl r t ht,by rw [ei,z]⟩
 omega
theorem few_all (R:RightG n st ch (List.range n) goal rk) (F:Few st ch goal rk) (cl:∀r t,t∈st r->t<n):∀j r,r<n->rkA rk r=some j->∀i,i<=j->∃t,t<n/\rkA rk t=some i
 | 0,r,hr,e,i,hi=>⟨r,hr,by rw [e,Nat.le_zero.mp hi]⟩
 | j+1,r,hr,e,i,hi=>by
  by_cases q:i=j+1
  ·exact ⟨r,hr,by rw [e,q]⟩
  ·obtain ⟨t,ht,et⟩:=few_below R F cl hr e
   exact few_all R F cl j t ht et i (by omega)
open Classical in
theorem few_le (R:RightG n st ch (List.range n) goal rk) (F:Few st ch goal rk) (cl:∀r t,t∈st r->t<n) {j r:Nat} (hr:r<n) (e:rkA rk r=some j):j<n:=by
 have h:=few_all R F cl j r hr e
 let f:Nat->Nat:=fun i=>if q:i<=j then choose (h i q) else 0
 have hf:∀i,i<=j->f i<n/\rkA rk (f i)=some i:=fun i q=>by
  have:=choose_spec (h i q)
  show (if q:i<=j then choose (h i q) else 0)<n/\_
  simp only [f,dif_pos q]
  exact this
 have:=zHL (p:=(List.range (j+1)).map f) (n:=n) (by
  unfold List.Nodup
  rw [pairwise_map]
  refine List.Pairwise.imp_of_mem (fun {a b} ha hb ne=>fun z=>ne ?_) List.nodup_range
  have e1:=(hf a (by have:=List.mem_range.mp ha;omega)).2
  have e2:=(hf b (by have:=List.mem_range.mp hb;omega)).2
  rw [z,e2] at e1
  cases e1
  rfl) (fun x hx=>by
  obtain ⟨i,hi,rfl⟩:=List.mem_map.mp hx
  exact (hf i (by have:=List.mem_range.mp hi;omega)).1)
 simp at this
 omega
end
open PySem PySem.Spec L2 T PySem.SeqAt
open PyProof.Rows hiding St
theorem fch_all {ch:List (Option Nat)} {Q:Nat->Prop}:∀{l:List Nat},FCh ch l->(∀x∈l,∀t,rkA ch x=some t->Q x->Q t)->(∀a,l.head?=some a->Q a)->∀x∈l,Q x
 | [],_,_,_,x,hx=>by simp at hx
 | [a],_,_,h,x,hx=>by
  rw [List.mem_singleton.mp hx]
  exact h a rfl
 | a::b::r,f,c,h,x,hx=>by
  have ha:=h a rfl
  rcases List.mem_cons.mp hx with z | z
  ·rw [z];exact ha
  ·refine fch_all (l:=b::r) f.2 (fun x hx=>c x (mem_cons_of_mem _ hx)) (fun d hd=>?_) x z
   simp at hd
   rw [<-hd]
   exact c a (by simp) b f.1 ha
theorem zI8 {ch:List (Option Nat)} {a:Nat}:∀{l:List Nat},FCh ch (l++[a])->∀x∈l,∃t,rkA ch x=some t/\(t∈l\/t=a)
 | [],_,x,hx=>by simp at hx
 | [b],f,x,hx=>by
  rw [List.mem_singleton.mp hx]
  exact ⟨a,f.1,.inr rfl⟩
 | b::c::l,f,x,hx=>by
  rcases List.mem_cons.mp hx with z | z
  ·rw [z];exact ⟨c,f.1,.inl (by simp)⟩
  ·obtain ⟨t,e,h⟩:=zI8 (l:=c::l) f.2 x z
   exact ⟨t,e,h.imp (mem_cons_of_mem _) id⟩
section
variable {n r:Nat} {ch:List (Option Nat)} {F R:List Nat}
end
section
variable {w:Wd} {p:Int} {T:List Nat} {L:List Nat} {tn:List (Option (Nat×Nat))} {rk ch:List (Option Nat)} {r:Nat} {F R:List Nat}
end
section
variable {i j:Nat} {fe:F1} {s:Sh} {Γ:Ev} {e1 e2:Nat->D} {f:Nat->PV}
abbrev Γz (Γ:Ev) (i j:Nat) (e1 e2:Nat->D) (r:Nat):Ev:=(Γ.set i (some ⟨.leaf,e1 r⟩)).set j (some ⟨.leaf,e2 r⟩)
theorem compGoZ_ix (hij:i≠j) (hΓ:(Γ.set i none).set j none=Γ):∀(m k:Nat) (acc:List D),(∀r,k<=r->r<k+m->fe (Γz Γ i j e1 e2 r)=.ok (f r) (Γz Γ i j e1 e2 r)/\coer s (f r)=true)->acc.length+m<=sizeLine->zD3 i j bTrue fe s ((List.range' k m).map fun r=>(e1 r,e2 r)) Γ acc=.ok (acc++((List.range' k m).map fun r=>(f r).d)) Γ
 | 0,k,acc,_,_=>by simp [zD3]
 | m+1,k,acc,he,hl=>by
  have hl1:acc.length<sizeLine:=by omega
  have back:((Γz Γ i j e1 e2 k).set i none).set j none=Γ:=by
   unfold Γz
   rw [List.set_comm _ _ (Ne.symm hij),set_set,set_set]
   exact hΓ
  rw [List.range'_succ,map_cons,zD3]
  obtain ⟨h2,h3⟩:=he k (Nat.le_refl _) (by omega)
  have h2:fe ((Γ.set i (some ⟨.leaf,e1 k⟩)).set j (some ⟨.leaf,e2 k⟩))=_:=h2
  show (match fe ((Γ.set i (some ⟨.leaf,e1 k⟩)).set j (some ⟨.leaf,e2 k⟩)) with
   | .ok p Γ2=>if T.coer s p&&decide (acc.length<sizeLine) then zD3 i j bTrue fe s _ ((Γ2.set i none).set j none) (acc++[p.d]) else .no
   | _=>.no)=_
  rw [h2]
  dsimp only
  rw [h3,decide_eq_true hl1,Bool.and_self,if_pos rfl,back,compGoZ_ix hij hΓ m (k+1) (acc++[(f k).d]) (fun r h1 h2=>he r (by omega) (by omega)) (by simp only [length_append,length_cons,List.length_nil];omega)]
  rw [map_cons,append_assoc]
  rfl
end
def mixA (a b:List (Option Nat)) (r:Nat):Option Nat:=if (rkA a r).isNone then rkA b r else rkA a r
def mixL (n:Nat) (a b:List (Option Nat)):List (Option Nat):=(List.range n).map (mixA a b)
theorem zJW {n:Nat} {a b:List (Option Nat)} {r:Nat} (h:r<n):rkA (mixL n a b) r=mixA a b r:=by
 unfold mixL rkA
 rw [getD_eq_getElem?_getD,getElem?_map,getElem?_range h]
 rfl
theorem den_check_room {w:Wd} (ok:w.Ok) {r:Nat} (hr:r<w.n):zC2 [w.enc,rm r]=.ok ⟨.leaf,.none⟩:=by
 have c:=v_chain (g:=gLe) (g':=gLt) (Γ:=zAL 2 [w.enc,rm r]) (fa:=eK (.int 0)) (fb:=eVar 1) (fc:=eCB gLen (eCons (eIdx (eVar 0) (eK (.int 0))) eNil)) (b:=decide ((0:Int)<=(r:Int))) (b':=decide ((r:Int)<(w.n:Int))) v_k (zAC (i:=1) rfl) rfl rfl (zJO ok rfl) rfl
 have t:=b_not (zAY (s:=.leaf) c)
 rw [decide_eq_true (show (0:Int)<=(r:Int) by omega),decide_eq_true (show (r:Int)<(w.n:Int) by omega)] at t
 exact nx_of (x_if t nofun fun _=>rfl)
theorem v_ifz {c:FB} {fa fb:F1} {Γ:Ev} {t:Bool} {p:PV} (hc:c Γ=.ok t Γ) (ha:t=true->fa Γ=.ok p Γ) (hb:t=false->fb Γ=.ok p Γ):eIf c fa fb Γ=.ok p Γ:=by
 unfold eIf;rw [hc];simp only [zH3]
 cases t with
 | true=>exact ha rfl
 | false=>exact hb rfl
theorem den_way_by {w:Wd} (ok:w.Ok) {a b:List (Option Nat)} (ha:PlanOk w 0 a) (hb:PlanOk w 1 b) {r:Nat} (hr:r<w.n) (hm:∀x,x<w.n->mixA a b x≠none):∃F R,zG5 [w.enc,rks a,rks b,rm r]=.ok ⟨.leaf,wy F R⟩/\Lasso w.n (mixL w.n a b) r F R:=by
 have h24:=ok.h24
 obtain ⟨F,R,ew,L⟩:=den_along' (n:=w.n) h24 (ch:=mixL w.n a b) (by simp [mixL]) (fun x hx=>by
  rw [zJW hx]
  obtain ⟨t,ht⟩:=Option.ne_none_iff_exists'.mp (hm x hx)
  refine ⟨t,ht,?_⟩
  unfold mixA at ht
  split at ht
  ·exact ok.stp_lt (hb.st x t hx ht).2
  ·exact ok.stp_lt (ha.st x t hx ht).2) hr
 refine ⟨F,R,rt_of ?_,L⟩
 have z:zHN .leaf 6 7 (eCons (eVar 1) (eCons (eVar 2) eNil)) bTrue (eIf (bOf gBool (eOp (gIsN false) (eVar 6) (eK .none))) (eVar 7) (eVar 6)) (zAL 8 [w.enc,rks a,rks b,rm r])=.ok ⟨.lst .leaf,rks (mixL w.n a b)⟩ (zAL 8 [w.enc,rks a,rks b,rm r]):=by
  have g:=compGoZ_ix (i:=6) (j:=7) (s:=.leaf) (fe:=eIf (bOf gBool (eOp (gIsN false) (eVar 6) (eK .none))) (eVar 7) (eVar 6)) (Γ:=zAL 8 [w.enc,rks a,rks b,rm r]) (e1:=fun r=>oD (rkA a r)) (e2:=fun r=>oD (rkA b r)) (f:=fun r=>⟨.leaf,oD (mixA a b r)⟩) (by omega) rfl w.n 0 [] (fun x _ hx=>⟨v_ifz (t:=(rkA a x).isNone) (zAY (s:=.leaf) (v_op (zAC (i:=6) (d:=oD (rkA a x)) rfl) v_k (by cases rkA a x<;>rfl))) (fun h=>by
    unfold mixA
    rw [h]
    exact zAC rfl) (fun h=>by
    unfold mixA
    rw [h]
    exact zAC rfl),by cases mixA a b x<;>rfl⟩) (by
    have:(10000:Nat)<=sizeLine:=by decide
    simp
    omega)
  unfold zHN
  rw [zAE (zAC (i:=1) rfl) (zAE (zAC (i:=2) rfl) v_nil)]
  simp only [Out.bind]
  unfold zipK
  have zz:(a.map oD).zip (b.map oD)=(List.range' 0 w.n).map fun r=>(oD (rkA a r),oD (rkA b r)):=by
   rw [zG2 ha.len,zG2 hb.len,List.zip_map',<-List.range_eq_range']
  have o1:∀pl:List (Option Nat),zAP ⟨.leaf,.list (pl.map oD)⟩ (pl.map oD)=true:=fun pl=>rfl
  simp only [o1,length_map,ha.len,hb.len]
  rw [zz]
  have g:zD3 6 7 bTrue _ Sh.leaf _ (zAL 8 [w.enc,.list (a.map oD),.list (b.map oD),rm r]) []=_:=g
  rw [g]
  have:(rks (mixL w.n a b))=.list ([]++(List.range' 0 w.n).map fun r=>oD (mixA a b r)):=by
   unfold rks mixL
   rw [map_map,nil_append,<-List.range_eq_range']
   rfl
  rw [this]
  simp only [decide_true,Bool.and_true]
  rfl
 refine x_seq (zFN (zAT (zAE (zAC rfl) v_nil) ok.check rfl rfl)) ?_
 refine x_seq (zFN (zAT (zAE (zAC rfl) (zAE (zAC rfl) v_nil)) (den_check_room ok hr) rfl rfl)) ?_
 refine x_seq (zFN (zAT (zAE (zAC rfl) (zAE v_k (zAE (zAC rfl) v_nil))) (zEK ok ha) rfl rfl)) ?_
 refine x_seq (zFN (zAT (zAE (zAC rfl) (zAE v_k (zAE (zAC rfl) v_nil))) (zEK ok hb) rfl rfl)) ?_
 refine x_seq (zA0 z rfl (by simp [zAL])) ?_
 refine x_seq (zA0 (zAT (zAE (zAC rfl) (zAE (zAC rfl) v_nil)) ew rfl rfl) rfl (by simp [zAL])) ?_
 exact x_seq (x_if (zAY (s:=.leaf) (v_op (zAC rfl) v_k rfl)) nofun fun _=>rfl) (x_ret (zAC rfl) rfl)
end KC
namespace T
open PySem PySem.Spec L2
open PyProof.Rows hiding St
section
variable {K:Fg} {W:XW} {σ:St} {H:Hp} {Q:VK} {fa:F1} {fl:FL}
end
section
variable {X:Cx} {N gl:List Str} {vs cs ls lo gs:List Nat} {W:XW} {a b:Expr} {p pos:Pos} {fl:FL}
end
end T
namespace TQ
open PySem PySem.Spec L2 T
open PyProof.Rows hiding St
section
variable {X:Cx} {N gl:List Str} {vs cs ls lo gs:List Nat} {W:XW} {a b:Expr} {p pos:Pos} {fl:FL}
end
end TQ
namespace T
open PySem
theorem zJC {xs:Array Nat} {j p:Nat} (hp:∀k,k<xs.size->(xs.getD k j<j↔k<p)):∀(fuel lo hi:Nat),lo<=p->p<=hi->hi<=xs.size->hi-lo<=fuel->SetTable.below.go xs j fuel lo hi=p
 | 0,lo,hi,h1,h2,h3,h4=>by
  unfold SetTable.below.go
  omega
 | n+1,lo,hi,h1,h2,h3,h4=>by
  unfold SetTable.below.go
  by_cases c:lo<hi
  ·rw [if_pos c]
   have hm:=hp ((lo+hi) / 2) (by omega)
   simp only
   by_cases d:xs.getD ((lo+hi) / 2) j<j
   ·rw [if_pos d]
    have:=hm.mp d
    exact zJC hp n _ _ (by omega) h2 h3 (by omega)
   ·rw [if_neg d]
    have:¬(lo+hi) / 2<p:=fun z=>d (hm.mpr z)
    exact zJC hp n _ _ h1 (by omega) (by omega) (by omega)
  ·rw [if_neg c]
   omega
theorem zJB {xs:Array Nat} {j p:Nat} (hp:∀k,k<xs.size->(xs.getD k j<j↔k<p)) (hs:p<=xs.size):SetTable.below xs j=p:=zJC hp xs.size 0 xs.size (Nat.zero_le _) hs (Nat.le_refl _) (by omega)
def Rs (xs:Array Nat):Prop:=xs.toList.Pairwise (· < ·)
theorem Rs.lt {xs:Array Nat} (h:Rs xs) {i k:Nat} (hi:i<xs.size) (hk:k<xs.size) (hik:i<k):xs[i]<xs[k]:=by
 have:=(List.pairwise_iff_getElem.mp h) i k (by simpa using hi) (by simpa using hk) hik
 simpa using this
theorem below_zero {xs:Array Nat}:SetTable.below xs 0=0:=zJB (fun k _=>by simp) (Nat.zero_le _)
theorem zGN {xs:Array Nat} {k j:Nat} (hk:k<xs.size):xs.getD k j=xs[k]:=by
 unfold Array.getD
 rw [dif_pos hk]
 rfl
theorem below_next {xs:Array Nat} (h:Rs xs) {i:Nat} (hi:i<xs.size):SetTable.below xs (xs[i]+1)=i+1:=by
 refine zJB (fun k hk=>?_) (by omega)
 rw [zGN hk]
 rcases Nat.lt_trichotomy k i with c | c | c
 ·have:=h.lt hk hi c
  omega
 ·subst c
  omega
 ·have:=h.lt hi hk c
  omega
theorem part_point (j:Nat):∀(l:List Nat),l.Pairwise (· < ·)->∀k,k<l.length->(l.getD k j<j↔k<l.countP (·<j))
 | [],_,k,hk=>by simp at hk
 | a::l,h,k,hk=>by
  obtain ⟨h1,h2⟩:=List.pairwise_cons.mp h
  rw [List.countP_cons]
  by_cases c:a<j
  ·simp only [c,decide_true,if_true]
   cases k with
   | zero=>simpa using c
   | succ k=>
    have:=part_point j l h2 k (by simpa using hk)
    simp only [List.getD_cons_succ]
    omega
  ·have z:l.countP (·<j)=0:=List.countP_eq_zero.mpr fun b hb=>by
    have:=h1 b hb
    simp
    omega
   simp only [c,decide_false,Bool.false_eq_true,if_false,z]
   cases k with
   | zero=>simp;omega
   | succ k=>
    have hk':k<l.length:=by simpa using hk
    simp only [List.getD_cons_succ]
    rw [getD_eq_getElem?_getD,getElem?_eq_getElem hk']
    have:=h1 _ (getElem_mem hk')
    simp only [Option.getD_some]
    omega
theorem Rs.point {xs:Array Nat} (h:Rs xs) (j:Nat):(∀k,k<xs.size->(xs.getD k j<j↔k<SetTable.below xs j))/\SetTable.below xs j<=xs.size:=by
 have hp:∀k,k<xs.size->(xs.getD k j<j↔k<xs.toList.countP (·<j)):=fun k hk=>by
  have:=part_point j xs.toList h k (by simpa using hk)
  rw [getD_eq_getElem?_getD,getElem?_eq_getElem (by simpa using hk)] at this
  rw [zGN hk]
  simpa using this
 have hc:xs.toList.countP (·<j)<=xs.size:=by
  have:=List.countP_le_length (p:=(·<j)) (l:=xs.toList)
  simpa using this
 rw [zJB hp hc]
 exact ⟨hp,hc⟩
theorem Rs.insert {xs:Array Nat} (h:Rs xs) {j:Nat} (hj:xs[SetTable.below xs j]?≠some j):Rs (SetTable.insertAt xs (SetTable.below xs j) j):=by
 obtain ⟨hp,hs⟩:=h.point j
 generalize SetTable.below xs j=p at hp hs hj
 unfold Rs SetTable.insertAt
 have e:(((xs.extract 0 p).push j)++xs.extract p xs.size).toList=xs.toList.take p++[j]++xs.toList.drop p:=by
  simp [Array.toList_extract,List.extract]
  rw [take_of_length_le (by simp)]
 rw [e,append_assoc,List.pairwise_append]
 have low:∀a∈xs.toList.take p,a<j:=fun a ha=>by
  obtain ⟨k,hk,rfl⟩:=List.getElem_of_mem ha
  rw [length_take] at hk
  have hk':k<xs.size:=by
   have:k<xs.toList.length:=by omega
   simpa using this
  have:=(hp k hk').mpr (by omega)
  rw [zGN hk'] at this
  simpa using this
 have up:∀a∈xs.toList.drop p,j<a:=fun a ha=>by
  obtain ⟨k,hk,rfl⟩:=List.getElem_of_mem ha
  rw [length_drop,Array.length_toList] at hk
  have hk':p+k<xs.size:=by omega
  have q:¬xs.getD (p+k) j<j:=fun z=>by have:=(hp (p+k) hk').mp z;omega
  rw [zGN hk'] at q
  have e1:(xs.toList.drop p)[k]=xs[p+k]:=by simp
  rw [e1]
  have hne:xs[p+k]≠j:=fun z=>by
   cases k with
   | zero=>
    simp only [Nat.add_zero] at z
    exact hj (by rw [Array.getElem?_eq_getElem (by omega),z])
   | succ k=>
    have hp':p<xs.size:=by omega
    have q0:¬xs.getD p j<j:=fun z=>by have:=(hp p hp').mp z;omega
    rw [zGN hp'] at q0
    have:=h.lt hp' hk' (by omega)
    omega
  omega
 refine ⟨h.sublist (List.take_sublist _ _),?_,fun a ha b hb=>?_⟩
 ·rw [List.singleton_append,List.pairwise_cons]
  exact ⟨up,h.sublist (List.drop_sublist _ _)⟩
 ·have l1:=low a ha
  rw [List.singleton_append] at hb
  rcases List.mem_cons.mp hb with rfl | hb
  ·exact l1
  ·have:=up b hb
   omega
theorem rs_range {n:Nat}:Rs (Array.range n):=by
 unfold Rs
 rw [Array.toList_range]
 exact List.pairwise_lt_range
structure Tb (b:Bool) (t:SetTable):Prop where
 led:b=false->t.led=true
 rs:Rs t.place
 nd:t.dummies=#[]
theorem Tb.fresh {b:Bool}:Tb b (.fresh 0 0 (!b)):=⟨fun e=>by rw [e];rfl,List.Pairwise.nil,rfl⟩
theorem Tb.standIn {b:Bool} {t:SetTable} (h:Tb b t) (n:Nat):Tb b (t.standIn n):=⟨h.led,rs_range,rfl⟩
theorem Tb.orStandIn {b:Bool} {t:SetTable} (h:Tb b t) (n:Nat):Tb b (t.orStandIn n):=by
 unfold SetTable.orStandIn
 split
 ·exact h
 ·exact h.standIn n
theorem Tb.plain {b:Bool} {t:SetTable} (h:Tb b t) (p:Bool):Tb b { t with plain:=p }:=⟨h.led,h.rs,h.nd⟩
theorem no_dummy {j:Nat}:SetTable.has #[] j=false:=by
 unfold SetTable.has
 simp
theorem Tb.put {b:Bool} {t:SetTable} (h:Tb b t) {j:Nat} (hj:t.place[SetTable.below t.place j]?≠some j):Tb b (t.put j).1:=by
 refine ⟨h.led,h.rs.insert hj,?_⟩
 show (if SetTable.has t.dummies j=true then _ else t.dummies)=#[]
 rw [h.nd,no_dummy]
 rfl
theorem probe_empty {b:Bool} {t:SetTable} (h:Tb b t) {ha:Nat->Int} {k:Int}:∀(fuel:Nat) (p:SetTable.Probe),p.dummy=none->∀j d,SetTable.probe.go t ha k fuel p=some (.empty j d)->d=none/\t.place[SetTable.below t.place j]?≠some j
 | 0,p,_,j,d,e=>by unfold SetTable.probe.go at e;cases e
 | n+1,p,hp,j,d,e=>by
  unfold SetTable.probe.go at e
  have adv:(t.advance p).dummy=none:=by
   unfold SetTable.advance
   split
   ·exact hp
   ·exact hp
  cases q:t.slot p.j with
  | empty=>
   rw [q] at e
   simp only [Option.some.injEq,SetTable.Met.empty.injEq] at e
   obtain ⟨rfl,rfl⟩:=e
   refine ⟨hp,fun z=>?_⟩
   unfold SetTable.slot at q
   simp only [z,beq_self_eq_true,if_true] at q
   cases q
  | dummy=>
   unfold SetTable.slot at q
   simp only [h.nd,no_dummy] at q
   split at q<;>simp at q
  | live i=>
   rw [q] at e
   simp only at e
   split at e
   ·cases e
   ·exact probe_empty h n _ adv j d e
theorem Tb.free {b:Bool} {t:SetTable} (h:Tb b t) {k:Int} {j:Nat} {d:Bool} (e:t.freeSlot k=some (j,d)):t.place[SetTable.below t.place j]?≠some j:=by
 unfold SetTable.freeSlot at e
 cases q:t.probe (fun _=>k+1) k (t.probeStart k) with
 | none=>rw [q] at e;cases e
 | some m=>
  rw [q] at e
  cases m with
  | candidate _ _ _=>cases e
  | empty i x=>
   obtain ⟨rfl,hi⟩:=probe_empty h _ _ rfl i x q
   simp only [Option.some.injEq,Prod.mk.injEq] at e
   obtain ⟨rfl,_⟩:=e
   exact hi
theorem Tb.layNew {b:Bool} {t:SetTable} (h:Tb b t) (es:Array (Int×Value)) (k:Int) (x:Value):Tb b (PySem.layNew t es k x).2.1:=by
 unfold PySem.layNew
 cases e:t.freeSlot k with
 | none=>exact h.standIn _
 | some jd=>
  obtain ⟨j,d⟩:=jd
  exact (h.put (h.free e)).orStandIn _
theorem laid_tb {b led plain:Bool} {mask fg mv:Nat} {hs:Array Int} {t:SetTable} {o:Array Nat} (hl:b=false->led=true) (e:SetTable.laid mask fg mv led plain hs=some (t,o)):Tb b t:=by
 unfold SetTable.laid at e
 cases q:SetTable.layClean mask hs with
 | none=>rw [q] at e;cases e
 | some ow=>
  rw [q] at e
  simp only [Option.bind_eq_bind,Option.bind_some,Option.pure_def,Option.some.injEq,Prod.mk.injEq] at e
  obtain ⟨rfl,_⟩:=e
  refine ⟨hl,?_,rfl⟩
  unfold Rs
  simp only [List.toList_toArray]
  rw [pairwise_map]
  refine List.Pairwise.filterMap _ (R:=(· < ·)) (fun a a' haa' c hc c' hc'=>?_) List.pairwise_lt_range
  cases x:ow.getD a none with
  | none=>rw [x] at hc;cases hc
  | some y=>
   cases x':ow.getD a' none with
   | none=>rw [x'] at hc';cases hc'
   | some y'=>
    rw [x] at hc
    rw [x'] at hc'
    cases hc
    cases hc'
    exact haa'
theorem Tb.relay {b:Bool} {t:SetTable} (h:Tb b t) (es:Array (Int×Value)) (n:Nat):Tb b (relayAll t es n).2.1:=by
 unfold relayAll
 cases e:t.relaid (es.map (·.1)) n with
 | none=>exact h.standIn _
 | some to=>
  obtain ⟨t',o⟩:=to
  simp only
  split
  ·unfold SetTable.relaid at e
   exact laid_tb h.led e
  ·exact h.standIn _
open PySem.Spec L2
open PyProof.Rows hiding St
abbrev byTx (w:World):Bool:=w.params.followText "set-order"
def SetT (P:Program) (w:World) (h:Heap) (a:Addr) (S:Int->Bool) (n:Nat):Prop:=
 ∃o es ep t,h.get? a=some o/\o.ExactSet/\o.data=.set es ep t/\ElemsOf (intKind P w) es.toList/\(∀k,S k=true↔∃e∈es.toList,(intKind P w).is k e.2=true)/\es.size<scanBound/\t.fits es.size=true/\es.size=n/\Tb (byTx w) t
section
variable {P:Program} {w:World} {A:Around} {E:Value->Shared->Prop} {s:Shared}
theorem SetT.at {h h':Heap} {a:Addr} {S:Int->Bool} {n:Nat} (x:SetT P w h a S n) (k:∀o,h.get? a=some o->h'.get? a=some o):SetT P w h' a S n:=by
 obtain ⟨o,es,ep,t,ho,r⟩:=x
 exact ⟨o,es,ep,t,k o ho,r⟩
theorem SetT.congr {h:Heap} {a:Addr} {S S':Int->Bool} {n n':Nat} (x:SetT P w h a S n) (e:∀k,S k=S' k) (en:n=n'):SetT P w h a S' n':=by
 have:S=S':=funext e
 subst this en
 exact x
theorem store_t {h:Heap} {a:Addr} {o:Obj} {es es':Array (Int×Value)} {ep:Nat} {t t':SetTable} {S:Int->Bool} (ho:h.get? a=some o) (hex:o.ExactSet) (hd:o.data=.set es ep t) (hel:ElemsOf (intKind P w) es'.toList) (hm:∀k,S k=true↔∃e∈es'.toList,(intKind P w).is k e.2=true) (hb:es'.size<scanBound) (hf:t'.fits es'.size=true) (tb:Tb (byTx w) t') :
  (h.update a (Obj.putSet es' t')).get? a=some { o with data:=.set es' (ep+1) t' }/\SetT P w (h.update a (Obj.putSet es' t')) a S es'.size:=by
 have q:=(SetOf_store (knd:=intKind P w) ho hex hd hel hm hb hf).1
 exact ⟨q,_,es',ep+1,t',q,hex,rfl,hel,hm,hb,hf,rfl,tb⟩
theorem add_t {a:Addr} {S:Int->Bool} {n:Nat} {k:Int} {x:Value} {Q:Bool->Shared->Prop} (hk:(intKind P w).is k x=true) (hx:x.scannable=true) (hS:SetT P w s.heap a S n) (hr:n+1<scanBound)
  (h:∀h',Heap.SameBut a s.heap h'->SetT P w h' a (fun i=>S i||decide (i=k)) (if S k then n else n+1)->∀b,Q b { s with heap:=h' }):wpAny (model P w) A (setAddHashed a x ((intKind P w).hash k)) Q E s:=by
 obtain ⟨o,es,ep,t,ho,hex,hd,hel,hm,hb,hf,hn,tb⟩:=hS
 unfold setAddHashed setAddHashedIn
 refine wpAny_holding (wpAny_bind (wpAny_setState_of ho hd hf ?_))
 dsimp only
 rw [byScan_of hx hb hel,if_pos rfl]
 unfold setAddByScan
 refine wpAny_bind (wpAny_bind (wpAny_rule (wpAny_bind (wpAny_setScan_of hk ho hd hf hel ?_))))
 cases q:List.findIdx? (fun e=>(intKind P w).is k e.2) es.toList with
 | some j=>
  dsimp only
  obtain ⟨hj,hp,_⟩:=List.findIdx?_eq_some_iff_getElem.mp q
  have sk:S k=true:=(hm k).mpr ⟨_,getElem_mem hj,hp⟩
  refine wpAny_pure (wpAny_pure ?_)
  have z:=h s.heap (Heap.SameBut.refl a s.heap) ⟨o,es,ep,t,ho,hex,hd,hel,fun i=>?_,hb,hf,by rw [sk];exact hn,tb⟩ false
  ·have es':s={ s with heap:=s.heap }:=by cases s;rfl
   rw [es']
   exact z
  ·rw [Bool.or_eq_true,decide_eq_true_eq,<-hm i]
   exact ⟨fun y=>y.elim id fun e=>e▸sk,.inl⟩
 | none=>
  dsimp only
  have sk:S k=false:=by
   cases e:S k with
   | false=>rfl
   | true=>
    obtain ⟨y,hy,hp⟩:=(hm k).mp e
    have:=List.findIdx?_eq_none_iff.mp q y hy
    rw [hp] at this
    cases this
  have pm:=layNew_perm t es ((intKind P w).hash k) x
  have ft:=layNew_fits t es ((intKind P w).hash k) x
  have tb1:=tb.layNew es ((intKind P w).hash k) x
  generalize layNew t es ((intKind P w).hash k) x=L at pm ft tb1 ⊢
  obtain ⟨e1,t1,wd,gv⟩:=L
  dsimp only at pm ft tb1 ⊢
  rw [Array.toList_push] at pm
  have el1:ElemsOf (intKind P w) e1.toList:=(hel.push hk hx).perm pm
  have m1:=fun i=>mem_push_iff hk hm pm i
  have sz:e1.size=n+1:=by rw [<-Array.length_toList,pm.length_eq,length_append,Array.length_toList,hn];rfl
  have b1:e1.size<scanBound:=by rw [sz];exact hr
  have gw:∀(b:Bool) {s1:Shared} {R:Unit->Shared->Prop},R () s1->wpAny (model P w) A (match b with | true=>rule "set.scan.the-table-gave-way" | false=>pure ()) R E s1:=fun b s1 R y=>by
   cases b
   ·exact wpAny_pure y
   ·exact wpAny_rule y
  have fin:∀h',Heap.SameBut a s.heap h'->SetT P w h' a (fun i=>S i||decide (i=k)) e1.size->∀b,Q b { s with heap:=h' }:=fun h' sb y=>by
   have:=h h' sb
   rw [sk] at this
   rw [sz] at y
   exact this y
  have tail:∀t2:SetTable,t2.fits e1.size=true->Tb (byTx w) t2->∀{R:Option Bool->Shared->Prop},(∀h',(∀b,Q b { s with heap:=h' })->R (some true) { s with heap:=h' })->wpAny (model P w) A (do
    storeSet a e1 t2
    if (!wd&&t2.tooFull)=true then do
      (match (relayAll t2 e1 (SetTable.grown e1.size)).2.2 with | true=>rule "set.scan.the-table-gave-way" | false=>pure ())
      storeSet a (relayAll t2 e1 (SetTable.grown e1.size)).1 (relayAll t2 e1 (SetTable.grown e1.size)).2.1
      pure (some true)
     else pure (some true)) R E s:=fun t2 f2 tb2 R hR=>by
   refine wpAny_bind (wpAny_storeSet_of ho hd ?_ (fits_of_scanBound b1))
   obtain ⟨g1,s1⟩:=store_t ho hex hd el1 m1 b1 f2 tb2
   have sb1:=Heap.SameBut.update s.heap a (Obj.putSet e1 t2)
   split
   ·have pr:=relayAll_perm t2 e1 (SetTable.grown e1.size)
    have fr:=relayAll_fits t2 e1 (SetTable.grown e1.size)
    have tr:=tb2.relay e1 (SetTable.grown e1.size)
    generalize relayAll t2 e1 (SetTable.grown e1.size)=Rl at pr fr tr ⊢
    obtain ⟨e2,t3,g2⟩:=Rl
    dsimp only at pr fr tr ⊢
    have sz2:e2.size=e1.size:=by rw [<-Array.length_toList,pr.length_eq,Array.length_toList]
    have b2:e2.size<scanBound:=by rw [sz2];exact b1
    refine wpAny_bind (gw _ (wpAny_bind (wpAny_storeSet_of g1 rfl ?_ (fits_of_scanBound b2))))
    obtain ⟨_,s2⟩:=store_t (P:=P) (S:=fun i=>S i||decide (i=k)) g1 hex rfl (el1.perm pr) (fun i=>(m1 i).trans ⟨fun ⟨e,he,y⟩=>⟨e,pr.mem_iff.mpr he,y⟩,fun ⟨e,he,y⟩=>⟨e,pr.mem_iff.mp he,y⟩⟩) b2 fr tr
    rw [sz2] at s2
    exact wpAny_pure (hR _ (fin _ (sb1.trans (Heap.SameBut.update _ a _)) s2))
   ·exact wpAny_pure (hR _ (fin _ sb1 s1))
  refine wpAny_bind (gw _ ?_)
  split
  ·refine wpAny_bind ?_
   rw [hashByValue_scannable 8 hx]
   refine wpAny_pure ?_
   refine tail _ ?_ ?_ fun h' y=>?_
   ·split
    ·exact ft
    ·exact SetTable.fits_plain_off ft
   ·split
    ·exact tb1
    ·exact tb1.plain false
   ·exact wpAny_pure (y true)
  ·refine wpAny_bind (wpAny_pure ?_)
   simp only [if_true]
   exact tail _ ft tb1 fun h' y=>wpAny_pure (y true)
end
section
variable {P:Program} {w:World} {A:Around} {R:Result->Shared->Prop} {I:Addr} {fp wr:List Addr} {G:Array GenState->Array GenState->Prop} {n:Nat} {Pr:Nat->Value->Prop} {Sn:Nat->Shared->Prop}
theorem upd_t (W:WalksS P w A.in1 I fp wr G n Pr Sn) (S:Addr) (hS:S∉fp) (val:Nat->Int) (hv:∀i v,Pr i v->∃t,v=.int (val i) t) (hb:n+1<scanBound):∀(k i:Nat) (s:Shared),n-i=k->i<=n->Sn i s->SetT P w s.heap S (fun z=>(firstMet val i).any (·==z)) (firstMet val i).length ->
   (∀s',Moved (S::wr) G s s'->SetT P w s'.heap S (fun z=>(firstMet val n).any (·==z)) (firstMet val n).length->R (.ok (.ret .none)) s')->codeAny (model P w) A (.builtin "set.update.loop" ⟨[.ref S,.ref I],[]⟩) R s:=by
 have hw:S∉wr:=fun z=>hS (W.sub _ z)
 have sub:∀b∈wr,b∈S::wr:=fun b z=>mem_cons_of_mem _ z
 intro k
 induction k with
 | zero=>
  intro i s hk hi st x hR
  obtain rfl:i=n:=by omega
  refine codeAny_builtin F.entry_set_update_loop ?_
  rw [Around.under_plainId F.plain_set_update_loop _]
  refine wpAny_bind (W.done s _ _ st fun s' mv=>?_)
  exact wpAny_pure (hR s' (mv.mono sub) (x.at fun o e=>mv.heap S o hw e))
 | succ k ih=>
  intro i s hk hi st x hR
  have lt:i<n:=by omega
  refine codeAny_builtin F.entry_set_update_loop ?_
  rw [Around.under_plainId F.plain_set_update_loop _]
  refine wpAny_bind (W.item i s _ _ lt st fun v s' pv st' mv=>?_)
  obtain ⟨t,rfl⟩:=hv i v pv
  have x':=x.at fun o e=>mv.heap S o hw e
  refine wpAny_bind (wpAny_holding ?_)
  unfold setAdd
  refine wpAny_holding (wpAny_bind ((intKind P w).pyHash (k:=val i) (intKind_is _ _ _ _) ?_))
  have room:(firstMet val i).length+1<scanBound:=by have:=firstMet_length_le val i;omega
  refine add_t (s:={ s' with toks:=s'.toks+1 }) (intKind_is _ _ _ _) rfl x' room fun h' sb x2 b=>?_
  have x3:SetT P w h' S (fun z=>(firstMet val (i+1)).any (·==z)) (firstMet val (i+1)).length:=x2.congr (fun z=>by rw [firstMet_succ,step_any]) (by rw [firstMet_succ,step_length])
  refine wpAny_pure ⟨plainId_quiet F.plain_set_update_loop _,ih (i+1) _ (by omega) lt (W.frame _ s' _ _ st' (Nat.le_succ _) fun c hc o e=>?_) x3 fun s2 mv2 x4=>?_⟩
  ·rw [sb.2 c fun z=>hS (by rw [<-z];exact hc)]
   exact e
  ·refine hR s2 (Moved.trans W.gtrans ((mv.mono sub).then_heap (Nat.le_succ _) fun c o hc e=>?_) mv2) x4
   rw [sb.2 c fun z=>hc (by rw [z];exact mem_cons_self)]
   exact e
end
section
variable {P:Program} {w:World} {A:Around} {E:Value->Shared->Prop} {s:Shared}
abbrev newO (w:World):Obj:={ cls:=.type "set",dict:=none,data:=.set #[] 0 (.fresh 0 0 (!byTx w)) }
theorem new_t (a:Value) {Q:Value->Shared->Prop} (h:Q (.ref s.heap.objs.size) { s with heap:=s.heap.push (newO w) }):codeAny (model P w) A (.call (.builtin "set.__new__") ⟨[.type "set",a],[]⟩) (wants Q E) s:=by
 refine codeAny_of_tree ?_
 refine wpAny_bind (wpAny_of_eq (F.newCall_set_1 a) (wpAny_pure ⟨plainId_quiet F.plain_set_new _,codeAny_builtin F.entry_set_new ?_⟩))
 rw [Around.under_plainId F.plain_set_new _]
 unfold Builtin.«set.__new__» Builtin.Frozenset.newClass
 have sub:=sub_set_self
 obtain ⟨hp,g,d,tk,os⟩:=s
 dsimp only
 wp_walk
 refine wpAny_askSetting (wpAny_pure ?_)
 dsimp only
 simp only [newObj]
 exact wpAny_bind (wpAny_alloc (wpAny_pure (wpAny_pure h)))
theorem fresh_t {h:Heap} {a:Addr} (e:h.get? a=some (newO w)):SetT P w h a (fun _=>false) 0:=
 ⟨_,#[],0,_,e,⟨rfl,rfl,rfl⟩,rfl,fun e he=>by simp at he,fun k=>by simp,by decide,rfl,rfl,Tb.fresh⟩
theorem call_set_t {l:Addr} {its:Array Value} {ns:List Int} {Q:Value->Shared->Prop} (hh:A.handled=none) (hl:s.heap.IsList l its) (hi:IntsAre its.toList ns) (hb:its.size+1<scanBound)
  (h:∀(h':Heap) (tk:Nat),SetT P w h' s.heap.objs.size (fun z=>(firstMet (fun i=>ns.getD i 0) its.size).any (·==z)) (firstMet (fun i=>ns.getD i 0) its.size).length->(∀b o,s.heap.get? b=some o->h'.get? b=some o)->Q (.ref s.heap.objs.size) { s with heap:=h',toks:=tk }) :
  wpAny (model P w) A (call (.type "set") [.ref l]) Q E s:=by
 obtain ⟨c,tl,mro⟩:=F.called_set.mro
 have made:=F.called_set.made
 have sub:=F.called_set.sub
 refine wpAny_call (codeAny_of_tree ?_)
 show wpAny _ _ (callAny (.type "set") _) _ _ _
 refine wpAny_pure ⟨Code.quiet_builtin _ (by decide +kernel),codeAny_builtin F.entry_type_call ?_⟩
 rw [Around.under_plain (weight_type_call_type "set" [.ref l] []) rfl]
 have h1:=F.called_set.notType
 have h2:=F.called_set.canCreate
 have ct:=F.typeCall_set_1 (.ref l)
 repeat (any_goals (first | assumption | wp_step))
 refine codeAny_mono (new_t (.ref l) (E:=E) (Q:=fun ob s1=>ob=.ref s.heap.objs.size/\s1={ s with heap:=s.heap.push (newO w) }) ⟨rfl,rfl⟩) fun r s1 hr=>?_
 cases r with
 | error e=>exact hr
 | ok fl=>
  cases fl with
  | ret ob=>
   obtain ⟨rfl,rfl⟩:=hr
   have gS:(s.heap.push (newO w)).get? s.heap.objs.size=some (newO w):=Heap.get?_push_size _ rfl
   have ty:Shared.TypeIs { s with heap:=s.heap.push (newO w) } (.ref s.heap.objs.size) "set":=⟨_,gS,rfl⟩
   have li:=F.called_set.init.lookup
   have bi:=F.called_set.init.bind (.ref s.heap.objs.size)
   repeat (any_goals (first | assumption | wp_step))
   refine codeAny_mono (codeAny_call_builtin (R:=wants (fun r s2=>r=.none/\∃h' tk,s2={ s with heap:=h',toks:=tk }/\SetT P w h' s.heap.objs.size (fun z=>(firstMet (fun i=>ns.getD i 0) its.size).any (·==z)) (firstMet (fun i=>ns.getD i 0) its.size).length/\(∀b o,s.heap.get? b=some o->h'.get? b=some o)) E) F.called_set.init.plain F.entry_set_init (check_set_init_1 ty ?_)) fun r2 s2 hr2=>?_
   ·have hl':=hl
    obtain ⟨ol,gl,cl,nl,dl⟩:=hl
    obtain ⟨oc,od,odt,os⟩:=ol
    simp only at cl dl
    subst cl dl
    have gl':(s.heap.push (newO w)).get? l=some { cls:=.type "list",dict:=od,data:=.seq its nl,slots:=os }:=Heap.get?_push_of_some _ gl
    have s1:=F.sub_list_set
    have s2:=F.sub_list_frozenset
    have ne:(Value.type "list"==Value.type "dict")=false:=by decide
    have l1:(s.heap.push (newO w)).IsList l its:=⟨_,gl',rfl,nl,rfl⟩
    unfold Builtin.«set.__init__» noKeywords Builtin.Frozenset.updateFrom
    generalize hPI:pyIter=PI
    wp_walk
    subst hPI
    refine wpAny_pyIter_list l1 (wpAny_bind (wpAny_runValue ?_))
    have lS:l<s.heap.objs.size:=Heap.lt_size gl
    have h3:A.in1.in1.in1.handled=none:=by simp [hh]
    have nI:l≠(s.heap.push (newO w)).objs.size:=by
     rw [Heap.size_push]
     exact Nat.ne_of_lt (Nat.lt_succ_of_lt lS)
    have nf:s.heap.objs.size∉[(s.heap.push (newO w)).objs.size,l]:=by
     rw [Heap.size_push]
     simp only [mem_cons,not_mem_nil,or_false,not_or]
     exact ⟨Nat.ne_of_lt (Nat.lt_succ_self _),Nat.ne_of_gt lS⟩
    refine upd_t ((Walks.list h3 _ l nI its).toS) s.heap.objs.size nf (fun i=>ns.getD i 0) (fun i v e=>IntsAre.int_at hi i v (by rw [Array.getElem?_toList];exact e)) hb (its.size-0) 0 _ (by omega) (Nat.zero_le _) ⟨⟨_,Heap.get?_push_size _ rfl,rfl,rfl⟩,l1.push _⟩ ?_ fun s' mv x=>?_
    ·exact (fresh_t (Heap.get?_push_of_some _ gS)).congr (fun _=>rfl) rfl
    ·obtain ⟨h',g',d',tk',os'⟩:=s'
     have e1:g'=s.gens:=mv.gens
     have e2:d'=s.drawn:=mv.drawn
     have e3:os'=s.os:=mv.os
     subst e1 e2 e3
     refine wpAny_pure (wpAny_pure ⟨rfl,h',tk',rfl,x,fun b o e=>?_⟩)
     have hb1:b≠s.heap.objs.size:=Nat.ne_of_lt (Heap.lt_size e)
     have hb2:b≠(s.heap.push (newO w)).objs.size:=by
      rw [Heap.size_push]
      exact Nat.ne_of_lt (Nat.lt_succ_of_lt (Heap.lt_size e))
     exact mv.heap b o (by simp only [mem_cons,not_mem_nil,or_false,not_or];exact ⟨hb1,hb2⟩) (Heap.get?_push_of_some _ (Heap.get?_push_of_some _ e))
   ·cases r2 with
    | error e=>exact hr2
    | ok f2=>
     cases f2 with
     | ret r=>
      obtain ⟨rfl,h',tk,rfl,x,kp⟩:=hr2
      repeat (any_goals (first | assumption | wp_step))
      exact h _ _ x kp
     | _=>exact hr2.elim
  | _=>exact hr.elim
end
theorem entry_set_it:entryFor table "set.__iter__"=some Builtin.«frozenset.__iter__»:=entryFor_alias (id' := "frozenset.__iter__") (by kernel_rfl) rfl (by decide +kernel) (by kernel_rfl)
theorem slot_si_next:Slot "set_iterator" "__next__" "set_iterator.__next__":=
 .of (owner := "set_iterator") (n := "__next__") (by rw [typeLookup_type,builtinLookup_eq_fast];kernel_rfl) (by decide +kernel) (by decide +kernel) (by decide +kernel) (by first | exact .inl (by decide +kernel) | exact .inr (by decide +kernel)) (by rw [isSubtype_type];kernel_rfl)
theorem zC9:entryFor table "set_iterator.__next__"=some Builtin.«set_iterator.__next__»:=entryFor_of_tree (by kernel_rfl)
theorem zEE (a:Value):argsOk "set_iterator.__next__" ⟨[a],[]⟩:=by
 unfold argsOk
 rw [signature?_of (id := "set_iterator.__next__") (n:=['_','_','t','x','e','n','_','_']) (o:=['r','o','t','a','r','e','t','i','_','t','e','s']) (by kernel_rfl) (show Manifest.owners.lookup (String.ofList ['r','o','t','a','r','e','t','i','_','t','e','s'].reverse)=some Manifest.sig_set_iterator by kernel_rfl)]
 kernel_rfl
theorem pick_go {α:Type} (next:Nat->Nat):∀(fuel k:Nat) (l:List α) (out:Array α),l.length=fuel->(pickOrder.go next fuel k l out).toList.Perm (out.toList++l)
 | 0,k,l,out,h=>by
  unfold pickOrder.go
  rw [List.length_eq_zero_iff.mp h,append_nil]
 | n+1,k,l,out,h=>by
  unfold pickOrder.go
  have lt:next k % l.length<l.length:=Nat.mod_lt _ (by omega)
  generalize next k % l.length=j at lt
  rw [getElem?_eq_getElem lt]
  simp only
  have ih:=pick_go next n (k+1) (l.eraseIdx j) (out.push l[j]) (by rw [List.length_eraseIdx_of_lt lt];omega)
  refine ih.trans ?_
  rw [Array.toList_push,append_assoc]
  refine List.Perm.append_left _ ?_
  rw [List.singleton_append]
  rw [List.eraseIdx_eq_take_drop_succ]
  have e:l=l.take j++l[j]::l.drop (j+1):=by rw [List.getElem_cons_drop,List.take_append_drop]
  conv=>rhs;rw [e]
  exact List.perm_middle.symm
theorem zH5 {α:Type} (next:Nat->Nat) (xs:Array α):(pickOrder next xs).toList.Perm xs.toList:=by
 unfold pickOrder
 have:=pick_go next xs.size 0 xs.toList #[] (by simp)
 simpa using this
section
variable {P:Program} {w:World} {A:Around} {E:Value->Shared->Prop} {s:Shared} {S it:Addr} {o:Obj} {es:Array (Int×Value)} {ep:Nat} {t:SetTable}
theorem next_tx (ht:byTx w=true) (ho:s.heap.get? S=some o) (hd:o.data=.set es ep t) (hf:t.fits es.size=true) {sl i:Nat} {Q:Option (Value×Nat)->Shared->Prop} (h:Q (((pickOrder (w.params.setOrder S ep) es)[i]?).map fun e=>(e.2,sl)) s):wpAny (model P w) A (setNext S sl i ep) Q E s:=by
 unfold setNext
 refine wpAny_bind (wpAny_setState_of ho hd hf ?_)
 dsimp only
 refine wpAny_bind ?_
 unfold setsByText
 refine wpAny_bind (wpAny_askSetting (wpAny_pure ?_))
 show wpAny (model P w) A (if byTx w=true then _ else _) Q E s
 rw [if_pos ht]
 simp only [bne_self_eq_false,Bool.false_eq_true,if_false]
 refine wpAny_bind ?_
 unfold setWalk
 refine wpAny_bind (wpAny_setState_of ho hd hf ?_)
 dsimp only
 refine wpAny_bind ?_
 unfold setsByText
 refine wpAny_bind (wpAny_askSetting (wpAny_pure ?_))
 show wpAny (model P w) A (if byTx w=true then _ else _) _ E s
 rw [if_pos ht]
 exact wpAny_bind (wpAny_askSetting (wpAny_pure (wpAny_pure h)))
theorem fits_size (hf:t.fits es.size=true):t.place.size=es.size:=by
 unfold SetTable.fits at hf
 rw [Bool.and_eq_true,beq_iff_eq] at hf
 exact hf.1
theorem next_pl (ht:byTx w=false) (tb:Tb (byTx w) t) (hp:(!t.plain&&decide (es.size>1))=false) (ho:s.heap.get? S=some o) (hd:o.data=.set es ep t) (hf:t.fits es.size=true) {sl i:Nat} {Q:Option (Value×Nat)->Shared->Prop}
  (h:Q (match es[SetTable.below t.place sl]?,t.place[SetTable.below t.place sl]? with | some (_,x),some j=>some (x,j+1) | _,_=>none) s):wpAny (model P w) A (setNext S sl i ep) Q E s:=by
 have led:=tb.led ht
 unfold setNext
 refine wpAny_bind (wpAny_setState_of ho hd hf ?_)
 dsimp only
 refine wpAny_bind ?_
 unfold setsByText
 refine wpAny_bind (wpAny_askSetting (wpAny_pure ?_))
 show wpAny (model P w) A (if byTx w=true then _ else _) Q E s
 rw [if_neg (by rw [ht];exact Bool.false_ne_true)]
 show wpAny (model P w) A (if (!t.plain&&decide (es.size>1))=true then _ else _) Q E s
 rw [if_neg (by rw [hp];exact Bool.false_ne_true)]
 show wpAny (model P w) A ((if (!t.led&&!es.isEmpty)=true then _ else _) >>= _) Q E s
 rw [if_neg (by rw [led];simp)]
 exact wpAny_bind (wpAny_pure (wpAny_pure h))
end
def SetIt (h:Heap) (it S:Addr) (f:Value) (i n ep:Nat):Prop:=∃o,h.get? it=some o/\o.cls=.type "set_iterator"/\o.data=.fields #[f,.int i 0,.ref S,.int n 0,.int ep 0]
theorem SetIt.at {h h':Heap} {it S:Addr} {f:Value} {i n ep:Nat} (x:SetIt h it S f i n ep) (k:∀o,h.get? it=some o->h'.get? it=some o):SetIt h' it S f i n ep:=let ⟨o,a,b⟩:=x;⟨o,k o a,b⟩
section
variable {P:Program} {w:World} {A:Around} {E:Value->Shared->Prop} {s:Shared} {S it:Addr} {o:Obj} {es:Array (Int×Value)} {ep:Nat} {t:SetTable} {i n sl nx:Nat} {x:Value} {Q:Option Value->Shared->Prop}
theorem item_int (hit:SetIt s.heap it S (.int sl 0) i n ep) (ho:s.heap.get? S=some o) (hd:o.data=.set es ep t) (hf:t.fits es.size=true) (hn:es.size=n)
  (hN:∀(A:Around) (E:Value->Shared->Prop) (R:Option (Value×Nat)->Shared->Prop),R (some (x,nx)) s->wpAny (model P w) A (setNext S sl i ep) R E s)
  (hQ:∀h',SetIt h' it S (.int nx 0) (i+1) n ep->Heap.SameBut it s.heap h'->Q (some x) { s with heap:=h' }):wpAny (model P w) A (pyNext (.ref it)) Q E s:=by
 obtain ⟨oi,gi,ci,di⟩:=hit
 have ty:s.TypeIs (.ref it) "set_iterator":=⟨oi,gi,ci⟩
 unfold pyNext
 refine wpAny_bind (wpAny_attempt (wpAny_callSpecial?_slot (name:=Str.ofString "__next__") ty slot_si_next (wpAny_call_entry slot_si_next ty zC9 ?_ (zEE _))))
 unfold Builtin.«set_iterator.__next__»
 refine wpAny_bind (wpAny_pure ?_)
 refine wpAny_bind (wpAny_fieldsOf gi di ?_)
 dsimp only
 refine wpAny_bind (wpAny_setEntries_of ho hd hf ?_)
 rw [if_neg (by rw [hn];simp)]
 simp only [Int.toNat_natCast]
 refine wpAny_bind (hN _ _ _ ?_)
 dsimp only
 refine wpAny_bind (wpAny_setField gi di (by simp) ?_)
 have g1:=Heap.get?_update_self (Obj.mapFields (·.setIfInBounds 0 (rawInt nx))) gi (Obj.isFreed_of_fields (Obj.data_mapFields di _))
 have d1:=Obj.data_mapFields di (·.setIfInBounds 0 (rawInt nx))
 refine wpAny_bind (wpAny_setField g1 d1 (by simp) (wpAny_pure ⟨x,rfl,wpAny_pure (hQ _ ?_ ((Heap.SameBut.update ..).trans (Heap.SameBut.update ..)))⟩))
 refine ⟨_,Heap.get?_update_self _ g1 (Obj.isFreed_of_fields (Obj.data_mapFields d1 _)),(Obj.cls_mapFields ..).trans ((Obj.cls_mapFields ..).trans ci),?_⟩
 rw [Obj.data_mapFields d1]
 simp [rawInt]
theorem end_int (hh:A.handled=none) (hit:SetIt s.heap it S (.int sl 0) i n ep) (ho:s.heap.get? S=some o) (hd:o.data=.set es ep t) (hf:t.fits es.size=true) (hn:es.size=n)
  (hN:∀(A:Around) (E:Value->Shared->Prop) (R:Option (Value×Nat)->Shared->Prop),R none s->wpAny (model P w) A (setNext S sl i ep) R E s)
  (hQ:∀h',Heap.ExtBut it s.heap h'->Q none { s with heap:=h' }):wpAny (model P w) A (pyNext (.ref it)) Q E s:=by
 obtain ⟨oi,gi,ci,di⟩:=hit
 have ty:s.TypeIs (.ref it) "set_iterator":=⟨oi,gi,ci⟩
 unfold pyNext
 refine wpAny_bind (wpAny_attempt (wpAny_callSpecial?_slot (name:=Str.ofString "__next__") ty slot_si_next (wpAny_call_entry slot_si_next ty zC9 ?_ (zEE _))))
 unfold Builtin.«set_iterator.__next__»
 refine wpAny_bind (wpAny_pure ?_)
 refine wpAny_bind (wpAny_fieldsOf gi di ?_)
 dsimp only
 refine wpAny_bind (wpAny_setEntries_of ho hd hf ?_)
 rw [if_neg (by rw [hn];simp)]
 simp only [Int.toNat_natCast]
 refine wpAny_bind (hN _ _ _ ?_)
 dsimp only
 refine wpAny_bind (wpAny_setField gi di (by simp) ?_)
 refine wpAny_bind ?_
 simp only [newExc,newTuple]
 refine wpAny_bind (wpAny_newObj_type ?_ (by size_fits))
 refine wpAny_bind (m:=firstArgMember _ _) (wpAny_of_eq (a:=Value.none) (by first | rfl | (simp only [firstArgMember];rfl)) ?_)
 refine wpAny_newObj_type ?_ (by size_fits)
 simp only [raiseNew]
 refine wpAny_bind (wpAny_handled ?_)
 rw [show A.in1.handled=none from hh]
 refine wpAny_bind (wpAny_pure (wpAny_throw ?_))
 refine wpAny_bind (wpAny_isInstance (T := "StopIteration") (b:=true) ⟨_,Heap.get?_push_size _ rfl,rfl⟩ isSubtype_stop ?_)
 exact wpAny_pure (hQ _ (((Heap.SameBut.update ..).extBut.push _).push _))
end
theorem slot_si_iter:Slot "set_iterator" "__iter__" "set_iterator.__iter__":=
 .of (owner := "set_iterator") (n := "__iter__") (by rw [typeLookup_type,builtinLookup_eq_fast];kernel_rfl) (by decide +kernel) (by decide +kernel) (by decide +kernel) (by first | exact .inl (by decide +kernel) | exact .inr (by decide +kernel)) (by rw [isSubtype_type];kernel_rfl)
theorem entry_si_iter:entryFor table "set_iterator.__iter__"=some Builtin.«dict_keyiterator.__iter__»:=entryFor_alias (id' := "dict_keyiterator.__iter__") (by kernel_rfl) (by first | rfl | decide +kernel) (by decide +kernel) (by kernel_rfl)
theorem args_si_iter (a:Value):argsOk "set_iterator.__iter__" ⟨[a],[]⟩:=by
 unfold argsOk
 rw [signature?_of (id := "set_iterator.__iter__") (n:=['_','_','r','e','t','i','_','_']) (o:=['r','o','t','a','r','e','t','i','_','t','e','s']) (by kernel_rfl) (show Manifest.owners.lookup (String.ofList ['r','o','t','a','r','e','t','i','_','t','e','s'].reverse)=some Manifest.sig_set_iterator by kernel_rfl)]
 kernel_rfl
section
variable {P:Program} {w:World} {A:Around} {E:Value->Shared->Prop} {s:Shared} {S it:Addr} {o:Obj} {es:Array (Int×Value)} {ep:Nat} {t:SetTable} {i n:Nat} {f:Value}
theorem zJQ {Q:Value->Shared->Prop} (hit:SetIt s.heap it S f i n ep) (h:Q (.ref it) s):wpAny (model P w) A (pyIter (.ref it)) Q E s:=by
 obtain ⟨oi,gi,ci,_⟩:=hit
 have ty:s.TypeIs (.ref it) "set_iterator":=⟨oi,gi,ci⟩
 refine wpAny_pyIter_slot ty slot_si_iter (wpAny_call_entry slot_si_iter ty entry_si_iter ?_ (args_si_iter _))
 show wpAny _ _ (ret (.ref it)) _ _ s
 exact wpAny_pure ⟨_,rfl, "set_iterator",_,ty,slot_si_next.lookup,h⟩
theorem walk_tx (hh:A.handled=none) (ht:byTx w=true) (hne:S≠it) (hd:o.data=.set es ep t) (hf:t.fits es.size=true) (hn:es.size=n) :
  Walks P w A it [it,S] [it] n (fun i v=>((pickOrder (w.params.setOrder S ep) es).toList.map (·.2))[i]?=some v) (fun i h=>SetIt h it S (.int 0 0) i n ep/\h.get? S=some o) where
 sub:=fun b hb=>by simp at hb;simp [hb]
 frame:=fun _ _ _ st hk=>⟨st.1.at fun o e=>hk it (by simp) o e,hk S (by simp) o st.2⟩
 item:=fun i s Q E hi st hQ=>by
  have hl:(pickOrder (w.params.setOrder S ep) es).size=n:=by rw [<-Array.length_toList,(zH5 _ es).length_eq,Array.length_toList,hn]
  have hi':i<(pickOrder (w.params.setOrder S ep) es).size:=by rw [hl];exact hi
  refine item_int (x:=((pickOrder (w.params.setOrder S ep) es)[i]).2) (nx:=0) st.1 st.2 hd hf hn (fun A E R h=>next_tx ht st.2 hd hf (by rw [Array.getElem?_eq_getElem hi'];exact h)) fun h' it' sb=>?_
  exact hQ _ h' s.toks (by rw [getElem?_map,Array.getElem?_toList,Array.getElem?_eq_getElem hi'];rfl) ⟨it',sb.extBut S o hne st.2⟩ fun b o hb e=>sb.extBut b o (fun z=>hb (by simp [z])) e
 done:=fun s Q E st hQ=>by
  have hl:(pickOrder (w.params.setOrder S ep) es).size=n:=by rw [<-Array.length_toList,(zH5 _ es).length_eq,Array.length_toList,hn]
  exact end_int hh st.1 st.2 hd hf hn (fun A E R h=>next_tx ht st.2 hd hf (by rw [Array.getElem?_eq_none (by omega)];exact h)) fun h' eb=>hQ h' s.toks fun b o hb e=>eb b o (fun z=>hb (by simp [z])) e
 self:=fun _ _ _ _ st hQ=>zJQ st.1 hQ
abbrev slAt (t:SetTable) (i:Nat):Nat:=if i=0 then 0 else t.place.getD (i-1) 0+1
theorem sl_below (tb:Tb (byTx w) t) (hf:t.fits es.size=true) (hi:i<=es.size):SetTable.below t.place (slAt t i)=i:=by
 have hs:=fits_size hf
 unfold slAt
 by_cases c:i=0
 ·rw [if_pos c,c]
  exact below_zero
 ·rw [if_neg c,zGN (by omega),below_next tb.rs (by omega)]
  omega
theorem walk_pl (hh:A.handled=none) (ht:byTx w=false) (tb:Tb (byTx w) t) (hp:(!t.plain&&decide (es.size>1))=false) (hne:S≠it) (hd:o.data=.set es ep t) (hf:t.fits es.size=true) (hn:es.size=n) :
  Walks P w A it [it,S] [it] n (fun i v=>(es.toList.map (·.2))[i]?=some v) (fun i h=>SetIt h it S (.int (slAt t i) 0) i n ep/\h.get? S=some o) where
 sub:=fun b hb=>by simp at hb;simp [hb]
 frame:=fun _ _ _ st hk=>⟨st.1.at fun o e=>hk it (by simp) o e,hk S (by simp) o st.2⟩
 item:=fun i s Q E hi st hQ=>by
  have hs:=fits_size hf
  have hi':i<es.size:=by omega
  have hi2:i<t.place.size:=by omega
  refine item_int (x:=(es[i]).2) (nx:=slAt t (i+1)) st.1 st.2 hd hf hn (fun A E R h=>next_pl ht tb hp st.2 hd hf ?_) fun h' it' sb=>?_
  ·rw [sl_below tb hf (by omega),Array.getElem?_eq_getElem hi',Array.getElem?_eq_getElem hi2]
   have e:slAt t (i+1)=t.place[i]+1:=by
    unfold slAt
    rw [if_neg (by omega),Nat.add_sub_cancel,zGN hi2]
   rw [e] at h
   exact h
  ·exact hQ _ h' s.toks (by rw [getElem?_map,Array.getElem?_toList,Array.getElem?_eq_getElem hi'];rfl) ⟨it',sb.extBut S o hne st.2⟩ fun b o hb e=>sb.extBut b o (fun z=>hb (by simp [z])) e
 done:=fun s Q E st hQ=>by
  refine end_int hh st.1 st.2 hd hf hn (fun A E R h=>next_pl ht tb hp st.2 hd hf ?_) fun h' eb=>hQ h' s.toks fun b o hb e=>eb b o (fun z=>hb (by simp [z])) e
  rw [sl_below tb hf (by omega),Array.getElem?_eq_none (by omega)]
  exact h
 self:=fun _ _ _ _ st hQ=>zJQ st.1 hQ
theorem ask_choose {src:Source} {n:Nat} {Q:Nat->Shared->Prop} {M:Model} (hn:n≠0) (h:Q (M.w.draws src (s.drawn.get src) % n) { s with drawn:=s.drawn.bump src }):wpAny M A (choose src n) Q E s:=fun _ _ _=>⟨hn,h⟩
theorem draw_perm {α:Type} {M:Model}:∀(n:Nat) (l:List α) (s:Shared) {Q:List α->Shared->Prop},l.length=n->(∀l' d,l'.Perm l->Q l' { s with drawn:=d })->wpAny M A (drawOrder n l) Q E s
 | 0,l,s,Q,hl,h=>by
  rw [List.length_eq_zero_iff.mp hl] at h ⊢
  have:=h [] s.drawn (List.Perm.refl _)
  have e:s={ s with drawn:=s.drawn }:=by cases s;rfl
  unfold drawOrder
  rw [e]
  exact wpAny_pure this
 | n+1,a::l,s,Q,hl,h=>by
  unfold drawOrder
  refine wpAny_bind (ask_choose (by simp) ?_)
  have lt:M.w.draws Source.order (s.drawn.get Source.order) % (a::l).length<(a::l).length:=Nat.mod_lt _ (by simp)
  generalize M.w.draws Source.order (s.drawn.get Source.order) % (a::l).length=j at lt
  rw [getElem?_eq_getElem lt]
  dsimp only
  refine wpAny_bind (draw_perm n _ _ (by rw [List.length_eraseIdx_of_lt lt];omega) fun l' d pm=>wpAny_pure (h _ d ?_))
  refine (List.Perm.cons _ pm).trans ?_
  rw [List.eraseIdx_eq_take_drop_succ]
  have e:(a::l)=(a::l).take j++(a::l)[j]::(a::l).drop (j+1):=by rw [List.getElem_cons_drop,List.take_append_drop]
  conv=>rhs;rw [e]
  exact List.perm_middle.symm
end
section
variable {P:Program} {w:World} {A:Around} {E:Value->Shared->Prop} {s:Shared} {S it T:Addr} {o oT:Obj} {es:Array (Int×Value)} {ep c:Nat} {t:SetTable} {i n:Nat} {x:Value} {pl:List Nat} {Q:Option Value->Shared->Prop}
abbrev plV (pl:List Nat):Array Value:=(pl.map fun (i:Nat)=>rawInt i).toArray
theorem item_dr (hit:SetIt s.heap it S (.ref T) i n ep) (ho:s.heap.get? S=some o) (hd:o.data=.set es ep t) (hf:t.fits es.size=true) (hn:es.size=n) (hT:s.heap.get? T=some oT) (dT:oT.data=.seq (plV pl) c)
  {p:Nat} {e:Int×Value} (hp:pl[i]?=some p) (he:es[p]?=some e)
  (hQ:∀h',SetIt h' it S (.ref T) (i+1) n ep->Heap.SameBut it s.heap h'->Q (some e.2) { s with heap:=h' }):wpAny (model P w) A (pyNext (.ref it)) Q E s:=by
 obtain ⟨oi,gi,ci,di⟩:=hit
 have ty:s.TypeIs (.ref it) "set_iterator":=⟨oi,gi,ci⟩
 unfold pyNext
 refine wpAny_bind (wpAny_attempt (wpAny_callSpecial?_slot (name:=Str.ofString "__next__") ty slot_si_next (wpAny_call_entry slot_si_next ty zC9 ?_ (zEE _))))
 unfold Builtin.«set_iterator.__next__»
 refine wpAny_bind (wpAny_pure ?_)
 refine wpAny_bind (wpAny_fieldsOf gi di ?_)
 dsimp only
 refine wpAny_bind (wpAny_setEntries_of ho hd hf ?_)
 rw [if_neg (by rw [hn];simp)]
 refine wpAny_bind (wpAny_seqItems hT dT ?_)
 have e1:(plV pl)[Int.toNat (i:Int)]?=some (rawInt p):=by
  rw [Int.toNat_natCast,getElem?_toArray,getElem?_map,hp]
  rfl
 dsimp only
 rw [e1]
 simp only [rawInt,Int.toNat_natCast]
 refine wpAny_bind ?_
 unfold setNextDrawn
 refine wpAny_bind (wpAny_setState_of ho hd hf ?_)
 dsimp only
 simp only [bne_self_eq_false,Bool.false_eq_true,if_false]
 rw [he]
 refine wpAny_pure ?_
 refine wpAny_bind (wpAny_setField gi di (by simp) (wpAny_pure ⟨e.2,rfl,wpAny_pure (hQ _ ?_ (Heap.SameBut.update ..))⟩))
 refine ⟨_,Heap.get?_update_self _ gi (Obj.isFreed_of_fields (Obj.data_mapFields di _)),(Obj.cls_mapFields ..).trans ci,?_⟩
 rw [Obj.data_mapFields di]
 simp [rawInt]
theorem end_dr (hh:A.handled=none) (hit:SetIt s.heap it S (.ref T) i n ep) (ho:s.heap.get? S=some o) (hd:o.data=.set es ep t) (hf:t.fits es.size=true) (hn:es.size=n) (hT:s.heap.get? T=some oT) (dT:oT.data=.seq (plV pl) c)
  (hp:pl[i]?=none) (hQ:∀h',Heap.ExtBut it s.heap h'->Q none { s with heap:=h' }):wpAny (model P w) A (pyNext (.ref it)) Q E s:=by
 obtain ⟨oi,gi,ci,di⟩:=hit
 have ty:s.TypeIs (.ref it) "set_iterator":=⟨oi,gi,ci⟩
 unfold pyNext
 refine wpAny_bind (wpAny_attempt (wpAny_callSpecial?_slot (name:=Str.ofString "__next__") ty slot_si_next (wpAny_call_entry slot_si_next ty zC9 ?_ (zEE _))))
 unfold Builtin.«set_iterator.__next__»
 refine wpAny_bind (wpAny_pure ?_)
 refine wpAny_bind (wpAny_fieldsOf gi di ?_)
 dsimp only
 refine wpAny_bind (wpAny_setEntries_of ho hd hf ?_)
 rw [if_neg (by rw [hn];simp)]
 refine wpAny_bind (wpAny_seqItems hT dT ?_)
 have e1:(plV pl)[Int.toNat (i:Int)]?=none:=by
  rw [Int.toNat_natCast,getElem?_toArray,getElem?_map,hp]
  rfl
 dsimp only
 rw [e1]
 dsimp only
 refine wpAny_bind (wpAny_setField gi di (by simp) ?_)
 have g1:=Heap.get?_update_self (Obj.mapFields (·.setIfInBounds 0 (rawInt 0))) gi (Obj.isFreed_of_fields (Obj.data_mapFields di _))
 have d1:=Obj.data_mapFields di (·.setIfInBounds 0 (rawInt 0))
 refine wpAny_bind (wpAny_setField g1 d1 (by simp) ?_)
 refine wpAny_bind ?_
 simp only [newExc,newTuple]
 refine wpAny_bind (wpAny_newObj_type ?_ (by size_fits))
 refine wpAny_bind (m:=firstArgMember _ _) (wpAny_of_eq (a:=Value.none) (by first | rfl | (simp only [firstArgMember];rfl)) ?_)
 refine wpAny_newObj_type ?_ (by size_fits)
 simp only [raiseNew]
 refine wpAny_bind (wpAny_handled ?_)
 rw [show A.in1.handled=none from hh]
 refine wpAny_bind (wpAny_pure (wpAny_throw ?_))
 refine wpAny_bind (wpAny_isInstance (T := "StopIteration") (b:=true) ⟨_,Heap.get?_push_size _ rfl,rfl⟩ isSubtype_stop ?_)
 exact wpAny_pure (hQ _ ((((Heap.SameBut.update ..).trans (Heap.SameBut.update ..)).extBut.push _).push _))
theorem walk_dr (hh:A.handled=none) (hne:S≠it) (hneT:T≠it) (hd:o.data=.set es ep t) (hf:t.fits es.size=true) (hn:es.size=n) (dT:oT.data=.seq (plV pl) c) (hl:pl.length=n) (hm:∀p∈pl,p<n) :
  Walks P w A it [it,S,T] [it] n (fun i v=>(pl.map fun p=>(es.getD p (0,.none)).2)[i]?=some v) (fun i h=>SetIt h it S (.ref T) i n ep/\h.get? S=some o/\h.get? T=some oT) where
 sub:=fun b hb=>by simp at hb;simp [hb]
 frame:=fun _ _ _ st hk=>⟨st.1.at fun o e=>hk it (by simp) o e,hk S (by simp) o st.2.1,hk T (by simp) oT st.2.2⟩
 item:=fun i s Q E hi st hQ=>by
  have hi':i<pl.length:=by omega
  have hp:pl[i]<es.size:=by
   rw [hn]
   exact hm _ (getElem_mem hi')
  refine item_dr st.1 st.2.1 hd hf hn st.2.2 dT (getElem?_eq_getElem hi') (Array.getElem?_eq_getElem hp) fun h' it' sb=>?_
  refine hQ _ h' s.toks ?_ ⟨it',sb.extBut S o hne st.2.1,sb.extBut T oT hneT st.2.2⟩ fun b o hb e=>sb.extBut b o (fun z=>hb (by simp [z])) e
  rw [getElem?_map,getElem?_eq_getElem hi']
  simp [Array.getD,hp]
 done:=fun s Q E st hQ=>end_dr hh st.1 st.2.1 hd hf hn st.2.2 dT (getElem?_eq_none (by omega)) fun h' eb=>hQ h' s.toks fun b o hb e=>eb b o (fun z=>hb (by simp [z])) e
 self:=fun _ _ _ _ st hQ=>zJQ st.1 hQ
end
section
variable {P:Program} {w:World} {A:Around} {E:Value->Shared->Prop} {s:Shared} {S:Addr} {o:Obj} {es:Array (Int×Value)} {ep:Nat} {t:SetTable} {Q:Value->Shared->Prop}
theorem map_range_getD (es:Array (Int×Value)):(List.range es.size).map (fun p=>(es.getD p (0,.none)).2)=es.toList.map (·.2):=by
 apply List.ext_getElem
 ·simp
 ·intro i h1 h2
  have hi:i<es.size:=by simpa using h1
  simp [Array.getD,hi]
theorem iter_set (hh:A.handled=none) (ho:s.heap.get? S=some o) (hc:o.cls=.type "set") (hd:o.data=.set es ep t) (hf:t.fits es.size=true) (hb:es.size<scanBound) (tb:Tb (byTx w) t)
  (h:∀(h':Heap) (dr:Drawn) (it:Addr) (fp:List Addr) (us:List Value) (St:Nat->Heap->Prop),(∀b o,s.heap.get? b=some o->h'.get? b=some o)->us.Perm (es.toList.map (·.2))->s.heap.objs.size<=it->(∀b∈fp,b<h'.objs.size/\(b=S\/s.heap.objs.size<=b)) ->
   Walks P w A it fp [it] es.size (fun i v=>us[i]?=some v) St->St 0 h'->Q (.ref it) { s with heap:=h',drawn:=dr }) :
  wpAny (model P w) A (pyIter (.ref S)) Q E s:=by
 have ty:s.TypeIs (.ref S) "set":=⟨o,ho,hc⟩
 have lS:S<s.heap.objs.size:=Heap.lt_size ho
 refine wpAny_pyIter_slot ty F.slot_set_iter (wpAny_call_entry F.slot_set_iter ty entry_set_it ?_ (F.args_set_iter_1 _))
 unfold Builtin.«frozenset.__iter__»
 refine wpAny_bind (wpAny_pure ?_)
 refine wpAny_bind ?_
 unfold Builtin.Frozenset.sizeOf
 refine wpAny_bind (wpAny_setEntries_of ho hd hf (wpAny_pure ?_))
 have hsz:es.size<=sizeLine:=Nat.le_of_lt (Nat.lt_of_lt_of_le hb (by decide))
 have fin:∀(first:Value) (s':Shared) (h1:s'.heap.get? S=some o),Q (.ref s'.heap.objs.size) { s' with heap:=s'.heap.push { cls:=.type "set_iterator",data:=.fields #[first,.int 0 0,.ref S,.int es.size 0,.int ep 0] } } ->
   wpAny (model P w) A.in1 (do
    let e <-setEpoch S
    let r <-newFields "set_iterator" [first,rawInt 0,Value.ref S,rawInt ↑es.size,rawInt ↑e]
    ret r) (fun fin s'=>∃v,fin=Fin.done (Flow.ret v)/\∃T' r,s'.TypeIs v T'/\typeLookup (Value.type T') (Str.ofString "__next__")=pure (some r)/\Q v s') E s':=by
  intro first s' h1 q
  refine wpAny_bind ?_
  unfold setEpoch
  refine wpAny_bind (wpAny_setState_of h1 hd hf (wpAny_pure ?_))
  refine wpAny_bind ?_
  unfold newFields
  refine wpAny_newObj_type (wpAny_pure ⟨_,rfl, "set_iterator",_,⟨_,Heap.get?_push_size _ rfl,rfl⟩,slot_si_next.lookup,?_⟩) (by size_fits)
  exact q
 refine wpAny_bind ?_
 unfold setDrawn
 refine wpAny_bind (wpAny_setState_of ho hd hf ?_)
 dsimp only
 refine wpAny_bind ?_
 unfold setsByText
 refine wpAny_bind (wpAny_askSetting (wpAny_pure ?_))
 refine wpAny_pure ?_
 show wpAny (model P w) A.in1 (if (!byTx w&&(!t.plain&&decide (es.size>1)))=true then _ else _) _ E s
 by_cases hdr:(!byTx w&&(!t.plain&&decide (es.size>1)))=true
 ·rw [if_pos hdr]
  refine wpAny_bind (draw_perm es.size (List.range es.size) s (by simp) fun pl dr pm=>?_)
  have hl:pl.length=es.size:=by rw [pm.length_eq,length_range]
  refine wpAny_bind (wpAny_newTuple ?_ (by rw [length_map,hl];exact hsz))
  refine fin _ _ (Heap.get?_push_of_some _ ho) ?_
  have gT:(s.heap.push { cls:=.type "tuple",data:=.seq (plV pl) }).get? s.heap.objs.size=some { cls:=.type "tuple",data:=.seq (plV pl) }:=Heap.get?_push_size _ rfl
  have eI:(s.heap.push { cls:=.type "tuple",data:=.seq (plV pl) }).objs.size=s.heap.objs.size+1:=Heap.size_push ..
  have gI:=Heap.get?_push_size (o:={ cls:=.type "set_iterator",data:=.fields #[.ref s.heap.objs.size,.int 0 0,.ref S,.int es.size 0,.int ep 0] }) (s.heap.push { cls:=.type "tuple",data:=.seq (plV pl) }) rfl
  have W:=walk_dr (P:=P) (w:=w) (A:=A) (it:=(s.heap.push { cls:=.type "tuple",data:=.seq (plV pl) }).objs.size) (S:=S) (T:=s.heap.objs.size) (o:=o) (t:=t) (ep:=ep) (pl:=pl) (c:=0) hh (by rw [eI];exact Nat.ne_of_lt (Nat.lt_succ_of_lt lS)) (by rw [eI];exact Nat.ne_of_lt (Nat.lt_succ_self _)) hd hf rfl (oT:={ cls:=.type "tuple",data:=.seq (plV pl) }) rfl hl fun p hp=>by simpa using pm.mem_iff.mp hp
  refine h _ dr _ [(s.heap.push { cls:=.type "tuple",data:=.seq (plV pl) }).objs.size,S,s.heap.objs.size] (pl.map fun p=>(es.getD p (0,.none)).2) _ (fun b o e=>Heap.get?_push_of_some _ (Heap.get?_push_of_some _ e)) ?_ ?_ ?_ W ⟨⟨_,gI,rfl,rfl⟩,Heap.get?_push_of_some _ (Heap.get?_push_of_some _ ho),Heap.get?_push_of_some _ gT⟩
  ·rw [<-map_range_getD]
   exact pm.map _
  ·show s.heap.objs.size<=(s.heap.push _).objs.size
   rw [Heap.size_push]
   omega
  ·intro b hb
   show b<((s.heap.push _).push _).objs.size/\_
   rw [Heap.size_push,Heap.size_push]
   simp only [mem_cons,not_mem_nil,or_false] at hb
   rcases hb with rfl | rfl | rfl
   ·exact ⟨by rw [eI];exact Nat.lt_succ_self _,.inr (by rw [eI];exact Nat.le_succ _)⟩
   ·exact ⟨Nat.lt_succ_of_lt (Nat.lt_succ_of_lt lS),.inl rfl⟩
   ·exact ⟨Nat.lt_succ_of_lt (Nat.lt_succ_self _),.inr (Nat.le_refl _)⟩
 ·rw [if_neg hdr]
  refine wpAny_bind (wpAny_pure ?_)
  refine fin _ _ ho ?_
  have kp:∀b o,s.heap.get? b=some o->(s.heap.push { cls:=.type "set_iterator",data:=.fields #[.int 0 0,.int 0 0,.ref S,.int es.size 0,.int ep 0] }).get? b=some o:=fun b o e=>Heap.get?_push_of_some _ e
  have fpl:∀b∈[s.heap.objs.size,S],b<(s.heap.push { cls:=.type "set_iterator",data:=.fields #[.int 0 0,.int 0 0,.ref S,.int es.size 0,.int ep 0] }).objs.size/\(b=S\/s.heap.objs.size<=b):=by
   intro b hb
   rw [Heap.size_push]
   simp only [mem_cons,not_mem_nil,or_false] at hb
   rcases hb with rfl | rfl
   ·exact ⟨Nat.lt_succ_self _,.inr (Nat.le_refl _)⟩
   ·exact ⟨Nat.lt_succ_of_lt lS,.inl rfl⟩
  have si:SetIt (s.heap.push { cls:=.type "set_iterator",data:=.fields #[.int 0 0,.int 0 0,.ref S,.int es.size 0,.int ep 0] }) s.heap.objs.size S (.int 0 0) 0 es.size ep:=⟨_,Heap.get?_push_size _ rfl,rfl,rfl⟩
  by_cases ht:byTx w=true
  ·exact h _ s.drawn _ [s.heap.objs.size,S] _ _ kp ((zH5 (w.params.setOrder S ep) es).map _) (Nat.le_refl _) fpl (walk_tx (o:=o) hh ht (Nat.ne_of_lt lS) hd hf rfl) ⟨si,kp S o ho⟩
  ·have ht':byTx w=false:=by simpa using ht
   rw [ht'] at hdr
   have hp:(!t.plain&&decide (es.size>1))=false:=by simpa using hdr
   exact h _ s.drawn _ [s.heap.objs.size,S] _ _ kp (List.Perm.refl _) (Nat.le_refl _) fpl (walk_pl (o:=o) hh ht' tb hp (Nat.ne_of_lt lS) hd hf rfl) ⟨si,kp S o ho⟩
end
section
variable {P:Program} {w:World} {A:Around} {E:Value->Shared->Prop} {s:Shared} {r:Addr}
theorem hint_set {Q:Bool->Shared->Prop} (hT:s.TypeIs (.ref r) "set") (h:Q false s):wpAny (model P w) A (Builtin.List.listLengthHint (.ref r)) Q E s:=by
 unfold Builtin.List.listLengthHint
 refine wpAny_bind (wpAny_specialOf hT PySem.F.slot_set_len.lookup ?_)
 generalize hid:("set.__len__":String)=id0
 wp_delta
 rw [show splitId id0=some ("set", "__len__") from by subst hid;decide +kernel]
 subst hid
 refine wpAny_bind (wpAny_isInstance (T := "set") (b:=true) hT (by rw [isSubtype_type];kernel_rfl) ?_)
 refine wpAny_ite_split (fun hab=>absurd hab (by decide)) (fun _=>?_)
 refine wpAny_ite_split (fun _=>?_) (fun hab=>absurd (by decide +kernel) hab)
 refine wpAny_bind (wpAny_typeOf hT ?_)
 exact wpAny_pure h
variable {o:Obj} {es:Array (Int×Value)} {ep:Nat} {t:SetTable}
theorem ext_set {R:Result->Shared->Prop} (hh:A.handled=none) (ho:s.heap.get? r=some o) (hc:o.cls=.type "set") (hd:o.data=.set es ep t) (hf:t.fits es.size=true) (hb:es.size<scanBound) (tb:Tb (byTx w) t) (S:Addr) (hSr:S≠r) (res:Value) (hS:s.heap.get? S=some { cls:=.type "list",data:=.seq #[] 0 })
  (hR:∀h' tk dr acc' c',(∀b o,b≠S->s.heap.get? b=some o->h'.get? b=some o)->h'.get? S=some { cls:=.type "list",dict:=none,data:=.seq acc' c',slots:=#[] }->acc'.toList.Perm (es.toList.map (·.2))->R (.ok (.ret res)) { s with heap:=h',toks:=tk,drawn:=dr }) :
  wpAny (model P w) A.in1 (Builtin.List.listExtendWith (.ref S) (.ref r) res)
   (fun fin s'=>match fin with | .done f=>R (.ok f) s' | .again c'=>c'.quiet=true/\codeAny (model P w) A c' R s') (fun e s'=>R (.error e) s') s:=by
 have lS:=Heap.lt_size hS
 have hsz:es.size<=sizeLine:=Nat.le_of_lt (Nat.lt_of_lt_of_le hb (by decide))
 unfold Builtin.List.listExtendWith
 refine wpAny_bind (wpAny_typeOf (T := "set") ⟨o,ho,hc⟩ ?_)
 have h1:Builtin.List.listSameRef (.ref S) (.ref r)=false:=by simp [Builtin.List.listSameRef,hSr]
 have n1:(Value.type "set"==Value.type "list")=false:=by decide
 have n2:(Value.type "set"==Value.type "tuple")=false:=by decide
 simp only [h1,n1,n2,Bool.or_false,Bool.false_eq_true,if_false]
 refine wpAny_bind (iter_set hh ho hc hd hf hb tb fun h' dr it fp us St kp pm lI hfp W st=>?_)
 have hSf:S∉fp:=fun hm=>by
  rcases (hfp S hm).2 with e | e
  ·exact hSr e
  ·exact absurd lS (Nat.not_lt_of_le e)
 have hS₁:=kp S _ hS
 have key:∀(h2:Heap) (c₁:Nat),St 0 h2->(∀b o,b≠S->s.heap.get? b=some o->h2.get? b=some o) ->
   h2.get? S=some { cls:=.type "list",data:=.seq #[] c₁ }->codeAny (model P w) A (.builtin "list.extend.loop" ⟨[.ref S,.ref it,res],[]⟩) R { s with heap:=h2,drawn:=dr }:=by
  intro h2 c₁ hst hk hS₁
  refine codeAny_extend_loopS W.toS hsz S hSf res es.size 0 _ #[] c₁ rfl (Nat.zero_le _) hst hS₁ (ItemsOf.nil _) fun s' acc' c' hm hS' hacc=>?_
  have e:acc'.toList=us:=by
   apply ext_getElem?
   intro i
   have lu:us.length=es.size:=by rw [pm.length_eq,length_map,Array.length_toList]
   by_cases hi:i<acc'.size
   ·have:=hacc.2 i acc'[i] (Array.getElem?_eq_getElem hi)
    rw [Array.getElem?_toList,Array.getElem?_eq_getElem hi,this]
   ·rw [Array.getElem?_toList,Array.getElem?_eq_none (by omega),getElem?_eq_none (by have:=hacc.1;omega)]
  rw [Moved.eq_with hm]
  refine hR s'.heap s'.toks dr acc' c' (fun b o hb e=>hm.heap b o (fun hmem=>?_) (hk b o hb e)) hS' (by rw [e];exact pm)
  rcases List.mem_cons.mp hmem with e' | hmem
  ·exact hb e'
  ·exact absurd (Heap.lt_size e) (by rw [List.mem_singleton.mp hmem];exact Nat.not_lt_of_le lI)
 refine wpAny_bind (wpAny_holding (hint_set (r:=r) ⟨o,kp r o ho,hc⟩ ?_))
 refine wpAny_ite_split (fun _=>?_) (fun _=>wpAny_pure ⟨plainId_quiet PySem.F.plain_extend_loop _,key _ 0 st (fun b o _ e=>kp b o e) hS₁⟩)
 refine wpAny_bind (wpAny_rule ?_)
 refine wpAny_bind ?_
 show wpAny _ _ (updateSeq S (·.push .none) >>= fun _=>updateSeq S (·.pop)) _ _ _
 refine wpAny_bind (wpAny_updateSeq hS₁ rfl ?_)
 have hS₂:=Heap.get?_update_self (Obj.mapSeq (·.push Value.none)) hS₁ rfl
 refine wpAny_updateSeq (hz:=by seq_fits) hS₂ rfl ?_
 have hS₃:=Heap.get?_update_self (Obj.mapSeq (·.pop)) hS₂ rfl
 refine wpAny_pure ⟨plainId_quiet PySem.F.plain_extend_loop _,key _ _ ?_ (fun b o hb e=>?_) hS₃⟩
 ·refine W.frame 0 _ _ st fun b hb o e=>?_
  have hbS:b≠S:=fun h=>hSf (h▸hb)
  exact (Heap.get?_update_other _ _ (Ne.symm hbS)).trans ((Heap.get?_update_other _ _ (Ne.symm hbS)).trans e)
 ·exact (Heap.get?_update_other _ _ (Ne.symm hb)).trans ((Heap.get?_update_other _ _ (Ne.symm hb)).trans (kp b o e))
theorem collect_set {R:List Value->Shared->Prop} (hh:A.handled=none) (ho:s.heap.get? r=some o) (hc:o.cls=.type "set") (hd:o.data=.set es ep t) (hf:t.fits es.size=true) (hb:es.size<scanBound) (tb:Tb (byTx w) t)
  (h:∀(h':Heap) (tk:Nat) (dr:Drawn) (us:List Value),(∀b o,s.heap.get? b=some o->h'.get? b=some o)->us.Perm (es.toList.map (·.2))->R us { s with heap:=h',toks:=tk,drawn:=dr }) :
  wpAny (model P w) A (collect (.ref r)) R E s:=by
 have lr:=Heap.lt_size ho
 unfold collect
 refine wpAny_bind (wpAny_runValue (codeAny_builtin entry_proto_collect' ?_))
 rw [Around.under_plainId PySem.F.plain_proto_collect _]
 show wpAny _ A.in1 (newList [] >>= fun l=>again (.builtin "list.__iadd__" ⟨[l,.ref r],[]⟩)) _ _ s
 refine wpAny_bind (wpAny_newObj_type ?_)
 refine wpAny_pure ⟨plainId_quiet PySem.F.plain_list_iadd _,codeAny_builtin entry_list_iadd' ?_⟩
 rw [Around.under_plainId PySem.F.plain_list_iadd _]
 have hS₁:(s.heap.push { cls:=.type "list",data:=.seq ([]:List Value).toArray }).get? s.heap.objs.size=some { cls:=.type "list",data:=.seq #[] }:=Heap.get?_push_size _ rfl
 show wpAny _ A.in1 (Builtin.List.listExtendWith (.ref s.heap.objs.size) (.ref r) (.ref s.heap.objs.size)) _ _ _
 have key:=ext_set (P:=P) (w:=w) (A:=A) (s:={ s with heap:=s.heap.push { cls:=.type "list",data:=.seq ([]:List Value).toArray } })
  (R:=fun (q:Result) (s':Shared)=>∃(h':Heap) (tk:Nat) (dr:Drawn) (acc':Array Value) (c':Nat),q=.ok (.ret (.ref s.heap.objs.size))/\s'={ s with heap:=h',toks:=tk,drawn:=dr } /\
   (∀b o,s.heap.get? b=some o->h'.get? b=some o)/\h'.get? s.heap.objs.size=some { cls:=.type "list",dict:=none,data:=.seq acc' c',slots:=#[] }/\acc'.toList.Perm (es.toList.map (·.2)))
  hh (Heap.get?_push_of_some _ ho) hc hd hf hb tb s.heap.objs.size (Nat.ne_of_gt lr) (.ref s.heap.objs.size) hS₁
  (fun h' tk dr acc' c' hk hS' hacc=>⟨h',tk,dr,acc',c',rfl,rfl,fun b o e=>hk b o (Nat.ne_of_lt (Heap.lt_size e)) (Heap.get?_push_of_some _ e),hS',hacc⟩)
 refine wpAny_mono key (fun fin s' x=>?_) fun e s' x=>?_
 ·cases fin with
  | done f=>
   obtain ⟨h',tk,dr,acc',c',e,rfl,hk,hS',hacc⟩:=x
   cases e
   show wpAny _ A (load s.heap.objs.size >>= _) _ _ _
   refine wpAny_bind (wpAny_load hS' ?_)
   exact wpAny_pure (h h' tk dr acc'.toList hk hacc)
  | again c₁=>
   refine ⟨x.1,codeAny_mono x.2 fun q s₂ y=>?_⟩
   obtain ⟨h',tk,dr,acc',c',rfl,rfl,hk,hS',hacc⟩:=y
   show wpAny _ A (load s.heap.objs.size >>= _) _ _ _
   refine wpAny_bind (wpAny_load hS' ?_)
   exact wpAny_pure (h h' tk dr acc'.toList hk hacc)
 ·obtain ⟨_,_,_,_,_,e',_⟩:=x
  cases e'
end
def ddp (ns:List Int):List Int:=firstMet (fun i=>ns.getD i 0) ns.length
theorem perm_of_sub:∀(l m:List Int),l.Nodup->(∀x∈l,x∈m)->m.length=l.length->m.Perm l
 | [],m,_,_,h=>by rw [List.length_eq_zero_iff.mp h]
 | a::l,m,nd,hm,h=>by
  have ha:a∈m:=hm a mem_cons_self
  obtain ⟨na,nl⟩:=List.nodup_cons.mp nd
  have ih:=perm_of_sub l (m.erase a) nl (fun x hx=>(List.mem_erase_of_ne (fun e:x=a=>na (e▸hx))).mpr (hm x (mem_cons_of_mem _ hx))) (by rw [List.length_erase_of_mem ha,h,length_cons];omega)
  exact (List.perm_cons_erase ha).trans (ih.cons a)
theorem zH7 (val:Nat->Int):∀i,(firstMet val i).Nodup
 | 0=>nodup_nil
 | i+1=>by
  rw [firstMet_succ]
  unfold step_dedup
  split
  ·exact zH7 val i
  ·rename_i h
   rw [List.nodup_append]
   refine ⟨zH7 val i,by simp,fun a ha b hb e=>h ?_⟩
   rw [List.mem_singleton] at hb
   subst hb e
   simpa using ha
theorem zIH (ns:List Int):(ddp ns).Nodup:=zH7 _ _
theorem ddp_mem {ns:List Int} {k:Int}:k∈ddp ns↔k∈ns:=by
 have:=firstMet_any (fun i=>ns.getD i 0) ns.length k
 have e:(List.range ns.length).map (fun i=>ns.getD i 0)=ns:=by
  apply List.ext_getElem
  ·simp
  ·intro i h1 h2
   simp [List.getD,h2]
 rw [e] at this
 unfold ddp
 rw [<-any_eq_true (p:=(·==k)) |>.trans ⟨fun ⟨x,h,e⟩=>by rwa [<-eq_of_beq e],fun h=>⟨k,h,by simp⟩⟩,this]
 exact List.any_eq_true.trans ⟨fun ⟨x,h,e⟩=>by rwa [<-eq_of_beq e],fun h=>⟨k,h,by simp⟩⟩
theorem ints_some {P:Program} {w:World}:∀(us:List Value),(∀u∈us,∃k,(intKind P w).is k u=true)->∃ns,IntsAre us ns
 | [],_=>⟨[],.nil⟩
 | u::us,h=>by
  obtain ⟨k,e⟩:=h u mem_cons_self
  obtain ⟨t,rfl⟩:=Value.isInt_shape e
  obtain ⟨ns,x⟩:=ints_some us fun v hv=>h v (mem_cons_of_mem _ hv)
  exact ⟨_,.cons _ _ x⟩
theorem ints_mem {P:Program} {w:World} {k:Int}:∀{us:List Value} {ns:List Int},IntsAre us ns->(∃u∈us,(intKind P w).is k u=true)->k∈ns
 | _,_,.nil,⟨u,hu,_⟩=>by cases hu
 | _,_,.cons i t x,⟨u,hu,e⟩=>by
  rcases List.mem_cons.mp hu with rfl | hu
  ·obtain ⟨t',e'⟩:=Value.isInt_shape (show Value.isInt k (Value.int i t)=true from e)
   cases e'
   exact mem_cons_self
  ·exact mem_cons_of_mem _ (ints_mem x ⟨u,hu,e⟩)
theorem ints_len:∀{us:List Value} {ns:List Int},IntsAre us ns->us.length=ns.length
 | _,_,.nil=>rfl
 | _,_,.cons _ _ x=>by rw [length_cons,length_cons,ints_len x]
theorem L2Inv.drawn {X:Cx} {pins:List (Addr×Obj)} {σ:List (Option V)} {H:Hp} {s:Shared} (I:L2.Inv X pins σ H s) (d:Drawn):L2.Inv X pins σ H { s with drawn:=d }:=
 ⟨I.ok,I.os,I.bare,I.base,I.loc,I.cell,I.free,I.freeC,I.pin,I.hok,I.len⟩
theorem b_set:bootBuiltins "set"=some (.type "set"):=by decide +kernel
def tSS (K:Fg) (ta:TA):TE:=fun σ H Q=>ta σ H fun vs H1=>∃(p:Addr) (ns:List Int),vs=[.ref p]/\SqL K H1 p (ns.map V.int)/\ns.length<4000/\(ddp ns).length<64/\∀l,H1 l=none->Q (.ref l) (upd H1 l (.lst ((PySem.W.sortI (ddp ns)).map V.int)))
theorem pe_sortSet {X:Cx} {a:Expr} {ta:TA} {p p2 pos pos2:Pos} (hg:Gl X "sorted") (hm:X.mg "sorted"=none) (hg2:Gl X "set") (hm2:X.mg "set"=none) (hc:X.calm=true) (ha:PA X [a] ta) (hs:starEach [a] X.env=[(false,eval a X.env)])
  (hs1:starEach [.Call (.Name "set" p2) [a] [] pos2] X.env=[(false,eval (.Call (.Name "set" p2) [a] [] pos2) X.env)]):PE X (.Call (.Name "sorted" p) [.Call (.Name "set" p2) [a] [] pos2] [] pos) (tSS X.K ta):=by
 intro pins s σ H Q I h
 refine wpAny_Call_Name_kw (zGL I hg hm b_sorted (PyProof.Rows.callWith_builtin1 ?_ hs1 rfl))
 rw [hs1]
 show wpAny _ _ (spliced ((false,eval (.Call (.Name "set" p2) [a] [] pos2) X.env)::[])) _ _ s
 refine Calls.spliced_cons (Call_ (zGL I hg2 hm2 b_set (PyProof.Rows.callWith_type1 (thn (ha pos2 pins s σ H _ I h) fun us s1 ⟨vs,H1,I1,r1,q1⟩=>?_) hs rfl)))
 obtain ⟨pa,ns,e,hS,q1,q2,q⟩:=q1
 subst e
 obtain ⟨u,rfl,ru⟩:=r1.one
 cases ru
 obtain ⟨its,r,pl,hz⟩:=I1.list hS
 have hI:=zJ0 r
 have hl:its.length=ns.length:=by rw [<-r.length,length_map]
 have hl':its.toArray.size=ns.length:=by rw [size_toArray,hl]
 refine call_set_t (ns:=ns) (I.ok.hd hc) pl.isList (by simpa using hI) (by rw [hl'];have:scanBound=4096:=rfl;omega) fun h1 tk1 st kp1=>?_
 rw [hl'] at st
 refine Calls.spliced_nil ?_
 have I2:L2.Inv X pins σ H1 { s1 with heap:=h1,toks:=tk1 }:=I1.kept (t':=tk1) kp1
 obtain ⟨o,es,ep,t,ho,hex,hd,hel,hmem,hb,hf,hn,tb⟩:=st
 refine Calls.call_function_entry kind_sorted plain_sorted entry_sorted (args_sorted1 _) ?_
 unfold Builtin.«sorted»
 refine wpAny_bind (m:=checkCount "sorted" 1 1 _) (wpAny_pure ?_)
 refine wpAny_bind (collect_set (I.ok.hd hc) ho hex.1 hd hf hb tb fun h' tk dr us hk pm=>?_)
 have hlu:us.length=(ddp ns).length:=by
  rw [pm.length_eq,length_map,Array.length_toList,hn]
  rfl
 obtain ⟨zs,hZ⟩:=ints_some (P:=X.prog) (w:=X.w) us fun u hu=>by
  obtain ⟨e,he,rfl⟩:=List.mem_map.mp (pm.mem_iff.mp hu)
  obtain ⟨k,hk,_⟩:=(hel e he).1
  exact ⟨k,hk⟩
 have hpz:zs.Perm (ddp ns):=by
  refine perm_of_sub (ddp ns) zs (zIH ns) (fun k hk=>?_) ?_
  ·obtain ⟨e,he,hx⟩:=(hmem k).mp (List.any_eq_true.mpr ⟨k,hk,by simp⟩)
   exact ints_mem (P:=X.prog) (w:=X.w) hZ ⟨e.2,pm.mem_iff.mpr (List.mem_map.mpr ⟨e,he,rfl⟩),hx⟩
  ·rw [<-hlu,ints_len hZ]
 have hb2:=small1000 (n:=(ddp ns).length) (by omega)
 refine wpAny_bind (wpAny_newList ?_ (by rw [hlu];omega))
 have hoL:(h'.push { cls:=.type "list",data:=.seq us.toArray }).get? h'.objs.size=some (seqObj "list" us.toArray 0):=Heap.get?_push_size _ rfl
 refine wpAny_bind (wpAny_holding (wpAny_call_entry slot_list_sort ⟨_,hoL,rfl⟩ entry_list_sort (list_sort_tree hoL hZ (by rw [hlu];exact q2) fun out ns' a1 a2 a3=>⟨_,rfl,?_⟩) (args_list_sort _)))
 have e:=PySem.W.eq_sortI (a2.trans hpz) a3
 subst e
 have hlen:(PySem.W.sortI (ddp ns)).length=(ddp ns).length:=(PySem.W.sortI_perm _).length_eq
 obtain ⟨n,ho'⟩:=sortedHeap_at (out:=out) hoL
 have I3:L2.Inv X pins σ H1 { s1 with heap:=h',toks:=tk,drawn:=dr }:=L2Inv.drawn (I2.kept (t':=tk) hk) dr
 have kk:∀b o,h'.get? b=some o->(sortedHeap (h'.push { cls:=.type "list",data:=.seq us.toArray }) h'.objs.size us out).get? b=some o:=fun b o e=>by
  have hlt:=Heap.lt_size e
  rw [sortedHeap_old (Nat.ne_of_lt hlt) (by rw [Heap.size_push];exact Nat.lt_succ_of_lt hlt)]
  exact Heap.get?_push_of_some _ e
 exact wpAny_pure ⟨_,rfl,.ref h'.objs.size,upd H1 h'.objs.size (.lst ((PySem.W.sortI (ddp ns)).map V.int)),I3.laid (t':=tk) kk (Nat.le_refl _) ⟨by rw [length_map,hlen];omega,out.toList,n,vals_of a1,by simpa [seqObj] using ho'⟩,rfl,q _ (I3.hok.fresh (Nat.le_refl _))⟩
section
variable {K:Fg} {W:XW} {σ:St} {H:Hp} {Q:VK} {fa:F1} {fl:FL}
def zHM (fl:FL):F1:=fun Γ=>(fl Γ).bind fun ps Γ'=>match sortArg (ps.map (·.d)) with
 | some ns=>if ns.length<4000/\(ddp ns).length<64 then .ok ⟨.lst .leaf,.list ((PySem.W.sortI (ddp ns)).map .int)⟩ Γ' else .no
 | none=>.no
theorem rd_sortS (h:tE K W (zHM fl) σ H Q):tSS K (tA K W fl) σ H Q:=by
 obtain ⟨He,O,Fs,Γ,E,h⟩:=h
 refine ⟨He,O,Fs,Γ,E,?_⟩
 unfold zHM at h
 cases e:fl Γ with
 | er c Γ'=>rw [e] at h;exact h
 | no=>rw [e] at h;exact h
 | ok ps Γ1=>
  rw [e] at h
  intro vs H1 Gs Fs1 A
  have r:=A.reps
  have h:Wants K W He O Fs H σ Q (match sortArg (ps.map (·.d)) with | some ns=>if ns.length<4000/\(ddp ns).length<64 then .ok ⟨.lst .leaf,.list ((PySem.W.sortI (ddp ns)).map .int)⟩ Γ1 else .no | none=>.no):=h
  cases ei:sortArg (ps.map (·.d)) with
   | none=>rw [ei] at h;exact h.elim
   | some ns=>
    rw [ei] at h
    rw [sortArg_eq ei] at r
    have h:Wants K W He O Fs H σ Q (if ns.length<4000/\(ddp ns).length<64 then .ok ⟨.lst .leaf,.list ((PySem.W.sortI (ddp ns)).map .int)⟩ Γ1 else .no):=h
    by_cases hn:ns.length<4000/\(ddp ns).length<64
    ·rw [if_pos hn] at h
     have hl:=r.1
     match vs,hl with
     | [v],_=>
      have q:=r.2 0 v (.list (ns.map .int)) rfl rfl
      cases q with
      | @lst p ws _ hq hwl hw=>
       have ew:ws=ns.map V.int:=by
        apply ext_getElem?
        intro i
        by_cases hi:i<ws.length
        ·have hi2:i<ns.length:=by rw [length_map] at hwl;omega
         have q:=hw i (ws[i]'hi) (.int (ns[i]'hi2)) (getElem?_eq_getElem _) (by rw [getElem?_map,getElem?_eq_getElem hi2];rfl)
         rw [getElem?_eq_getElem hi,getElem?_map,getElem?_eq_getElem hi2]
         generalize ws[i]'hi=u at q
         cases q
         rfl
        ·rw [getElem?_eq_none (by omega),getElem?_eq_none (by rw [length_map] at hwl ⊢;omega)]
       rw [ew] at hq
       refine ⟨p,ns,rfl,hq,hn.1,hn.2,fun l hl=>h _ _ _ _ (A.newSc E.ndO hl (by simp) fun i v d a1 a2=>?_)⟩
       rw [getElem?_map] at a1 a2
       cases e3:(PySem.W.sortI (ddp ns))[i]? with
       | none=>rw [e3] at a1;cases a1
       | some z=>
        rw [e3] at a1 a2
        cases a1
        cases a2
        exact .int z
    ·rw [if_neg hn] at h;exact h.elim
end
section
variable {X:Cx} {N gl:List Str} {vs cs ls lo gs:List Nat} {W:XW} {a:Expr} {p pos:Pos} {fl:FL}
theorem cb_sortSet {p2 pos2:Pos} (S:Cp X N gl vs cs ls lo gs) (j k:Nat) (hj:gl[j]?=some ("sorted":Str)) (hg:gs.contains j=true) (hm:X.mg "sorted"=none) (hk:gl[k]?=some ("set":Str)) (hg2:gs.contains k=true) (hm2:X.mg "set"=none) (ha:PA X [a] (tA X.K W fl)) (hs:starEach [a] X.env=[(false,eval a X.env)])
  (hs1:starEach [.Call (.Name "set" p2) [a] [] pos2] X.env=[(false,eval (.Call (.Name "set" p2) [a] [] pos2) X.env)]):PE X (.Call (.Name "sorted" p) [.Call (.Name "set" p2) [a] [] pos2] [] pos) (tE X.K W (zHM fl)):=
 PEimp (pe_sortSet (S.g hj hg).1 hm (S.g hk hg2).1 hm2 S.calm ha hs hs1) fun _ _ _=>rd_sortS
end
end T
namespace TQ
open PySem PySem.Spec L2 T
open PyProof.Rows hiding St
section
variable {X:Cx} {N gl:List Str} {vs cs ls lo gs:List Nat} {W:XW} {a:Expr} {p pos:Pos} {fl:FL}
theorem w_cb_sortSet {p2 pos2:Pos} (S:Cp X N gl vs cs ls lo gs) (j k:Nat) (hj:gl[j]?=some ("sorted":Str)) (hg:gs.contains j=true) (hm:X.mg "sorted"=none) (hk:gl[k]?=some ("set":Str)) (hg2:gs.contains k=true) (hm2:X.mg "set"=none) (ha:Q (PA X [a] (tA X.K W fl))) (hs:starEach [a] X.env=[(false,eval a X.env)])
  (hs1:starEach [.Call (.Name "set" p2) [a] [] pos2] X.env=[(false,eval (.Call (.Name "set" p2) [a] [] pos2) X.env)]):Q (PE X (.Call (.Name "sorted" p) [.Call (.Name "set" p2) [a] [] pos2] [] pos) (tE X.K W (zHM fl))):=⟨T.cb_sortSet S j k hj hg hm hk hg2 hm2 ha.p hs hs1⟩
end
end TQ
namespace T
open PySem PySem.Spec L2
open PyProof.Rows hiding St
def pr2:PySem.PyData->Option (PySem.PyData×PySem.PyData)
 | .tuple [a,b]=>some (a,b)
 | _=>none
theorem pr2_eq {d:PySem.PyData} {p:PySem.PyData×PySem.PyData} (h:pr2 d=some p):d=.tuple [p.1,p.2]:=by
 unfold pr2 at h
 split at h
 ·cases h;rfl
 ·cases h
def zFX (i j:Nat) (body:FS):List PySem.PyData->Ev->OutS
 | [],Γ=>.nx Γ
 | d::r,Γ=>match pr2 d with
  | some q=>if i<Γ.length/\j<Γ.length then (match body ((Γ.set i (some ⟨.leaf,q.1⟩)).set j (some ⟨.leaf,q.2⟩)) with
   | .nx Γ'=>zFX i j body r Γ'
   | .ct Γ'=>zFX i j body r Γ'
   | .bk Γ'=>.nx Γ'
   | .rt p=>.rt p
   | .er c Γ'=>.er c Γ'
   | .no=>.no) else .no
  | none=>.no
def sForP (i j:Nat) (fi:FI) (body:FS):FS:=fun Γ=>match fi Γ with
 | .ok t Γ1=>if t.st then zFX i j body t.ds Γ1 else .no
 | .er c Γ1=>.er c Γ1
 | .no=>.no
section
variable {K:Fg} {W:XW} {σ:St} {H:Hp} {D:Ends}
theorem rd_forP {i j:Nat} {fi:FI} {body:FS} (h:tS K W (sForP i j fi body) D σ H):tFor (tI K W fi) (gTup K 2 (gCons (gName i) (gCons (gName j) gNil))) (tS K W body) D σ H:=by
 obtain ⟨He,O,Fs,Γ,E,h⟩:=h
 refine ⟨He,O,Fs,Γ,E,?_⟩
 unfold sForP at h
 cases e:fi Γ with
 | er c Γ1=>rw [e] at h;exact fun H' Fs' s E'=>h σ H' Fs' E'
 | no=>rw [e] at h;exact h
 | ok t Γ1=>
  rw [e] at h
  intro J H1 Fs1 vs P s1 E1 n1 it hP hP1 hst hr
  have h:zCJ K W He O D (if t.st then zFX i j body t.ds Γ1 else .no):=h
  cases ht:t.st with
  | false=>rw [ht] at h;exact h.elim
  | true=>
   rw [ht] at h
   have h:zCJ K W He O D (zFX i j body t.ds Γ1):=h
   obtain ⟨E1',sHe⟩:=E1.rebase
   have hlen:vs.length=t.ds.length:=hr.1
   refine ⟨fun k m σ' H'=>m=vs.length-k/\k<=vs.length/\∃Γk Fk,EnvOk K (hid H1 Fs1.flatten) O Fk H' σ' Γk/\zCJ K W He O D (zFX i j body (t.ds.drop k) Γk),⟨vs.length,by simp,Nat.zero_le _,Γ1,Fs1,E1',by simpa using h⟩,?_⟩
   rintro k m σ' H' ⟨rfl,hk,Γk,Fk,Ek,hw⟩
   have hPk:P H':=hst ht H' Ek.same
   by_cases hlt:k<vs.length
   case neg=>
    left
    have hke:k=vs.length:=by omega
    have:t.ds.drop k=[]:=drop_eq_nil_of_le (by omega)
    rw [this] at hw
    exact ⟨by rw [hke];exact it.stop H' hPk,hw σ' H' Fk (Ek.unbase sHe)⟩
   case pos=>
    right
    have hv:vs[k]?=some vs[k]:=getElem?_eq_getElem hlt
    have hkd:k<t.ds.length:=by omega
    have hd:t.ds[k]?=some t.ds[k]:=getElem?_eq_getElem hkd
    have hdr:t.ds.drop k=t.ds[k]::t.ds.drop (k+1):=drop_eq_getElem_cons hkd
    rw [hdr] at hw
    generalize hdk:t.ds[k]=d at hd hw
    generalize hvk:vs[k]=v at hv
    obtain ⟨hgo,hyld⟩:=it.go k H' v hPk hv
    simp only [zFX] at hw
    cases ep:pr2 d with
    | none=>rw [ep] at hw;exact hw.elim
    | some q=>
    rw [ep] at hw
    obtain ⟨d1,d2⟩:=q
    dsimp only at hw
    have ed:=pr2_eq ep
    dsimp only at ed
    subst ed
    by_cases hi:i<Γk.length/\j<Γk.length
    case neg=>rw [if_neg hi] at hw;exact hw.elim
    rw [if_pos hi] at hw
    have rep:Rep K (hid H' (O++Fk.flatten)) v (.tuple [d1,d2]):=by
     refine (hr.2 k v _ hv hd).mono fun b o hb=>?_
     have hb1:hid H1 Fs1.flatten b=some o:=sub_hid b o hb
     have hbO:b∉O:=fun z=>by
      unfold hid at hb
      rw [if_pos (mem_append_left _ z)] at hb
      cases hb
     have hbF:b∉Fk.flatten:=fun z=>by
      have:=Ek.fresh b z
      rw [hb1] at this
      cases this
     exact zIC (Ek.same b o hb1) fun z=>(List.mem_append.mp z).elim hbO hbF
    obtain ⟨T,v1,v2,rfl,hT,rv1,rv2⟩:=rep_pair rep
    have Ep:=EnvOk.put (G:=[]) (i:=i) (p:=⟨.leaf,d1⟩) (v:=v1) Ek (.leaf rv1) rfl (fun a ha=>by simp at ha) hi.1
    have fk:∀a∈O++(Fk.set i []).flatten,a∈O++Fk.flatten:=fun a ha=>by
     rcases List.mem_append.mp ha with z | z
     ·exact mem_append_left _ z
     ·obtain ⟨F,hF⟩:=Ek.lt hi.1
      have:=(zBD (G:=[]) hF).mem_iff.mp (mem_append_right _ z)
      exact mem_append_right _ (by simpa using this)
    have Eq:=EnvOk.put (G:=[]) (i:=j) (p:=⟨.leaf,d2⟩) (v:=v2) Ep (.leaf (rv2.mono (zB2 (Same.refl _) fun a ha=>.inl (fk a ha)))) rfl (fun a ha=>by simp at ha) (by rw [length_set];exact hi.2)
    refine ⟨hgo,fun σ2 H2=>∃Γk Fk,EnvOk K (hid H1 Fs1.flatten) O Fk H2 σ2 Γk/\zCJ K W He O D (zFX i j body (t.ds.drop (k+1)) Γk),fun σ2 H2 q=>⟨vs.length-(k+1),by omega,rfl,hlt,q⟩,fun x Hx hx=>?_⟩
    obtain ⟨rfl,rfl⟩:=hyld x Hx hx
    refine ⟨T,[v1,v2],rfl,SameT hid_le hT,rfl,v1,[v2],rfl,v2,[],rfl,rfl,?_⟩
    refine ⟨hid H1 Fs1.flatten,O,_,_,Eq,?_⟩
    cases eb:body ((Γk.set i (some ⟨.leaf,d1⟩)).set j (some ⟨.leaf,d2⟩)) with
    | nx Γ'=>rw [eb] at hw;exact fun σ2 H2 F2 E2=>⟨Γ',F2,E2,hw⟩
    | ct Γ'=>rw [eb] at hw;exact fun σ2 H2 F2 E2=>⟨Γ',F2,E2,hw⟩
    | bk Γ'=>rw [eb] at hw;exact fun σ2 H2 F2 E2=>hw σ2 H2 F2 (E2.unbase sHe)
    | rt p=>rw [eb] at hw;exact fun u H2 G r=>hw u H2 G (r.unbase sHe)
    | er c Γ'=>rw [eb] at hw;exact fun σ2 H2 F2 E2=>hw σ2 H2 F2 (E2.unbase sHe)
    | no=>rw [eb] at hw;exact hw
end
section
variable {X:Cx} {N gl:List Str} {vs cs ls lo gs:List Nat} {W:XW} {a:Expr} {pos p:Pos} {fa:F1}
theorem cs_forP (S:Cp X N gl vs cs ls lo gs) (i j:Nat) {x y:Str} {px py pt:Pos} {kt:Nat} {iter:Expr} {body:List Stmt} {fi:FI} {g:FS} (hx:N[i]?=some x) (hl:ls.contains i=true) (hy:N[j]?=some y) (hl2:ls.contains j=true)
  (hp:PassesOwn (model X.prog X.w) X.A X.env X.xe) (hi':PI X (.Tuple [.Name x px,.Name y py] kt pt) iter (tI X.K W fi)) (hb:PSs X body (tS X.K W g)) (hs:∀x,foldedSetIterable iter X.env x=pure x) {fpos:Pos} :
  PS X (.For (.Tuple [.Name x px,.Name y py] kt pt) iter body [] fpos) (tS X.K W (sForP i j fi g)):=by
 have hN:X.N.Nodup:=by rw [S.hN];exact S.nd
 exact PSimp (ps_for hp S.calm hi' (zJL S.calm (zCP (zCL hN (by rw [S.hN];exact hx) (S.loc i x hx hl).1 (S.loc i x hx hl).2) (zCP (zCL hN (by rw [S.hN];exact hy) (S.loc j y hy hl2).1 (S.loc j y hy hl2).2) zH6))) hb hs) fun _ _ _=>rd_forP
end
end T
namespace TQ
open PySem PySem.Spec L2 T
open PyProof.Rows hiding St
section
variable {X:Cx} {N gl:List Str} {vs cs ls lo gs:List Nat} {W:XW} {a:Expr} {pos p:Pos} {fa:F1}
theorem w_cs_forP (S:Cp X N gl vs cs ls lo gs) (i j:Nat) {x y:Str} {px py pt:Pos} {kt:Nat} {iter:Expr} {body:List Stmt} {fi:FI} {g:FS} (hx:N[i]?=some x) (hl:ls.contains i=true) (hy:N[j]?=some y) (hl2:ls.contains j=true)
  (hp:PassesOwn (model X.prog X.w) X.A X.env X.xe) (hi':Q (PI X (.Tuple [.Name x px,.Name y py] kt pt) iter (tI X.K W fi))) (hb:Q (PSs X body (tS X.K W g))) (hs:∀x,foldedSetIterable iter X.env x=pure x) {fpos:Pos} :
  Q (PS X (.For (.Tuple [.Name x px,.Name y py] kt pt) iter body [] fpos) (tS X.K W (sForP i j fi g))):=⟨T.cs_forP S i j hx hl hy hl2 hp hi'.p hb.p hs⟩
end
end TQ
namespace KQ
open PySem PySem.Spec L2 T
open PyProof.Rows hiding St
open KC
def d__law_few:FS:=(sRet (eComp .leaf 2 (iR1 (eCons (eVar 1) eNil)) (bOf gBool (eOp gEq (eCall 3 zAK (eCons (eVar 0) (eCons (eVar 2) (eCons (eK (.int 3)) eNil)))) (eK (.int 0)))) (eVar 2)))
def zGD:List PySem.PyData->Res:=denOf 3 d__law_few
def d__law_longest:FS:=(sSeq (sSet false 4 (eList .leaf (eCons (eVar 2) eNil)))
  (sSeq (sFor 5 (iR1 (eCons (eOp gAddI (eVar 3) (eK (.int 1))) eNil))
  (sSeq (sSet false 4 (eComp .leaf 7 (iSeq (eVar 4)) (bOf gBool (eOp (gIn true) (eVar 7) (eVar 1))) (eVar 7)))
  (sSeq (sIf (bOf gBool (eOp gEq (eVar 4) (eList .leaf eNil))) (sRet (eK (.bool true))) sNext)
  (sSeq (sSet true 6 (eList .leaf eNil))
  (sSeq (sFor 7 (iSeq (eVar 4))
  (sExt 6 (eIdx (eIdx (eVar 0) (eK (.int 2))) (eVar 7))))
  (sFrz 6 (sSet false 4 (zHM (eCons (eVar 6) eNil)))))))))
  (sRet (eK (.bool false)))))
def zBO:List PySem.PyData->Res:=denOf 8 d__law_longest
def d__law_filled:FS:=(sSeq (sSet true 3 (zCO (eVar 2)))
  (sSeq (sFor 4 (iR1 (eCons (eCB gLen (eCons (eVar 2) eNil)) eNil))
  (sIf (bAnd (bOf gBool (eOp (gIsN false) (eIdx (eVar 2) (eVar 4)) (eK .none))) (bOf gBool (eOp gEq (eIdx (eIdx (eVar 0) (eK (.int 0))) (eVar 4)) (eVar 1)))) (sSetI 3 (eIdx (eIdx (eIdx (eVar 0) (eK (.int 2))) (eVar 4)) (eK (.int 0))) (eVar 4)) sNext))
  (sRet (eMove 3))))
def zCE:List PySem.PyData->Res:=denOf 5 d__law_filled
def d_law:FS:=(sSeq (sSet false 1 (eCall 3 m__law_world (eCons (eVar 0) (eCons (eK (.int 0)) (eCons (eK (.int 5)) eNil)))))
  (sSeq (sSet false 2 (eCB gLen (eCons (eIdx (eVar 1) (eK (.int 0))) eNil)))
  (sSeq (sSet false 3 (eCall 3 zAK (eCons (eCall 2 zAO (eCons (eVar 0) (eCons (eK (.int 8)) eNil))) (eCons (eK (.int 0)) (eCons (eK (.int 2)) eNil)))))
  (sSeq (sSet false 4 (eCall 2 zGD (eCons (eCall 2 zAO (eCons (eVar 0) (eCons (eK (.int 7)) eNil))) (eCons (eVar 2) eNil))))
  (sSeq (sUnpN [10,11] (eCall 3 zI2 (eCons (eVar 1) (eCons (eVar 3) (eCons (eVar 4) eNil)))))
  (sSeq (sSet false 5 (eIdx (eCall 3 zKD (eCons (eVar 1) (eCons (eOp gSub (eK (.int 1)) (eVar 3)) (eCons (eComp .leaf 9 (iR1 (eCons (eVar 2) eNil)) (bOf gBool (eOp (gIn true) (eVar 9) (eVar 4))) (eVar 9)) eNil)))) (eK (.int 1))))
  (sFrz 11 (sSeq (sSet false 6 (eCall 3 zHR (eCons (eVar 1) (eCons (eVar 3) (eCons (eVar 11) eNil)))))
  (sSeq (sSet false 7 (eList .leaf (eCons (eCall 3 zCE (eCons (eVar 1) (eCons (eVar 3) (eCons (eVar 11) eNil)))) (eCons (eCall 4 zDY (eCons (eVar 1) (eCons (eVar 3) (eCons (eCall 2 zAO (eCons (eVar 0) (eCons (eK (.int 9)) eNil))) (eCons (eK (.bool false)) eNil))))) eNil))))
  (sSeq (sSet false 8 (eList .leaf (eCons (eCall 3 zCE (eCons (eVar 1) (eCons (eOp gSub (eK (.int 1)) (eVar 3)) (eCons (eVar 5) eNil)))) (eCons (eCall 4 zDY (eCons (eVar 1) (eCons (eOp gSub (eK (.int 1)) (eVar 3)) (eCons (eCall 2 zAO (eCons (eVar 0) (eCons (eK (.int 10)) eNil))) (eCons (eK (.bool false)) eNil))))) eNil))))
  (sSeq (sFor 9 (iR1 (eCons (eVar 2) eNil))
  (sSeq (sIf (bAnd (bOf gBool (eOp (gIsN true) (eIdx (eVar 10) (eVar 9)) (eK .none))) (bNot (bOf gTru (eCall 4 zBO (eCons (eVar 6) (eCons (eVar 4) (eCons (eVar 9) (eCons (eIdx (eVar 10) (eVar 9)) eNil)))))))) (sRet (eK (.bool false))) sNext)
  (sSeq (sSet false 12 (eIf (bOf gBool (eOp (gIsN true) (eIdx (eVar 10) (eVar 9)) (eK .none))) (eList .leaf (eCons (eTup (eCons (eK (.int 0)) (eCons (eK (.int 0)) eNil))) (eCons (eTup (eCons (eK (.int 0)) (eCons (eK (.int 1)) eNil))) eNil))) (eList .leaf (eCons (eTup (eCons (eK (.int 0)) (eCons (eK (.int 0)) eNil))) (eCons (eTup (eCons (eK (.int 1)) (eCons (eK (.int 0)) eNil))) eNil)))))
  (sForP 13 14 (iSeq (eVar 12))
  (sSeq (sSet false 15 (eList .leaf (eCons (eIdx (eVar 7) (eVar 13)) (eCons (eIdx (eVar 8) (eVar 14)) eNil))))
  (sSeq (sSet false 16 (eCall 4 zG5 (eCons (eVar 1) (eCons (eIdx (eVar 15) (eVar 3)) (eCons (eIdx (eVar 15) (eOp gSub (eK (.int 1)) (eVar 3))) (eCons (eVar 9) eNil))))))
  (sIf (bOf gBool (eOp gNe (eOp gGt (eCB gLen (eCons (eComp .leaf 17 (iSeq (eCat (eIdx (eVar 16) (eK (.int 0))) (eIdx (eVar 16) (eK (.int 1))))) (bOf gBool (eOp (gIn false) (eVar 17) (eVar 4))) (eVar 17)) eNil)) (eK (.int 0))) (eOp (gIsN true) (eIdx (eVar 10) (eVar 9)) (eK .none)))) (sRet (eK (.bool false))) sNext)))))))
  (sRet (eK (.bool true))))))))))))))
def m_law:List PySem.PyData->Res:=denOf 18 d_law
open TQ
abbrev zHV:List Str:=["is_chosen", "by_steps"]
abbrev zJF:List Str:=["any", "all"]
def zG0:Stmt:=sTm 7
theorem bd_is_led {X:Cx} (S:Cp X zHV zJF [0,1] [] [0,1] [0,1] [0,1]) (R:Rm X) (hp:PassesOwn (model X.prog X.w) X.A X.env X.xe) (n_any:X.mg "any"=none) (n_all:X.mg "all"=none):PSs X (zAQ zG0) (tS X.K W0 zI9):=
 TQ.Q.p (zAJ (zAN (zHZ (zB4 (w_cv S 0 rfl rfl) (fun _=>rfl)) (w_cb_any S 0 rfl rfl n_any (zAB (w_cv S 1 rfl rfl) zAD (zAA rfl)) (zAA rfl) rfl) (zD8 S 1 rfl rfl n_all (zAB (w_cv S 1 rfl rfl) zAD (zAA rfl)) (zAA rfl) rfl))))
theorem sc_is_led:FnScope zHV ["is_chosen", "by_steps"] (zAH zG0):=⟨rfl,rfl,rfl,by decide +kernel,rfl,by decide +kernel,by decide +kernel⟩
theorem cp_is_led:cpB zHV zJF [0,1] [] [0,1] [0,1] [0,1] (zAH zG0)=true:=by kernel_rfl
theorem nm_is_led:nmB zHV zJF=true:=by kernel_rfl
abbrev zGI:List Str:=["rank", "other"]
abbrev zHJ:List Str:=[]
def zEV:Stmt:=sTm 8
theorem bd_is_lower {X:Cx} (S:Cp X zGI zHJ [0,1] [] [0,1] [0,1] []) (R:Rm X) (hp:PassesOwn (model X.prog X.w) X.A X.env X.xe):PSs X (zAQ zEV) (tS X.K W0 zEZ):=
 TQ.Q.p (zAJ (zAN (zE3 (w_ce (zFR R) (w_cv S 0 rfl rfl) zAX (by with_unfolding_all rfl)) (zE3 (w_ce (zFR R) (w_cv S 1 rfl rfl) zAX (by with_unfolding_all rfl)) (zF8 (w_ce (q_lt R) (w_cv S 0 rfl rfl) (w_cv S 1 rfl rfl) (by with_unfolding_all rfl)))))))
theorem sc_is_lower:FnScope zGI ["rank", "other"] (zAH zEV):=⟨rfl,rfl,rfl,by decide +kernel,rfl,by decide +kernel,by decide +kernel⟩
theorem cp_is_lower:cpB zGI zHJ [0,1] [] [0,1] [0,1] [] (zAH zEV)=true:=by kernel_rfl
theorem nm_is_lower:nmB zGI zHJ=true:=by kernel_rfl
abbrev zDG:List Str:=["world", "ranks", "room", "there"]
abbrev zFI:List Str:=["is_lower"]
def zB8:Stmt:=sTm 9
theorem bd_lower_steps {X:Cx} (S:Cp X zDG zFI [0,1,2] [1,2] [0,1,2] [0] []) (R:Rm X) (hp:PassesOwn (model X.prog X.w) X.A X.env X.xe) (c_is_lower:Cal X "is_lower" 2 zDL):PSs X (zAQ zB8) (tS X.K W0 zE6):=
 TQ.Q.p (zAJ (zAN (w_co (vs':=[1,2,3]) (cs':=[1,2]) (lo':=[]) (gs':=[0]) S .leaf 3 rfl (by kernel_rfl) (by kernel_rfl) (zA8 (zAI (zAI (w_cv S 0 rfl rfl) zAF (fun _ _=>rfl)) (w_cv S 2 rfl rfl) (fun _ _=>rfl)))
   (fun Y1 S1 F1=>have c_is_lower:=F1.c c_is_lower;zB5 (zB4 (w_cc S1 0 rfl rfl c_is_lower (zAB (zAI (w_cv S1 1 rfl rfl) (w_cv S1 3 rfl rfl) (fun _ _=>rfl)) (zAB (zAI (w_cv S1 1 rfl rfl) (w_cv S1 2 rfl rfl) (fun _ _=>rfl)) zAD (zAA rfl)) (zAA rfl)) (zAA rfl) rfl) (fun _=>rfl)))
   (fun Y1 S1 F1=>have c_is_lower:=F1.c c_is_lower;(w_cv S1 3 rfl rfl)) (fun _=>rfl))))
theorem sc_lower_steps:FnScope zDG ["world", "ranks", "room"] (zAH zB8):=⟨rfl,rfl,rfl,by decide +kernel,rfl,by decide +kernel,by decide +kernel⟩
theorem cp_lower_steps:cpB zDG zFI [0,1,2] [1,2] [0,1,2] [0] [] (zAH zB8)=true:=by kernel_rfl
theorem nm_lower_steps:nmB zDG zFI=true:=by kernel_rfl
abbrev zDE:List Str:=["world", "chosen", "through", "ranks", "found", "room", "there"]
abbrev zFG:List Str:=["is_led"]
def zB6:Stmt:=sTm 10
theorem bd_ranked_next {X:Cx} (S:Cp X zDE zFG [0,1,2,3,4,5] [3] [0,1,2,3,4,5] [0,1,2,4,5] [0]) (R:Rm X) (hp:PassesOwn (model X.prog X.w) X.A X.env X.xe) (c_is_led:Cal X "is_led" 2 zEC):PSs X (zAQ zB6) (tS X.K W0 zE4):=
 TQ.Q.p (zAG (zAM S true 4 rfl rfl rfl (zA2 .leaf zAD))
  (zAG (zC7 S 5 rfl rfl hp (zA8 (w_cv S 2 rfl rfl))
  (zAJ (zBI (zE1 (zE2 (w_ct (q_is R) (zAI (w_cv S 3 rfl rfl) (w_cv S 5 rfl rfl) (fun _ _=>rfl)) zAX (by with_unfolding_all rfl)) (zDO (zB4 (w_cc S 0 rfl rfl c_is_led (zAB (zAI (w_cv S 1 rfl rfl) (w_cv S 5 rfl rfl) (fun _ _=>rfl)) (zAB (w_co (vs':=[3,6]) (cs':=[3]) (lo':=[]) (gs':=[]) S .leaf 6 rfl (by kernel_rfl) (by kernel_rfl) (zA8 (zAI (zAI (w_cv S 0 rfl rfl) zAF (fun _ _=>rfl)) (w_cv S 5 rfl rfl) (fun _ _=>rfl)))
   (fun Y1 S1 F1=>have R:=F1.r R;zBC)
   (fun Y1 S1 F1=>have R:=F1.r R;(w_ce (zFR R) (zAI (w_cv S1 3 rfl rfl) (w_cv S1 6 rfl rfl) (fun _ _=>rfl)) zAX (by with_unfolding_all rfl))) (fun _=>rfl)) zAD (zAA rfl)) (zAA rfl)) (zAA rfl) rfl) (fun _=>rfl))))) (zAJ (zCK S 4 rfl rfl (w_cv S 5 rfl rfl) (zAR rfl) rfl rfl rfl rfl)) zA3)) (fun _=>rfl))
  (zAJ (zAN (w_cm S 4 rfl rfl)))))
theorem sc_ranked_next:FnScope zDE ["world", "chosen", "through", "ranks"] (zAH zB6):=⟨rfl,rfl,rfl,by decide +kernel,rfl,by decide +kernel,by decide +kernel⟩
theorem cp_ranked_next:cpB zDE zFG [0,1,2,3,4,5] [3] [0,1,2,3,4,5] [0,1,2,4,5] [0] (zAH zB6)=true:=by kernel_rfl
theorem nm_ranked_next:nmB zDE zFG=true:=by kernel_rfl
abbrev zGG:List Str:=["world", "chosen", "through", "goal", "ranks", "rank", "fresh", "room", "owner"]
abbrev zHH:List Str:=["ranked_next"]
def zET:Stmt:=sTm 11
theorem bd_ranks_to {X:Cx} (S:Cp X zGG zHH [0,1,2,3,4,5,6,7] [] [0,1,2,3,4,5,6,7] [0,1,2,3,4,5,6,7] [0]) (R:Rm X) (hp:PassesOwn (model X.prog X.w) X.A X.env X.xe) (c_ranked_next:Cal X "ranked_next" 4 zBJ):PSs X (zAQ zET) (tS X.K W0 zHE):=
 TQ.Q.p (zAG (zFO (vs':=[8]) (cs':=[]) (lo':=[]) (gs':=[]) S true 4 .leaf 8 rfl rfl rfl rfl (by kernel_rfl) (by kernel_rfl) (by kernel_rfl) (zA8 (zAI (w_cv S 0 rfl rfl) zAF (fun _ _=>rfl)))
   (fun Y1 S1 F1=>zBC)
   (fun Y1 S1 F1=>zAX) (fun _=>rfl))
  (zAG (zAM S false 5 rfl rfl rfl zAF)
  (zAG (zAM S false 6 rfl rfl rfl (w_cv S 3 rfl rfl))
  (zAG (w_cs_while 1000 hp (zB4 (w_cv S 6 rfl rfl) (fun _=>rfl))
  (zAG (zC7 S 7 rfl rfl hp (zA8 (w_cv S 6 rfl rfl))
  (zAJ (w_cs_setI S 4 rfl rfl (w_cv S 5 rfl rfl) (w_cv S 7 rfl rfl) rfl rfl rfl (fun _=>rfl))) (fun _=>rfl))
  (zAG (w_cs_aug S 5 rfl rfl zAF)
  (zAJ (zAM S false 6 rfl rfl rfl (w_cc_f S 0 rfl rfl c_ranked_next (zAB (w_cv S 0 rfl rfl) (zAB (w_cv S 1 rfl rfl) (zAB (w_cv S 2 rfl rfl) (zAB (w_cv S 4 rfl rfl) zAD (zAA rfl)) (zAA rfl)) (zAA rfl)) (zAA rfl)) (zAA rfl) rfl))))))
  (zAJ (zAN (w_cm S 4 rfl rfl)))))))
theorem sc_ranks_to:FnScope zGG ["world", "chosen", "through", "goal"] (zAH zET):=⟨rfl,rfl,rfl,by decide +kernel,rfl,by decide +kernel,by decide +kernel⟩
theorem cp_ranks_to:cpB zGG zHH [0,1,2,3,4,5,6,7] [] [0,1,2,3,4,5,6,7] [0,1,2,3,4,5,6,7] [0] (zAH zET)=true:=by kernel_rfl
theorem nm_ranks_to:nmB zGG zHH=true:=by kernel_rfl
abbrev zFA:List Str:=["entries", "k"]
abbrev zGR:List Str:=["len", "range", "all"]
def zDR:Stmt:=sTm 16
theorem bd_is_rising {X:Cx} (S:Cp X zFA zGR [0] [0] [0] [] [0,1,2]) (R:Rm X) (hp:PassesOwn (model X.prog X.w) X.A X.env X.xe) (n_len:X.mg "len"=none) (n_range:X.mg "range"=none) (n_all:X.mg "all"=none):PSs X (zAQ zDR) (tS X.K W0 d_is_rising):=
 TQ.Q.p (zAJ (zAN (zD8 S 2 rfl rfl n_all (zAB (w_co (vs':=[0,1]) (cs':=[0]) (lo':=[]) (gs':=[]) S .leaf 1 rfl (by kernel_rfl) (by kernel_rfl) (w_cr2 S 1 rfl rfl n_range (zAB zAF (zAB (zA9 S 0 rfl rfl n_len (zAB (w_cv S 0 rfl rfl) zAD (zAA rfl)) (zAA rfl) rfl) zAD (zAA rfl)) (zAA rfl)) (star_two rfl rfl) (zAR rfl))
   (fun Y1 S1 F1=>have R:=F1.r R;zBC)
   (fun Y1 S1 F1=>have R:=F1.r R;(w_ce (q_lt R) (zAI (w_cv S1 0 rfl rfl) (zGA (w_cv S1 1 rfl rfl) zAF) (fun _ _=>rfl)) (zAI (w_cv S1 0 rfl rfl) (w_cv S1 1 rfl rfl) (fun _ _=>rfl)) (by with_unfolding_all rfl))) (fun _=>rfl)) zAD (zAA rfl)) (zAA rfl) rfl)))
theorem sc_is_rising:FnScope zFA ["entries"] (zAH zDR):=⟨rfl,rfl,rfl,by decide +kernel,rfl,by decide +kernel,by decide +kernel⟩
theorem cp_is_rising:cpB zFA zGR [0] [0] [0] [] [0,1,2] (zAH zDR)=true:=by kernel_rfl
theorem nm_is_rising:nmB zFA zGR=true:=by kernel_rfl
abbrev zFD:List Str:=["entries", "entry"]
abbrev zGU:List Str:=["LETTERS", "all", "is_rising"]
def zDU:Stmt:=sTm 17
theorem bd_are_marks {X:Cx} (S:Cp X zFD zGU [0] [] [0] [0] [1,2]) (R:Rm X) (hp:PassesOwn (model X.prog X.w) X.A X.env X.xe) (n_all:X.mg "all"=none) (c_is_rising:Cal X "is_rising" 1 zBR) (h_LETTERS:Con X "LETTERS" zCF):PSs X (zAQ zDU) (tS X.K W0 d_are_marks):=
 TQ.Q.p (zAJ (zAN (zE3 (zD8 S 1 rfl rfl n_all (zAB (w_co (vs':=[1]) (cs':=[]) (lo':=[]) (gs':=[0]) S .leaf 1 rfl (by kernel_rfl) (by kernel_rfl) (zA8 (w_cv S 0 rfl rfl))
   (fun Y1 S1 F1=>have R:=F1.r R;have h_LETTERS:=F1.h h_LETTERS;zBC)
   (fun Y1 S1 F1=>have R:=F1.r R;have h_LETTERS:=F1.h h_LETTERS;(w_ce (q_in R) (w_cv S1 1 rfl rfl) (w_ck S1 0 rfl rfl h_LETTERS) (by with_unfolding_all rfl))) (fun _=>rfl)) zAD (zAA rfl)) (zAA rfl) rfl) (zF8 (w_cc S 2 rfl rfl c_is_rising (zAB (w_cv S 0 rfl rfl) zAD (zAA rfl)) (zAA rfl) rfl)))))
theorem sc_are_marks:FnScope zFD ["entries"] (zAH zDU):=⟨rfl,rfl,rfl,by decide +kernel,rfl,by decide +kernel,by decide +kernel⟩
theorem cp_are_marks:cpB zFD zGU [0] [] [0] [0] [1,2] (zAH zDU)=true:=by kernel_rfl
theorem nm_are_marks:nmB zFD zGU=true:=by kernel_rfl
abbrev zFC:List Str:=["entries", "size", "entry"]
abbrev zGT:List Str:=["all", "is_rising"]
def zDT:Stmt:=sTm 18
theorem bd_are_rooms {X:Cx} (S:Cp X zFC zGT [0,1] [1] [0,1] [0] [0,1]) (R:Rm X) (hp:PassesOwn (model X.prog X.w) X.A X.env X.xe) (n_all:X.mg "all"=none) (c_is_rising:Cal X "is_rising" 1 zBR):PSs X (zAQ zDT) (tS X.K W0 d_are_rooms):=
 TQ.Q.p (zAJ (zAN (zE3 (zD8 S 0 rfl rfl n_all (zAB (w_co (vs':=[1,2]) (cs':=[1]) (lo':=[]) (gs':=[]) S .leaf 2 rfl (by kernel_rfl) (by kernel_rfl) (zA8 (w_cv S 0 rfl rfl))
   (fun Y1 S1 F1=>have R:=F1.r R;zBC)
   (fun Y1 S1 F1=>have R:=F1.r R;(w_ce2 (q_le R) (q_lt R) zAF (w_cv S1 2 rfl rfl) (w_cv S1 1 rfl rfl) (by with_unfolding_all rfl))) (fun _=>rfl)) zAD (zAA rfl)) (zAA rfl) rfl) (zF8 (w_cc S 1 rfl rfl c_is_rising (zAB (w_cv S 0 rfl rfl) zAD (zAA rfl)) (zAA rfl) rfl)))))
theorem sc_are_rooms:FnScope zFC ["entries", "size"] (zAH zDT):=⟨rfl,rfl,rfl,by decide +kernel,rfl,by decide +kernel,by decide +kernel⟩
theorem cp_are_rooms:cpB zFC zGT [0,1] [1] [0,1] [0] [0,1] (zAH zDT)=true:=by kernel_rfl
theorem nm_are_rooms:nmB zFC zGT=true:=by kernel_rfl
abbrev zFB:List Str:=["entries", "size"]
abbrev zGS:List Str:=["len", "are_rooms"]
def zDS:Stmt:=sTm 19
theorem bd_are_steps {X:Cx} (S:Cp X zFB zGS [0,1] [] [0,1] [0,1] [0,1]) (R:Rm X) (hp:PassesOwn (model X.prog X.w) X.A X.env X.xe) (n_len:X.mg "len"=none) (c_are_rooms:Cal X "are_rooms" 2 zBK):PSs X (zAQ zDS) (tS X.K W0 d_are_steps):=
 TQ.Q.p (zAJ (zAN (zE3 (w_ce (q_gt R) (zA9 S 0 rfl rfl n_len (zAB (w_cv S 0 rfl rfl) zAD (zAA rfl)) (zAA rfl) rfl) zAF (by with_unfolding_all rfl)) (zF8 (w_cc S 1 rfl rfl c_are_rooms (zAB (w_cv S 0 rfl rfl) (zAB (w_cv S 1 rfl rfl) zAD (zAA rfl)) (zAA rfl)) (zAA rfl) rfl)))))
theorem sc_are_steps:FnScope zFB ["entries", "size"] (zAH zDS):=⟨rfl,rfl,rfl,by decide +kernel,rfl,by decide +kernel,by decide +kernel⟩
theorem cp_are_steps:cpB zFB zGS [0,1] [] [0,1] [0,1] [0,1] (zAH zDS)=true:=by kernel_rfl
theorem nm_are_steps:nmB zFB zGS=true:=by kernel_rfl
abbrev zGH:List Str:=["owners", "marks", "steps", "size", "owner", "row"]
abbrev zHI:List Str:=["len", "MOST_ROOMS", "PLAYERS", "all", "are_marks", "are_steps"]
def zEU:Stmt:=sTm 20
theorem bd_is_world {X:Cx} (S:Cp X zGH zHI [0,1,2,3] [3] [0,1,2,3] [0,1,2] [0,1,3]) (R:Rm X) (hp:PassesOwn (model X.prog X.w) X.A X.env X.xe) (n_len:X.mg "len"=none) (n_all:X.mg "all"=none) (c_are_marks:Cal X "are_marks" 1 zCN) (c_are_steps:Cal X "are_steps" 2 zCM) (h_MOST_ROOMS:Con X "MOST_ROOMS" zC4) (h_PLAYERS:Con X "PLAYERS" zBG):PSs X (zAQ zEU) (tS X.K W0 d_is_world):=
 TQ.Q.p (zAG (zAM S false 3 rfl rfl rfl (zA9 S 0 rfl rfl n_len (zAB (w_cv S 0 rfl rfl) zAD (zAA rfl)) (zAA rfl) rfl))
  (zAG (zBI (zE1 (zIT (w_ct (q_lt R) (w_cv S 3 rfl rfl) zAF (by with_unfolding_all rfl)) (zIT (w_ct (q_gt R) (w_cv S 3 rfl rfl) (w_ck S 1 rfl rfl h_MOST_ROOMS) (by with_unfolding_all rfl)) (zIT (w_ct (q_ne R) (zA9 S 0 rfl rfl n_len (zAB (w_cv S 1 rfl rfl) zAD (zAA rfl)) (zAA rfl) rfl) (w_cv S 3 rfl rfl) (by with_unfolding_all rfl)) (w_dw_or1 (w_ct (q_ne R) (zA9 S 0 rfl rfl n_len (zAB (w_cv S 2 rfl rfl) zAD (zAA rfl)) (zAA rfl) rfl) (w_cv S 3 rfl rfl) (by with_unfolding_all rfl))))))) (zAJ (zAN zBT)) zA3)
  (zAG (zBI (zF9 (zB4 (zD8 S 3 rfl rfl n_all (zAB (w_co (vs':=[4]) (cs':=[]) (lo':=[]) (gs':=[2]) S .leaf 4 rfl (by kernel_rfl) (by kernel_rfl) (zA8 (w_cv S 0 rfl rfl))
   (fun Y1 S1 F1=>have R:=F1.r R;have h_PLAYERS:=F1.h h_PLAYERS;zBC)
   (fun Y1 S1 F1=>have R:=F1.r R;have h_PLAYERS:=F1.h h_PLAYERS;(w_ce (q_in R) (w_cv S1 4 rfl rfl) (w_ck S1 2 rfl rfl h_PLAYERS) (by with_unfolding_all rfl))) (fun _=>rfl)) zAD (zAA rfl)) (zAA rfl) rfl) (fun _=>rfl))) (zAJ (zAN zBT)) zA3)
  (zAJ (zAN (zE3 (zD8 S 3 rfl rfl n_all (zAB (w_co (vs':=[5]) (cs':=[]) (lo':=[]) (gs':=[4]) S .leaf 5 rfl (by kernel_rfl) (by kernel_rfl) (zA8 (w_cv S 1 rfl rfl))
   (fun Y2 S2 F2=>have c_are_marks:=F2.c c_are_marks;zBC)
   (fun Y2 S2 F2=>have c_are_marks:=F2.c c_are_marks;(w_cc S2 4 rfl rfl c_are_marks (zAB (w_cv S2 5 rfl rfl) zAD (zAA rfl)) (zAA rfl) rfl)) (fun _=>rfl)) zAD (zAA rfl)) (zAA rfl) rfl) (zF8 (zD8 S 3 rfl rfl n_all (zAB (w_co (vs':=[3,5]) (cs':=[3]) (lo':=[]) (gs':=[5]) S .leaf 5 rfl (by kernel_rfl) (by kernel_rfl) (zA8 (w_cv S 2 rfl rfl))
   (fun Y3 S3 F3=>have c_are_steps:=F3.c c_are_steps;zBC)
   (fun Y3 S3 F3=>have c_are_steps:=F3.c c_are_steps;(w_cc S3 5 rfl rfl c_are_steps (zAB (w_cv S3 5 rfl rfl) (zAB (w_cv S3 3 rfl rfl) zAD (zAA rfl)) (zAA rfl)) (zAA rfl) rfl)) (fun _=>rfl)) zAD (zAA rfl)) (zAA rfl) rfl))))))))
theorem sc_is_world:FnScope zGH ["owners", "marks", "steps"] (zAH zEU):=⟨rfl,rfl,rfl,by decide +kernel,rfl,by decide +kernel,by decide +kernel⟩
theorem cp_is_world:cpB zGH zHI [0,1,2,3] [3] [0,1,2,3] [0,1,2] [0,1,3] (zAH zEU)=true:=by kernel_rfl
theorem nm_is_world:nmB zGH zHI=true:=by kernel_rfl
abbrev zDH:List Str:=["world"]
abbrev zFJ:List Str:=["is_world"]
def zB9:Stmt:=sTm 21
theorem bd_check_world {X:Cx} (S:Cp X zDH zFJ [0] [] [0] [0] [0]) (R:Rm X) (hp:PassesOwn (model X.prog X.w) X.A X.env X.xe) (c_is_world:Cal X "is_world" 3 zDK):PSs X (zAQ zB9) (tS X.K W0 d_check_world):=
 TQ.Q.p (zAJ (zBI (zF9 (zB4 (w_cc S 0 rfl rfl c_is_world (zAB (zAI (w_cv S 0 rfl rfl) zAF (fun _ _=>rfl)) (zAB (zAI (w_cv S 0 rfl rfl) zAF (fun _ _=>rfl)) (zAB (zAI (w_cv S 0 rfl rfl) zAF (fun _ _=>rfl)) zAD (zAA rfl)) (zAA rfl)) (zAA rfl)) (zAA rfl) rfl) (fun _=>rfl))) (zAJ zHA) zA3))
theorem sc_check_world:FnScope zDH ["world"] (zAH zB9):=⟨rfl,rfl,rfl,by decide +kernel,rfl,by decide +kernel,by decide +kernel⟩
theorem cp_check_world:cpB zDH zFJ [0] [] [0] [0] [0] (zAH zB9)=true:=by kernel_rfl
theorem nm_check_world:nmB zDH zFJ=true:=by kernel_rfl
abbrev zCS:List Str:=["player"]
abbrev zEQ:List Str:=["PLAYERS"]
def zBW:Stmt:=sTm 22
theorem bd_check_player {X:Cx} (S:Cp X zCS zEQ [0] [] [0] [0] [0]) (R:Rm X) (hp:PassesOwn (model X.prog X.w) X.A X.env X.xe) (h_PLAYERS:Con X "PLAYERS" zBG):PSs X (zAQ zBW) (tS X.K W0 zEN):=
 TQ.Q.p (zAJ (zBI (w_ct (zH4 R) (w_cv S 0 rfl rfl) (w_ck S 0 rfl rfl h_PLAYERS) (by with_unfolding_all rfl)) (zAJ zHA) zA3))
theorem sc_check_player:FnScope zCS ["player"] (zAH zBW):=⟨rfl,rfl,rfl,by decide +kernel,rfl,by decide +kernel,by decide +kernel⟩
theorem cp_check_player:cpB zCS zEQ [0] [] [0] [0] [0] (zAH zBW)=true:=by kernel_rfl
theorem nm_check_player:nmB zCS zEQ=true:=by kernel_rfl
abbrev zEH:List Str:=["world", "room"]
abbrev zF4:List Str:=["len"]
def zCX:Stmt:=sTm 23
theorem bd_check_room {X:Cx} (S:Cp X zEH zF4 [0,1] [] [0,1] [0,1] [0]) (R:Rm X) (hp:PassesOwn (model X.prog X.w) X.A X.env X.xe) (n_len:X.mg "len"=none):PSs X (zAQ zCX) (tS X.K W0 d_check_room):=
 TQ.Q.p (zAJ (zBI (zF9 (w_ct2 (q_le R) (q_lt R) zAF (w_cv S 1 rfl rfl) (zA9 S 0 rfl rfl n_len (zAB (zAI (w_cv S 0 rfl rfl) zAF (fun _ _=>rfl)) zAD (zAA rfl)) (zAA rfl) rfl) (by with_unfolding_all rfl))) (zAJ zHA) zA3))
theorem sc_check_room:FnScope zEH ["world", "room"] (zAH zCX):=⟨rfl,rfl,rfl,by decide +kernel,rfl,by decide +kernel,by decide +kernel⟩
theorem cp_check_room:cpB zEH zF4 [0,1] [] [0,1] [0,1] [0] (zAH zCX)=true:=by kernel_rfl
theorem nm_check_room:nmB zEH zF4=true:=by kernel_rfl
abbrev zDI:List Str:=["world", "rooms"]
abbrev zFK:List Str:=["len", "are_rooms"]
def zCA:Stmt:=sTm 24
theorem bd_check_rooms {X:Cx} (S:Cp X zDI zFK [0,1] [] [0,1] [0,1] [0,1]) (R:Rm X) (hp:PassesOwn (model X.prog X.w) X.A X.env X.xe) (n_len:X.mg "len"=none) (c_are_rooms:Cal X "are_rooms" 2 zBK):PSs X (zAQ zCA) (tS X.K W0 zE7):=
 TQ.Q.p (zAJ (zBI (zF9 (zB4 (w_cc S 1 rfl rfl c_are_rooms (zAB (w_cv S 1 rfl rfl) (zAB (zA9 S 0 rfl rfl n_len (zAB (zAI (w_cv S 0 rfl rfl) zAF (fun _ _=>rfl)) zAD (zAA rfl)) (zAA rfl) rfl) zAD (zAA rfl)) (zAA rfl)) (zAA rfl) rfl) (fun _=>rfl))) (zAJ zHA) zA3))
theorem sc_check_rooms:FnScope zDI ["world", "rooms"] (zAH zCA):=⟨rfl,rfl,rfl,by decide +kernel,rfl,by decide +kernel,by decide +kernel⟩
theorem cp_check_rooms:cpB zDI zFK [0,1] [] [0,1] [0,1] [0,1] (zAH zCA)=true:=by kernel_rfl
theorem nm_check_rooms:nmB zDI zFK=true:=by kernel_rfl
abbrev zDF:List Str:=["world", "rooms", "room"]
abbrev zFH:List Str:=["len", "range"]
def zB7:Stmt:=sTm 26
theorem bd_other_rooms {X:Cx} (S:Cp X zDF zFH [0,1] [1] [0,1] [0] [0,1]) (R:Rm X) (hp:PassesOwn (model X.prog X.w) X.A X.env X.xe) (n_len:X.mg "len"=none) (n_range:X.mg "range"=none):PSs X (zAQ zB7) (tS X.K W0 zE5):=
 TQ.Q.p (zAJ (zAN (w_co (vs':=[1,2]) (cs':=[1]) (lo':=[]) (gs':=[]) S .leaf 2 rfl (by kernel_rfl) (by kernel_rfl) (w_cr1 S 1 rfl rfl n_range (zAB (zA9 S 0 rfl rfl n_len (zAB (zAI (w_cv S 0 rfl rfl) zAF (fun _ _=>rfl)) zAD (zAA rfl)) (zAA rfl) rfl) zAD (zAA rfl)) (zAR rfl))
   (fun Y1 S1 F1=>have R:=F1.r R;zB5 (w_ct (zH4 R) (w_cv S1 2 rfl rfl) (w_cv S1 1 rfl rfl) (by with_unfolding_all rfl)))
   (fun Y1 S1 F1=>have R:=F1.r R;(w_cv S1 2 rfl rfl)) (fun _=>rfl))))
theorem sc_other_rooms:FnScope zDF ["world", "rooms"] (zAH zB7):=⟨rfl,rfl,rfl,by decide +kernel,rfl,by decide +kernel,by decide +kernel⟩
theorem cp_other_rooms:cpB zDF zFH [0,1] [1] [0,1] [0] [0,1] (zAH zB7)=true:=by kernel_rfl
theorem nm_other_rooms:nmB zDF zFH=true:=by kernel_rfl
abbrev zE9:List Str:=["choices", "room", "met", "here", "place"]
abbrev zGQ:List Str:=[]
def zDQ:Stmt:=sTm 28
theorem bd_way_along {X:Cx} (S:Cp X zE9 zGQ [0,1,2,3,4] [] [0,1,2,3,4] [0,1,2,3,4] []) (R:Rm X) (hp:PassesOwn (model X.prog X.w) X.A X.env X.xe):PSs X (zAQ zDQ) (tS X.K W0 d_way_along):=
 TQ.Q.p (zAG (zAM S true 2 rfl rfl rfl (zA2 .leaf zAD))
  (zAG (zAM S false 3 rfl rfl rfl (w_cv S 1 rfl rfl))
  (zAG (w_cs_while 100 hp (zE1 (zE2 (w_ct (zFR R) (w_cv S 3 rfl rfl) zAX (by with_unfolding_all rfl)) (zDO (w_ct (zH4 R) (w_cv S 3 rfl rfl) (w_cv S 2 rfl rfl) (by with_unfolding_all rfl)))))
  (zAG (zCK S 2 rfl rfl (w_cv S 3 rfl rfl) (zAR rfl) rfl rfl rfl rfl)
  (zAJ (zAM S false 3 rfl rfl rfl (zAI (w_cv S 0 rfl rfl) (w_cv S 3 rfl rfl) (fun _ _=>rfl))))))
  (zAG (zBI (w_ct (q_is R) (w_cv S 3 rfl rfl) zAX (by with_unfolding_all rfl)) (zAJ (zAN zAX)) zA3)
  (zIU 2 (zAG (zAM S false 4 rfl rfl rfl (w_ce_ixN S 2 rfl rfl (w_cv S 3 rfl rfl) rfl (zAR rfl) rfl))
  (zAJ (zAN (zC6 (zAB (w_ce_slTo (w_cv S 2 rfl rfl) (w_cv S 4 rfl rfl)) (zAB (w_ce_slFrom (w_cv S 2 rfl rfl) (w_cv S 4 rfl rfl)) zAD (zAA rfl)) (zAA rfl)))))))))))
theorem sc_way_along:FnScope zE9 ["choices", "room"] (zAH zDQ):=⟨rfl,rfl,rfl,by decide +kernel,rfl,by decide +kernel,by decide +kernel⟩
theorem cp_way_along:cpB zE9 zGQ [0,1,2,3,4] [] [0,1,2,3,4] [0,1,2,3,4] [] (zAH zDQ)=true:=by kernel_rfl
theorem nm_way_along:nmB zE9 zGQ=true:=by kernel_rfl
abbrev zCR:List Str:=["player"]
abbrev zEP:List Str:=[]
def zBV:Stmt:=sTm 30
theorem bd_other_player {X:Cx} (S:Cp X zCR zEP [0] [] [0] [0] []) (R:Rm X) (hp:PassesOwn (model X.prog X.w) X.A X.env X.xe):PSs X (zAQ zBV) (tS X.K W0 zEM):=
 TQ.Q.p (zAJ (zAN (zGA zAF (w_cv S 0 rfl rfl))))
theorem sc_other_player:FnScope zCR ["player"] (zAH zBV):=⟨rfl,rfl,rfl,by decide +kernel,rfl,by decide +kernel,by decide +kernel⟩
theorem cp_other_player:cpB zCR zEP [0] [] [0] [0] [] (zAH zBV)=true:=by kernel_rfl
theorem nm_other_player:nmB zCR zEP=true:=by kernel_rfl
abbrev zEF:List Str:=["world", "player", "plan", "chosen", "room", "there"]
abbrev zF2:List Str:=["len", "enumerate", "all"]
def zCV:Stmt:=sTm 31
theorem bd_is_plan_of {X:Cx} (S:Cp X zEF zF2 [0,1,2,3] [0,1,2] [0,1,2,3] [3] [0,1,2]) (R:Rm X) (hp:PassesOwn (model X.prog X.w) X.A X.env X.xe) (n_len:X.mg "len"=none) (n_enumerate:X.mg "enumerate"=none) (n_all:X.mg "all"=none):PSs X (zAQ zCV) (tS X.K W0 d_is_plan_of):=
 TQ.Q.p (zAG (zBI (w_ct (q_ne R) (zA9 S 0 rfl rfl n_len (zAB (w_cv S 2 rfl rfl) zAD (zAA rfl)) (zAA rfl) rfl) (zA9 S 0 rfl rfl n_len (zAB (zAI (w_cv S 0 rfl rfl) zAF (fun _ _=>rfl)) zAD (zAA rfl)) (zAA rfl) rfl) (by with_unfolding_all rfl)) (zAJ (zAN zBT)) zA3)
  (zAG (w_cs_setCompE (vs':=[4,5]) (cs':=[]) (lo':=[]) (gs':=[]) S false 3 .leaf 4 5 rfl rfl rfl rfl rfl 1 rfl rfl n_enumerate rfl (by kernel_rfl) (by kernel_rfl) (by kernel_rfl) (w_cv S 2 rfl rfl) (zAR rfl)
   (fun Y1 S1 F1=>have R:=F1.r R;zB5 (w_ct (zFR R) (w_cv S1 5 rfl rfl) zAX (by with_unfolding_all rfl)))
   (fun Y1 S1 F1=>have R:=F1.r R;(w_cv S1 4 rfl rfl)) (fun _=>rfl))
  (zAJ (zAN (zD8 S 2 rfl rfl n_all (zAB (w_co (vs':=[0,1,2,4]) (cs':=[0,1,2]) (lo':=[]) (gs':=[]) S .leaf 4 rfl (by kernel_rfl) (by kernel_rfl) (zA8 (w_cv S 3 rfl rfl))
   (fun Y2 S2 F2=>have R:=F2.r R;zBC)
   (fun Y2 S2 F2=>have R:=F2.r R;(zE3 (w_ce (q_eq R) (zAI (zAI (w_cv S2 0 rfl rfl) zAF (fun _ _=>rfl)) (w_cv S2 4 rfl rfl) (fun _ _=>rfl)) (w_cv S2 1 rfl rfl) (by with_unfolding_all rfl)) (zF8 (w_ce (q_in R) (zAI (w_cv S2 2 rfl rfl) (w_cv S2 4 rfl rfl) (fun _ _=>rfl)) (zAI (zAI (w_cv S2 0 rfl rfl) zAF (fun _ _=>rfl)) (w_cv S2 4 rfl rfl) (fun _ _=>rfl)) (by with_unfolding_all rfl))))) (fun _=>rfl)) zAD (zAA rfl)) (zAA rfl) rfl)))))
theorem sc_is_plan_of:FnScope zEF ["world", "player", "plan"] (zAH zCV):=⟨rfl,rfl,rfl,by decide +kernel,rfl,by decide +kernel,by decide +kernel⟩
theorem cp_is_plan_of:cpB zEF zF2 [0,1,2,3] [0,1,2] [0,1,2,3] [3] [0,1,2] (zAH zCV)=true:=by kernel_rfl
theorem nm_is_plan_of:nmB zEF zF2=true:=by kernel_rfl
abbrev zEI:List Str:=["world", "player", "plan"]
abbrev zF5:List Str:=["is_plan_of"]
def zCY:Stmt:=sTm 32
theorem bd_check_plan {X:Cx} (S:Cp X zEI zF5 [0,1,2] [] [0,1,2] [0,1,2] [0]) (R:Rm X) (hp:PassesOwn (model X.prog X.w) X.A X.env X.xe) (c_is_plan_of:Cal X "is_plan_of" 3 zC1):PSs X (zAQ zCY) (tS X.K W0 zF0):=
 TQ.Q.p (zAJ (zBI (zF9 (zB4 (w_cc S 0 rfl rfl c_is_plan_of (zAB (w_cv S 0 rfl rfl) (zAB (w_cv S 1 rfl rfl) (zAB (w_cv S 2 rfl rfl) zAD (zAA rfl)) (zAA rfl)) (zAA rfl)) (zAA rfl) rfl) (fun _=>rfl))) (zAJ zHA) zA3))
theorem sc_check_plan:FnScope zEI ["world", "player", "plan"] (zAH zCY):=⟨rfl,rfl,rfl,by decide +kernel,rfl,by decide +kernel,by decide +kernel⟩
theorem cp_check_plan:cpB zEI zF5 [0,1,2] [] [0,1,2] [0,1,2] [0] (zAH zCY)=true:=by kernel_rfl
theorem nm_check_plan:nmB zEI zF5=true:=by kernel_rfl
abbrev zHW:List Str:=["world", "player", "plan", "steps", "room", "row"]
abbrev zJG:List Str:=["check_world", "check_player", "check_plan", "enumerate", "list"]
def zG1:Stmt:=sTm 33
theorem bd_follow {X:Cx} (S:Cp X zHW zJG [0,1,2,3] [2] [0,1,2,3] [0,1,3] [0,1,2,3,4]) (R:Rm X) (hp:PassesOwn (model X.prog X.w) X.A X.env X.xe) (n_enumerate:X.mg "enumerate"=none) (n_list:X.mg "list"=none) (c_check_world:Cal X "check_world" 1 zAV) (c_check_player:Cal X "check_player" 1 zA7) (c_check_plan:Cal X "check_plan" 3 zBB):PSs X (zAQ zG1) (tS X.K W0 d_follow):=
 TQ.Q.p (zAG (zBM (w_cc S 0 rfl rfl c_check_world (zAB (w_cv S 0 rfl rfl) zAD (zAA rfl)) (zAA rfl) rfl) rfl)
  (zAG (zBM (w_cc S 1 rfl rfl c_check_player (zAB (w_cv S 1 rfl rfl) zAD (zAA rfl)) (zAA rfl) rfl) rfl)
  (zAG (zBM (w_cc S 2 rfl rfl c_check_plan (zAB (w_cv S 0 rfl rfl) (zAB (w_cv S 1 rfl rfl) (zAB (w_cv S 2 rfl rfl) zAD (zAA rfl)) (zAA rfl)) (zAA rfl)) (zAA rfl) rfl) rfl)
  (zAG (w_cs_setCompE (vs':=[2,4,5]) (cs':=[2]) (lo':=[]) (gs':=[4]) S false 3 .leaf 4 5 rfl rfl rfl rfl rfl 3 rfl rfl n_enumerate rfl (by kernel_rfl) (by kernel_rfl) (by kernel_rfl) (zAI (w_cv S 0 rfl rfl) zAF (fun _ _=>rfl)) (zAR rfl)
   (fun Y1 S1 F1=>have R:=F1.r R;have n_list:=F1.n n_list;zBC)
   (fun Y1 S1 F1=>have R:=F1.r R;have n_list:=F1.n n_list;(zHZ (w_ct (q_is R) (zAI (w_cv S1 2 rfl rfl) (w_cv S1 4 rfl rfl) (fun _ _=>rfl)) zAX (by with_unfolding_all rfl)) (zGY S1 4 rfl rfl n_list (w_cv S1 5 rfl rfl) (zAR rfl)) (zA2 .leaf (zAB (zAI (w_cv S1 2 rfl rfl) (w_cv S1 4 rfl rfl) (fun _ _=>rfl)) zAD (zAA rfl))))) (fun _=>rfl))
  (zAJ (zAN (zC6 (zAB (zGY S 4 rfl rfl n_list (zAI (w_cv S 0 rfl rfl) zAF (fun _ _=>rfl)) (zAR rfl)) (zAB (w_co (vs':=[5]) (cs':=[]) (lo':=[]) (gs':=[4]) S .leaf 5 rfl (by kernel_rfl) (by kernel_rfl) (zA8 (zAI (w_cv S 0 rfl rfl) zAF (fun _ _=>rfl)))
   (fun Y2 S2 F2=>have n_list:=F2.n n_list;zBC)
   (fun Y2 S2 F2=>have n_list:=F2.n n_list;(zGY S2 4 rfl rfl n_list (w_cv S2 5 rfl rfl) (zAR rfl))) (fun _=>rfl)) (zAB (w_cv S 3 rfl rfl) zAD (zAA rfl)) (zAA rfl)) (zAA rfl)))))))))
theorem sc_follow:FnScope zHW ["world", "player", "plan"] (zAH zG1):=⟨rfl,rfl,rfl,by decide +kernel,rfl,by decide +kernel,by decide +kernel⟩
theorem cp_follow:cpB zHW zJG [0,1,2,3] [2] [0,1,2,3] [0,1,3] [0,1,2,3,4] (zAH zG1)=true:=by kernel_rfl
theorem nm_follow:nmB zHW zJG=true:=by kernel_rfl
abbrev zHU:List Str:=["world", "plan", "counter", "room", "choices", "way", "first", "second"]
abbrev zJE:List Str:=["check_world", "check_room", "check_plan", "zip", "way_along"]
def zGZ:Stmt:=sTm 34
theorem bd_way_by {X:Cx} (S:Cp X zHU zJE [0,1,2,3,4,5] [] [0,1,2,3,4,5] [0,1,2,3,4,5] [0,1,2,3,4]) (R:Rm X) (hp:PassesOwn (model X.prog X.w) X.A X.env X.xe) (n_zip:X.mg "zip"=none) (c_check_world:Cal X "check_world" 1 zAV) (c_check_room:Cal X "check_room" 2 zC2) (c_check_plan:Cal X "check_plan" 3 zBB) (c_way_along:Cal X "way_along" 2 zDX):PSs X (zAQ zGZ) (tS X.K W0 d_way_by):=
 TQ.Q.p (zAG (zBM (w_cc S 0 rfl rfl c_check_world (zAB (w_cv S 0 rfl rfl) zAD (zAA rfl)) (zAA rfl) rfl) rfl)
  (zAG (zBM (w_cc S 1 rfl rfl c_check_room (zAB (w_cv S 0 rfl rfl) (zAB (w_cv S 3 rfl rfl) zAD (zAA rfl)) (zAA rfl)) (zAA rfl) rfl) rfl)
  (zAG (zBM (w_cc S 2 rfl rfl c_check_plan (zAB (w_cv S 0 rfl rfl) (zAB zAF (zAB (w_cv S 1 rfl rfl) zAD (zAA rfl)) (zAA rfl)) (zAA rfl)) (zAA rfl) rfl) rfl)
  (zAG (zBM (w_cc S 2 rfl rfl c_check_plan (zAB (w_cv S 0 rfl rfl) (zAB zAF (zAB (w_cv S 2 rfl rfl) zAD (zAA rfl)) (zAA rfl)) (zAA rfl)) (zAA rfl) rfl) rfl)
  (zAG (w_cs_setCompZ (vs':=[6,7]) (cs':=[]) (lo':=[]) (gs':=[]) S false 4 .leaf 6 7 rfl rfl rfl rfl rfl 3 rfl rfl n_zip rfl (by kernel_rfl) (by kernel_rfl) (by kernel_rfl) (zAB (w_cv S 1 rfl rfl) (zAB (w_cv S 2 rfl rfl) zAD (zAA rfl)) (zAA rfl)) (zAA rfl) rfl
   (fun Y1 S1 F1=>have R:=F1.r R;zBC)
   (fun Y1 S1 F1=>have R:=F1.r R;(zHZ (w_ct (q_is R) (w_cv S1 6 rfl rfl) zAX (by with_unfolding_all rfl)) (w_cv S1 7 rfl rfl) (w_cv S1 6 rfl rfl))) (fun _=>rfl))
  (zAG (zAM S false 5 rfl rfl rfl (w_cc S 4 rfl rfl c_way_along (zAB (w_cv S 4 rfl rfl) (zAB (w_cv S 3 rfl rfl) zAD (zAA rfl)) (zAA rfl)) (zAA rfl) rfl))
  (zAG (zBI (w_ct (q_is R) (w_cv S 5 rfl rfl) zAX (by with_unfolding_all rfl)) (zAJ zHA) zA3)
  (zAJ (zAN (w_cv S 5 rfl rfl))))))))))
theorem sc_way_by:FnScope zHU ["world", "plan", "counter", "room"] (zAH zGZ):=⟨rfl,rfl,rfl,by decide +kernel,rfl,by decide +kernel,by decide +kernel⟩
theorem cp_way_by:cpB zHU zJE [0,1,2,3,4,5] [] [0,1,2,3,4,5] [0,1,2,3,4,5] [0,1,2,3,4] (zAH zGZ)=true:=by kernel_rfl
theorem nm_way_by:nmB zHU zJE=true:=by kernel_rfl
abbrev zG8:List Str:=["world", "player", "will_do", "room", "steps"]
abbrev zIN:List Str:=["enumerate"]
def zFP:Stmt:=sTm 35
theorem bd_plan_of {X:Cx} (S:Cp X zG8 zIN [0,1,2] [0,1] [0,1,2] [2] [0]) (R:Rm X) (hp:PassesOwn (model X.prog X.w) X.A X.env X.xe) (n_enumerate:X.mg "enumerate"=none):PSs X (zAQ zFP) (tS X.K W0 zII):=
 TQ.Q.p (zAJ (zAN (w_coE (vs':=[0,1,3,4]) (cs':=[0,1]) (lo':=[]) (gs':=[]) S .leaf 3 4 0 rfl rfl rfl rfl rfl n_enumerate (by kernel_rfl) (by kernel_rfl) (w_cv S 2 rfl rfl) (zAR rfl)
   (fun Y1 S1 F1=>have R:=F1.r R;zBC)
   (fun Y1 S1 F1=>have R:=F1.r R;(zHZ (zE1 (zE2 (zB4 (w_cv S1 4 rfl rfl) (fun _=>rfl)) (zDO (w_ct (q_eq R) (zAI (zAI (w_cv S1 0 rfl rfl) zAF (fun _ _=>rfl)) (w_cv S1 3 rfl rfl) (fun _ _=>rfl)) (w_cv S1 1 rfl rfl) (by with_unfolding_all rfl))))) (zAI (w_cv S1 4 rfl rfl) zAF (fun _ _=>rfl)) zAX)) (fun _=>rfl))))
theorem sc_plan_of:FnScope zG8 ["world", "player", "will_do"] (zAH zFP):=⟨rfl,rfl,rfl,by decide +kernel,rfl,by decide +kernel,by decide +kernel⟩
theorem cp_plan_of:cpB zG8 zIN [0,1,2] [0,1] [0,1,2] [2] [0] (zAH zFP)=true:=by kernel_rfl
theorem nm_plan_of:nmB zG8 zIN=true:=by kernel_rfl
abbrev zEG:List Str:=["world", "player", "rooms"]
abbrev zF3:List Str:=["check_world", "check_player", "check_rooms"]
def zCW:Stmt:=sTm 37
theorem bd_check_told {X:Cx} (S:Cp X zEG zF3 [0,1,2] [] [0,1,2] [0,1,2] [0,1,2]) (R:Rm X) (hp:PassesOwn (model X.prog X.w) X.A X.env X.xe) (c_check_world:Cal X "check_world" 1 zAV) (c_check_player:Cal X "check_player" 1 zA7) (c_check_rooms:Cal X "check_rooms" 2 zCD):PSs X (zAQ zCW) (tS X.K W0 zFZ):=
 TQ.Q.p (zAG (zBM (w_cc S 0 rfl rfl c_check_world (zAB (w_cv S 0 rfl rfl) zAD (zAA rfl)) (zAA rfl) rfl) rfl)
  (zAG (zBM (w_cc S 1 rfl rfl c_check_player (zAB (w_cv S 1 rfl rfl) zAD (zAA rfl)) (zAA rfl) rfl) rfl)
  (zAJ (zBM (w_cc S 2 rfl rfl c_check_rooms (zAB (w_cv S 0 rfl rfl) (zAB (w_cv S 2 rfl rfl) zAD (zAA rfl)) (zAA rfl)) (zAA rfl) rfl) rfl))))
theorem sc_check_told:FnScope zEG ["world", "player", "rooms"] (zAH zCW):=⟨rfl,rfl,rfl,by decide +kernel,rfl,by decide +kernel,by decide +kernel⟩
theorem cp_check_told:cpB zEG zF3 [0,1,2] [] [0,1,2] [0,1,2] [0,1,2] (zAH zCW)=true:=by kernel_rfl
theorem nm_check_told:nmB zEG zF3=true:=by kernel_rfl
abbrev zG9:List Str:=["world", "player", "rooms", "size", "ranks", "owner", "room"]
abbrev zIO:List Str:=["len", "list", "range", "ranks_to", "lower_steps", "plan_of"]
def zFQ:Stmt:=sTm 38
theorem bd_brought {X:Cx} (S:Cp X zG9 zIO [0,1,2,3,4] [0,1,4] [0,1,2,3,4] [2,3] [0,1,2,3,5]) (R:Rm X) (hp:PassesOwn (model X.prog X.w) X.A X.env X.xe) (n_len:X.mg "len"=none) (n_list:X.mg "list"=none) (n_range:X.mg "range"=none) (c_ranks_to:Cal X "ranks_to" 4 zEX) (c_plan_of:Cal X "plan_of" 3 zC0) (c_lower_steps:Cal X "lower_steps" 3 zBS):PSs X (zAQ zFQ) (tS X.K W0 d_brought):=
 TQ.Q.p (zAG (zAM S false 3 rfl rfl rfl (zA9 S 0 rfl rfl n_len (zAB (zAI (w_cv S 0 rfl rfl) zAF (fun _ _=>rfl)) zAD (zAA rfl)) (zAA rfl) rfl))
  (zAG (zAM S false 4 rfl rfl rfl (w_cc S 3 rfl rfl c_ranks_to (zAB (w_cv S 0 rfl rfl) (zAB (w_co (vs':=[1,5]) (cs':=[1]) (lo':=[]) (gs':=[]) S .leaf 5 rfl (by kernel_rfl) (by kernel_rfl) (zA8 (zAI (w_cv S 0 rfl rfl) zAF (fun _ _=>rfl)))
   (fun Y1 S1 F1=>have R:=F1.r R;zBC)
   (fun Y1 S1 F1=>have R:=F1.r R;(w_ce (q_eq R) (w_cv S1 5 rfl rfl) (w_cv S1 1 rfl rfl) (by with_unfolding_all rfl))) (fun _=>rfl)) (zAB (w_cb_listRange S 1 2 rfl rfl n_list rfl rfl n_range (zAB (w_cv S 3 rfl rfl) zAD (zAA rfl)) (zAR rfl) (zAR rfl)) (zAB (w_cv S 2 rfl rfl) zAD (zAA rfl)) (zAA rfl)) (zAA rfl)) (zAA rfl)) (zAA rfl) rfl))
  (zAJ (zAN (zC6 (zAB (w_cv S 4 rfl rfl) (zAB (w_cc S 5 rfl rfl c_plan_of (zAB (w_cv S 0 rfl rfl) (zAB (w_cv S 1 rfl rfl) (zAB (w_co (vs':=[0,4,6]) (cs':=[0,4]) (lo':=[]) (gs':=[4]) S .leaf 6 rfl (by kernel_rfl) (by kernel_rfl) (w_cr1 S 2 rfl rfl n_range (zAB (w_cv S 3 rfl rfl) zAD (zAA rfl)) (zAR rfl))
   (fun Y2 S2 F2=>have c_lower_steps:=F2.c c_lower_steps;zBC)
   (fun Y2 S2 F2=>have c_lower_steps:=F2.c c_lower_steps;(w_cc S2 4 rfl rfl c_lower_steps (zAB (w_cv S2 0 rfl rfl) (zAB (w_cv S2 4 rfl rfl) (zAB (w_cv S2 6 rfl rfl) zAD (zAA rfl)) (zAA rfl)) (zAA rfl)) (zAA rfl) rfl)) (fun _=>rfl)) zAD (zAA rfl)) (zAA rfl)) (zAA rfl)) (zAA rfl) rfl) zAD (zAA rfl)) (zAA rfl)))))))
theorem sc_brought:FnScope zG9 ["world", "player", "rooms"] (zAH zFQ):=⟨rfl,rfl,rfl,by decide +kernel,rfl,by decide +kernel,by decide +kernel⟩
theorem cp_brought:cpB zG9 zIO [0,1,2,3,4] [0,1,4] [0,1,2,3,4] [2,3] [0,1,2,3,5] (zAH zFQ)=true:=by kernel_rfl
theorem nm_brought:nmB zG9 zIO=true:=by kernel_rfl
abbrev zJD:List Str:=["world", "player", "rooms"]
abbrev zJ8:List Str:=["check_told", "brought"]
def zH1:Stmt:=sTm 39
theorem bd_bring {X:Cx} (S:Cp X zJD zJ8 [0,1,2] [] [0,1,2] [0,1,2] [0,1]) (R:Rm X) (hp:PassesOwn (model X.prog X.w) X.A X.env X.xe) (c_check_told:Cal X "check_told" 3 zBH) (c_brought:Cal X "brought" 3 zC3):PSs X (zAQ zH1) (tS X.K W0 zJ4):=
 TQ.Q.p (zAG (zBM (w_cc S 0 rfl rfl c_check_told (zAB (w_cv S 0 rfl rfl) (zAB (w_cv S 1 rfl rfl) (zAB (w_cv S 2 rfl rfl) zAD (zAA rfl)) (zAA rfl)) (zAA rfl)) (zAA rfl) rfl) rfl)
  (zAJ (zAN (w_cc S 1 rfl rfl c_brought (zAB (w_cv S 0 rfl rfl) (zAB (w_cv S 1 rfl rfl) (zAB (w_cv S 2 rfl rfl) zAD (zAA rfl)) (zAA rfl)) (zAA rfl)) (zAA rfl) rfl))))
theorem sc_bring:FnScope zJD ["world", "player", "rooms"] (zAH zH1):=⟨rfl,rfl,rfl,by decide +kernel,rfl,by decide +kernel,by decide +kernel⟩
theorem cp_bring:cpB zJD zJ8 [0,1,2] [] [0,1,2] [0,1,2] [0,1] (zAH zH1)=true:=by kernel_rfl
theorem nm_bring:nmB zJD zJ8=true:=by kernel_rfl
abbrev zCH:List Str:=["ranks", "room", "rank"]
abbrev zD6:List Str:=["enumerate"]
def zBP:Stmt:=sTm 41
theorem bd_rooms_without {X:Cx} (S:Cp X zCH zD6 [0] [] [0] [0] [0]) (R:Rm X) (hp:PassesOwn (model X.prog X.w) X.A X.env X.xe) (n_enumerate:X.mg "enumerate"=none):PSs X (zAQ zBP) (tS X.K W0 zD2):=
 TQ.Q.p (zAJ (zAN (w_coE (vs':=[1,2]) (cs':=[]) (lo':=[]) (gs':=[]) S .leaf 1 2 0 rfl rfl rfl rfl rfl n_enumerate (by kernel_rfl) (by kernel_rfl) (w_cv S 0 rfl rfl) (zAR rfl)
   (fun Y1 S1 F1=>have R:=F1.r R;zB5 (w_ct (q_is R) (w_cv S1 2 rfl rfl) zAX (by with_unfolding_all rfl)))
   (fun Y1 S1 F1=>have R:=F1.r R;(w_cv S1 1 rfl rfl)) (fun _=>rfl))))
theorem sc_rooms_without:FnScope zCH ["ranks"] (zAH zBP):=⟨rfl,rfl,rfl,by decide +kernel,rfl,by decide +kernel,by decide +kernel⟩
theorem cp_rooms_without:cpB zCH zD6 [0] [] [0] [0] [0] (zAH zBP)=true:=by kernel_rfl
theorem nm_rooms_without:nmB zCH zD6=true:=by kernel_rfl
abbrev zCQ:List Str:=["world", "rooms", "room", "there"]
abbrev zEO:List Str:=[]
def zBU:Stmt:=sTm 42
theorem bd_steps_within {X:Cx} (S:Cp X zCQ zEO [0,1,2] [1,2] [0,1,2] [0] []) (R:Rm X) (hp:PassesOwn (model X.prog X.w) X.A X.env X.xe):PSs X (zAQ zBU) (tS X.K W0 zEL):=
 TQ.Q.p (zAJ (zAN (w_co (vs':=[1,2,3]) (cs':=[1,2]) (lo':=[]) (gs':=[]) S .leaf 3 rfl (by kernel_rfl) (by kernel_rfl) (zA8 (zAI (zAI (w_cv S 0 rfl rfl) zAF (fun _ _=>rfl)) (w_cv S 2 rfl rfl) (fun _ _=>rfl)))
   (fun Y1 S1 F1=>have R:=F1.r R;zB5 (zE1 (zE2 (w_ct (q_in R) (w_cv S1 2 rfl rfl) (w_cv S1 1 rfl rfl) (by with_unfolding_all rfl)) (zDO (w_ct (q_in R) (w_cv S1 3 rfl rfl) (w_cv S1 1 rfl rfl) (by with_unfolding_all rfl))))))
   (fun Y1 S1 F1=>have R:=F1.r R;(w_cv S1 3 rfl rfl)) (fun _=>rfl))))
theorem sc_steps_within:FnScope zCQ ["world", "rooms", "room"] (zAH zBU):=⟨rfl,rfl,rfl,by decide +kernel,rfl,by decide +kernel,by decide +kernel⟩
theorem cp_steps_within:cpB zCQ zEO [0,1,2] [1,2] [0,1,2] [0] [] (zAH zBU)=true:=by kernel_rfl
theorem nm_steps_within:nmB zCQ zEO=true:=by kernel_rfl
abbrev zKK:List Str:=["world", "player", "rooms", "both", "kept", "plan", "room"]
abbrev zKS:List Str:=["check_told", "other_player", "other_rooms", "brought", "rooms_without", "len", "range", "steps_within", "plan_of"]
def zJJ:Stmt:=sTm 43
theorem bd_keep {X:Cx} (S:Cp X zKK zKS [0,1,2,3,4,5] [0,4] [0,1,2,3,4,5] [1,2,3,5] [0,1,2,3,4,5,6,8]) (R:Rm X) (hp:PassesOwn (model X.prog X.w) X.A X.env X.xe) (n_len:X.mg "len"=none) (n_range:X.mg "range"=none) (c_check_told:Cal X "check_told" 3 zBH) (c_brought:Cal X "brought" 3 zC3) (c_other_player:Cal X "other_player" 1 zBZ) (c_other_rooms:Cal X "other_rooms" 2 zCC) (c_rooms_without:Cal X "rooms_without" 1 zBQ) (c_plan_of:Cal X "plan_of" 3 zC0) (c_steps_within:Cal X "steps_within" 3 zBN):PSs X (zAQ zJJ) (tS X.K W0 d_keep):=
 TQ.Q.p (zAG (zBM (w_cc S 0 rfl rfl c_check_told (zAB (w_cv S 0 rfl rfl) (zAB (w_cv S 1 rfl rfl) (zAB (w_cv S 2 rfl rfl) zAD (zAA rfl)) (zAA rfl)) (zAA rfl)) (zAA rfl) rfl) rfl)
  (zAG (zAM S false 3 rfl rfl rfl (w_cc S 3 rfl rfl c_brought (zAB (w_cv S 0 rfl rfl) (zAB (w_cc S 1 rfl rfl c_other_player (zAB (w_cv S 1 rfl rfl) zAD (zAA rfl)) (zAA rfl) rfl) (zAB (w_cc S 2 rfl rfl c_other_rooms (zAB (w_cv S 0 rfl rfl) (zAB (w_cv S 2 rfl rfl) zAD (zAA rfl)) (zAA rfl)) (zAA rfl) rfl) zAD (zAA rfl)) (zAA rfl)) (zAA rfl)) (zAA rfl) rfl))
  (zAG (zAM S false 4 rfl rfl rfl (w_cc S 4 rfl rfl c_rooms_without (zAB (zAI (w_cv S 3 rfl rfl) zAF (fun _ _=>rfl)) zAD (zAA rfl)) (zAA rfl) rfl))
  (zAG (zAM S false 5 rfl rfl rfl (w_cc S 8 rfl rfl c_plan_of (zAB (w_cv S 0 rfl rfl) (zAB (w_cv S 1 rfl rfl) (zAB (w_co (vs':=[0,4,6]) (cs':=[0,4]) (lo':=[]) (gs':=[7]) S .leaf 6 rfl (by kernel_rfl) (by kernel_rfl) (w_cr1 S 6 rfl rfl n_range (zAB (zA9 S 5 rfl rfl n_len (zAB (zAI (w_cv S 0 rfl rfl) zAF (fun _ _=>rfl)) zAD (zAA rfl)) (zAA rfl) rfl) zAD (zAA rfl)) (zAR rfl))
   (fun Y1 S1 F1=>have c_steps_within:=F1.c c_steps_within;zBC)
   (fun Y1 S1 F1=>have c_steps_within:=F1.c c_steps_within;(w_cc S1 7 rfl rfl c_steps_within (zAB (w_cv S1 0 rfl rfl) (zAB (w_cv S1 4 rfl rfl) (zAB (w_cv S1 6 rfl rfl) zAD (zAA rfl)) (zAA rfl)) (zAA rfl)) (zAA rfl) rfl)) (fun _=>rfl)) zAD (zAA rfl)) (zAA rfl)) (zAA rfl)) (zAA rfl) rfl))
  (zAJ (zAN (zC6 (zAB (w_cv S 4 rfl rfl) (zAB (w_cv S 5 rfl rfl) (zAB (zAI (w_cv S 3 rfl rfl) zAF (fun _ _=>rfl)) (zAB (zAI (w_cv S 3 rfl rfl) zAF (fun _ _=>rfl)) zAD (zAA rfl)) (zAA rfl)) (zAA rfl)) (zAA rfl)))))))))
theorem sc_keep:FnScope zKK ["world", "player", "rooms"] (zAH zJJ):=⟨rfl,rfl,rfl,by decide +kernel,rfl,by decide +kernel,by decide +kernel⟩
theorem cp_keep:cpB zKK zKS [0,1,2,3,4,5] [0,4] [0,1,2,3,4,5] [1,2,3,5] [0,1,2,3,4,5,6,8] (zAH zJJ)=true:=by kernel_rfl
theorem nm_keep:nmB zKK zKS=true:=by kernel_rfl
abbrev zCU:List Str:=["script", "k"]
abbrev zES:List Str:=["len"]
def zBY:Stmt:=sTm 45
theorem bd__law_cell_at {X:Cx} (S:Cp X zCU zES [0,1] [] [0,1] [0,1] [0]) (R:Rm X) (hp:PassesOwn (model X.prog X.w) X.A X.env X.xe) (n_len:X.mg "len"=none):PSs X (zAQ zBY) (tS X.K W0 d__law_cell_at):=
 TQ.Q.p (zAG (zBI (w_ct (q_lt R) (w_cv S 1 rfl rfl) (zA9 S 0 rfl rfl n_len (zAB (w_cv S 0 rfl rfl) zAD (zAA rfl)) (zAA rfl) rfl) (by with_unfolding_all rfl)) (zAJ (zAN (zAI (w_cv S 0 rfl rfl) (w_cv S 1 rfl rfl) (fun _ _=>rfl)))) zA3)
  (zAJ (zAN zAF)))
theorem sc__law_cell_at:FnScope zCU ["script", "k"] (zAH zBY):=⟨rfl,rfl,rfl,by decide +kernel,rfl,by decide +kernel,by decide +kernel⟩
theorem cp__law_cell_at:cpB zCU zES [0,1] [] [0,1] [0,1] [0] (zAH zBY)=true:=by kernel_rfl
theorem nm__law_cell_at:nmB zCU zES=true:=by kernel_rfl
abbrev zFF:List Str:=["cell", "k", "bound", "stir", "left", "j"]
abbrev zGW:List Str:=["range"]
def zDW:Stmt:=sTm 46
theorem bd__law_draw {X:Cx} (S:Cp X zFF zGW [0,1,2,3,4,5] [] [0,1,2,3,4,5] [0,1,2,3,4,5] [0]) (R:Rm X) (hp:PassesOwn (model X.prog X.w) X.A X.env X.xe) (n_range:X.mg "range"=none):PSs X (zAQ zDW) (tS X.K W0 d__law_draw):=
 TQ.Q.p (zAG (zBI (w_ct (q_ge R) (w_cv S 0 rfl rfl) (w_de_pow zAF zAF) (by with_unfolding_all rfl)) (zAG (zAM S false 4 rfl rfl rfl (w_cv S 0 rfl rfl))
  (zAG (zC7 S 5 rfl rfl hp (w_cr1 S 0 rfl rfl n_range (zAB (w_cv S 1 rfl rfl) zAD (zAA rfl)) (zAR rfl))
  (zAJ (zAM S false 4 rfl rfl rfl (w_de_div (w_cv S 4 rfl rfl) (w_cv S 2 rfl rfl)))) (fun _=>rfl))
  (zAJ (zAN (zD7 (w_cv S 4 rfl rfl) (w_cv S 2 rfl rfl)))))) zA3)
  (zAG (zAM S false 3 rfl rfl rfl (zD7 (zGX (zBE (zBE (zD7 (w_cv S 0 rfl rfl) zAF) (zGX zAF (w_cv S 1 rfl rfl))) zAF) zAF) zAF))
  (zAG (zAM S false 3 rfl rfl rfl (zD7 (zBE (zBE (zGX (w_cv S 3 rfl rfl) (w_cv S 3 rfl rfl)) (zGX zAF (w_cv S 1 rfl rfl))) zAF) zAF))
  (zAJ (zAN (zD7 (w_de_div (zD7 (zGX (w_cv S 3 rfl rfl) zAF) zAF) zAF) (w_cv S 2 rfl rfl)))))))
theorem sc__law_draw:FnScope zFF ["cell", "k", "bound"] (zAH zDW):=⟨rfl,rfl,rfl,by decide +kernel,rfl,by decide +kernel,by decide +kernel⟩
theorem cp__law_draw:cpB zFF zGW [0,1,2,3,4,5] [] [0,1,2,3,4,5] [0,1,2,3,4,5] [0] (zAH zDW)=true:=by kernel_rfl
theorem nm__law_draw:nmB zFF zGW=true:=by kernel_rfl
abbrev zEJ:List Str:=["script", "at", "most", "many", "owners", "marks", "steps", "room", "cell", "row", "there", "mark"]
abbrev zF6:List Str:=["_law_cell_at", "range", "_law_draw", "int"]
def zCZ:Stmt:=sTm 47
theorem bd__law_world {X:Cx} (S:Cp X zEJ zF6 [0,1,2,3,4,5,6,7,8,9] [3,8] [0,1,2,3,4,5,6,7,8,9] [0,1,2,4,5,6,7,9] [0,1,2]) (R:Rm X) (hp:PassesOwn (model X.prog X.w) X.A X.env X.xe) (n_range:X.mg "range"=none) (n_int:X.mg "int"=none) (c__law_cell_at:Cal X "_law_cell_at" 2 zAO) (c__law_draw:Cal X "_law_draw" 3 zAK):PSs X (zAQ zCZ) (tS X.K W0 d__law_world):=
 TQ.Q.p (zAG (zAM S false 3 rfl rfl rfl (zBE zAF (zD7 (w_cc S 0 rfl rfl c__law_cell_at (zAB (w_cv S 0 rfl rfl) (zAB (w_cv S 1 rfl rfl) zAD (zAA rfl)) (zAA rfl)) (zAA rfl) rfl) (w_cv S 2 rfl rfl))))
  (zAG (zAM S true 4 rfl rfl rfl (zA2 .leaf zAD))
  (zAG (zAM S true 5 rfl rfl rfl (zA2 .leaf zAD))
  (zAG (zAM S true 6 rfl rfl rfl (zA2 .leaf zAD))
  (zAG (zC7 S 7 rfl rfl hp (w_cr1 S 1 rfl rfl n_range (zAB (w_cv S 3 rfl rfl) zAD (zAA rfl)) (zAR rfl))
  (zAG (zAM S false 8 rfl rfl rfl (w_cc S 0 rfl rfl c__law_cell_at (zAB (w_cv S 0 rfl rfl) (zAB (zBE (zBE (w_cv S 1 rfl rfl) zAF) (w_cv S 7 rfl rfl)) zAD (zAA rfl)) (zAA rfl)) (zAA rfl) rfl))
  (zAG (zCK S 4 rfl rfl (w_cc S 2 rfl rfl c__law_draw (zAB (w_cv S 8 rfl rfl) (zAB zAF (zAB zAF zAD (zAA rfl)) (zAA rfl)) (zAA rfl)) (zAA rfl) rfl) (zAR rfl) rfl rfl rfl rfl)
  (zAG (zCK S 5 rfl rfl (w_co (vs':=[8,11]) (cs':=[8]) (lo':=[]) (gs':=[2]) S .leaf 11 rfl (by kernel_rfl) (by kernel_rfl) (w_di_text (by kernel_rfl))
   (fun Y1 S1 F1=>have R:=F1.r R;have c__law_draw:=F1.c c__law_draw;zB5 (w_ct (q_eq R) (w_cc S1 2 rfl rfl c__law_draw (zAB (w_cv S1 8 rfl rfl) (zAB (zBE zAF (w_ce_idxS (w_cv S1 11 rfl rfl) (zAR rfl) rfl)) (zAB zAF zAD (zAA rfl)) (zAA rfl)) (zAA rfl)) (zAA rfl) rfl) zAF (by with_unfolding_all rfl)))
   (fun Y1 S1 F1=>have R:=F1.r R;have c__law_draw:=F1.c c__law_draw;(w_cv S1 11 rfl rfl)) (fun _=>rfl)) (zAR rfl) rfl rfl rfl rfl)
  (zAG (zFO (vs':=[3,8,10]) (cs':=[3,8]) (lo':=[]) (gs':=[2,3]) S false 9 .leaf 10 rfl rfl rfl rfl (by kernel_rfl) (by kernel_rfl) (by kernel_rfl) (w_cr1 S 1 rfl rfl n_range (zAB (w_cv S 3 rfl rfl) zAD (zAA rfl)) (zAR rfl))
   (fun Y2 S2 F2=>have R:=F2.r R;have n_int:=F2.n n_int;have c__law_draw:=F2.c c__law_draw;zB5 (w_ct (q_eq R) (w_cc S2 2 rfl rfl c__law_draw (zAB (w_cv S2 8 rfl rfl) (zAB (zBE zAF (w_cv S2 10 rfl rfl)) (zAB (zBE zAF (w_cb_int S2 3 rfl rfl n_int (zAB (w_ce (q_gt R) (w_cv S2 3 rfl rfl) zAF (by with_unfolding_all rfl)) zAD (zAA rfl)) (zAA rfl) rfl)) zAD (zAA rfl)) (zAA rfl)) (zAA rfl)) (zAA rfl) rfl) zAF (by with_unfolding_all rfl)))
   (fun Y2 S2 F2=>have R:=F2.r R;have n_int:=F2.n n_int;have c__law_draw:=F2.c c__law_draw;(w_cv S2 10 rfl rfl)) (fun _=>rfl))
  (zAG (zBI (w_ct (q_eq R) (w_cv S 9 rfl rfl) (zA2 .leaf zAD) (by with_unfolding_all rfl)) (zAJ (zAM S false 9 rfl rfl rfl (zA2 .leaf (zAB (w_cc S 2 rfl rfl c__law_draw (zAB (w_cv S 8 rfl rfl) (zAB (zBE zAF (w_cv S 3 rfl rfl)) (zAB (w_cv S 3 rfl rfl) zAD (zAA rfl)) (zAA rfl)) (zAA rfl)) (zAA rfl) rfl) zAD (zAA rfl))))) zA3)
  (zAJ (zCK S 6 rfl rfl (w_cv S 9 rfl rfl) (zAR rfl) rfl rfl rfl rfl))))))) (fun _=>rfl))
  (zAJ (zAN (zC6 (zAB (w_cm S 4 rfl rfl) (zAB (w_cm S 5 rfl rfl) (zAB (w_cm S 6 rfl rfl) zAD (zAA rfl)) (zAA rfl)) (zAA rfl))))))))))
theorem sc__law_world:FnScope zEJ ["script", "at", "most"] (zAH zCZ):=⟨rfl,rfl,rfl,by decide +kernel,rfl,by decide +kernel,by decide +kernel⟩
theorem cp__law_world:cpB zEJ zF6 [0,1,2,3,4,5,6,7,8,9] [3,8] [0,1,2,3,4,5,6,7,8,9] [0,1,2,4,5,6,7,9] [0,1,2] (zAH zCZ)=true:=by kernel_rfl
theorem nm__law_world:nmB zEJ zF6=true:=by kernel_rfl
abbrev zGJ:List Str:=["cell", "many", "room"]
abbrev zHK:List Str:=["range", "_law_draw"]
def zEW:Stmt:=sTm 48
theorem bd__law_few {X:Cx} (S:Cp X zGJ zHK [0,1] [0] [0,1] [1] [0]) (R:Rm X) (hp:PassesOwn (model X.prog X.w) X.A X.env X.xe) (n_range:X.mg "range"=none) (c__law_draw:Cal X "_law_draw" 3 zAK):PSs X (zAQ zEW) (tS X.K W0 d__law_few):=
 TQ.Q.p (zAJ (zAN (w_co (vs':=[0,2]) (cs':=[0]) (lo':=[]) (gs':=[1]) S .leaf 2 rfl (by kernel_rfl) (by kernel_rfl) (w_cr1 S 0 rfl rfl n_range (zAB (w_cv S 1 rfl rfl) zAD (zAA rfl)) (zAR rfl))
   (fun Y1 S1 F1=>have R:=F1.r R;have c__law_draw:=F1.c c__law_draw;zB5 (w_ct (q_eq R) (w_cc S1 1 rfl rfl c__law_draw (zAB (w_cv S1 0 rfl rfl) (zAB (w_cv S1 2 rfl rfl) (zAB zAF zAD (zAA rfl)) (zAA rfl)) (zAA rfl)) (zAA rfl) rfl) zAF (by with_unfolding_all rfl)))
   (fun Y1 S1 F1=>have R:=F1.r R;have c__law_draw:=F1.c c__law_draw;(w_cv S1 2 rfl rfl)) (fun _=>rfl))))
theorem sc__law_few:FnScope zGJ ["cell", "many"] (zAH zEW):=⟨rfl,rfl,rfl,by decide +kernel,rfl,by decide +kernel,by decide +kernel⟩
theorem cp__law_few:cpB zGJ zHK [0,1] [0] [0,1] [1] [0] (zAH zEW)=true:=by kernel_rfl
theorem nm__law_few:nmB zGJ zHK=true:=by kernel_rfl
abbrev zFE:List Str:=["world", "player", "cell", "some", "found", "room", "steps", "step"]
abbrev zGV:List Str:=["len", "range", "_law_draw"]
def zDV:Stmt:=sTm 49
theorem bd__law_plan {X:Cx} (S:Cp X zFE zGV [0,1,2,3,4,5,6,7] [] [0,1,2,3,4,5,6,7] [0,1,2,3,4,5,6,7] [0,1,2]) (R:Rm X) (hp:PassesOwn (model X.prog X.w) X.A X.env X.xe) (n_len:X.mg "len"=none) (n_range:X.mg "range"=none) (c__law_draw:Cal X "_law_draw" 3 zAK):PSs X (zAQ zDV) (tS X.K W0 d__law_plan):=
 TQ.Q.p (zAG (zAM S true 4 rfl rfl rfl (zA2 .leaf zAD))
  (zAG (zC7 S 5 rfl rfl hp (w_cr1 S 1 rfl rfl n_range (zAB (zA9 S 0 rfl rfl n_len (zAB (zAI (w_cv S 0 rfl rfl) zAF (fun _ _=>rfl)) zAD (zAA rfl)) (zAA rfl) rfl) zAD (zAA rfl)) (zAR rfl))
  (zAG (zAM S false 6 rfl rfl rfl (zAI (zAI (w_cv S 0 rfl rfl) zAF (fun _ _=>rfl)) (w_cv S 5 rfl rfl) (fun _ _=>rfl)))
  (zAG (zAM S false 7 rfl rfl rfl (zAI (w_cv S 6 rfl rfl) (zD7 (w_cc S 2 rfl rfl c__law_draw (zAB (w_cv S 2 rfl rfl) (zAB (w_cv S 5 rfl rfl) (zAB zAF zAD (zAA rfl)) (zAA rfl)) (zAA rfl)) (zAA rfl) rfl) (zA9 S 0 rfl rfl n_len (zAB (w_cv S 6 rfl rfl) zAD (zAA rfl)) (zAA rfl) rfl)) (fun _ _=>rfl)))
  (zAG (zBI (zE1 (zIT (w_ct (q_ne R) (zAI (zAI (w_cv S 0 rfl rfl) zAF (fun _ _=>rfl)) (w_cv S 5 rfl rfl) (fun _ _=>rfl)) (w_cv S 1 rfl rfl) (by with_unfolding_all rfl)) (w_dw_or1 (zE1 (zE2 (zB4 (w_cv S 3 rfl rfl) (fun _=>rfl)) (zDO (w_ct (q_eq R) (w_cc S 2 rfl rfl c__law_draw (zAB (w_cv S 2 rfl rfl) (zAB (zBE zAF (w_cv S 5 rfl rfl)) (zAB zAF zAD (zAA rfl)) (zAA rfl)) (zAA rfl)) (zAA rfl) rfl) zAF (by with_unfolding_all rfl)))))))) (zAJ (zAM S false 7 rfl rfl rfl zAX)) zA3)
  (zAJ (zCK S 4 rfl rfl (w_cv S 7 rfl rfl) (zAR rfl) rfl rfl rfl rfl))))) (fun _=>rfl))
  (zAJ (zAN (w_cm S 4 rfl rfl)))))
theorem sc__law_plan:FnScope zFE ["world", "player", "cell", "some"] (zAH zDV):=⟨rfl,rfl,rfl,by decide +kernel,rfl,by decide +kernel,by decide +kernel⟩
theorem cp__law_plan:cpB zFE zGV [0,1,2,3,4,5,6,7] [] [0,1,2,3,4,5,6,7] [0,1,2,3,4,5,6,7] [0,1,2] (zAH zDV)=true:=by kernel_rfl
theorem nm__law_plan:nmB zFE zGV=true:=by kernel_rfl
abbrev zCT:List Str:=["world", "rooms", "room", "most", "here", "step", "ahead", "one"]
abbrev zER:List Str:=["range", "sorted", "set"]
def zBX:Stmt:=sTm 50
theorem bd__law_longest {X:Cx} (S:Cp X zCT zER [0,1,2,3,4,5,6,7] [1] [0,1,2,3,4,5,6,7] [0,2,3,4,5,6,7] [0,1,2]) (R:Rm X) (hp:PassesOwn (model X.prog X.w) X.A X.env X.xe) (n_range:X.mg "range"=none) (n_sorted:X.mg "sorted"=none) (n_set:X.mg "set"=none):PSs X (zAQ zBX) (tS X.K W0 d__law_longest):=
 TQ.Q.p (zAG (zAM S false 4 rfl rfl rfl (zA2 .leaf (zAB (w_cv S 2 rfl rfl) zAD (zAA rfl))))
  (zAG (zC7 S 5 rfl rfl hp (w_cr1 S 0 rfl rfl n_range (zAB (zBE (w_cv S 3 rfl rfl) zAF) zAD (zAA rfl)) (zAR rfl))
  (zAG (zFO (vs':=[1,7]) (cs':=[1]) (lo':=[]) (gs':=[]) S false 4 .leaf 7 rfl rfl rfl rfl (by kernel_rfl) (by kernel_rfl) (by kernel_rfl) (zA8 (w_cv S 4 rfl rfl))
   (fun Y1 S1 F1=>have R:=F1.r R;zB5 (w_ct (zH4 R) (w_cv S1 7 rfl rfl) (w_cv S1 1 rfl rfl) (by with_unfolding_all rfl)))
   (fun Y1 S1 F1=>have R:=F1.r R;(w_cv S1 7 rfl rfl)) (fun _=>rfl))
  (zAG (zBI (w_ct (q_eq R) (w_cv S 4 rfl rfl) (zA2 .leaf zAD) (by with_unfolding_all rfl)) (zAJ (zAN zBT)) zA3)
  (zAG (zAM S true 6 rfl rfl rfl (zA2 .leaf zAD))
  (zAG (zC7 S 7 rfl rfl hp (zA8 (w_cv S 4 rfl rfl))
  (zAJ (w_cs_extend S 6 rfl rfl (zAI (zAI (w_cv S 0 rfl rfl) zAF (fun _ _=>rfl)) (w_cv S 7 rfl rfl) (fun _ _=>rfl)) (zAR rfl) rfl rfl rfl rfl)) (fun _=>rfl))
  (zIU 6 (zAJ (zAM S false 4 rfl rfl rfl (w_cb_sortSet S 1 2 rfl rfl n_sorted rfl rfl n_set (zAB (w_cv S 6 rfl rfl) zAD (zAA rfl)) (zAR rfl) (zAR rfl))))))))) (fun _=>rfl))
  (zAJ (zAN zBT))))
theorem sc__law_longest:FnScope zCT ["world", "rooms", "room", "most"] (zAH zBX):=⟨rfl,rfl,rfl,by decide +kernel,rfl,by decide +kernel,by decide +kernel⟩
theorem cp__law_longest:cpB zCT zER [0,1,2,3,4,5,6,7] [1] [0,1,2,3,4,5,6,7] [0,2,3,4,5,6,7] [0,1,2] (zAH zBX)=true:=by kernel_rfl
theorem nm__law_longest:nmB zCT zER=true:=by kernel_rfl
abbrev zDJ:List Str:=["world", "player", "plan", "found", "room"]
abbrev zFL:List Str:=["list", "len", "range"]
def zCB:Stmt:=sTm 51
theorem bd__law_filled {X:Cx} (S:Cp X zDJ zFL [0,1,2,3,4] [] [0,1,2,3,4] [0,1,2,3,4] [0,1,2]) (R:Rm X) (hp:PassesOwn (model X.prog X.w) X.A X.env X.xe) (n_list:X.mg "list"=none) (n_len:X.mg "len"=none) (n_range:X.mg "range"=none):PSs X (zAQ zCB) (tS X.K W0 d__law_filled):=
 TQ.Q.p (zAG (zAM S true 3 rfl rfl rfl (zGY S 0 rfl rfl n_list (w_cv S 2 rfl rfl) (zAR rfl)))
  (zAG (zC7 S 4 rfl rfl hp (w_cr1 S 2 rfl rfl n_range (zAB (zA9 S 1 rfl rfl n_len (zAB (w_cv S 2 rfl rfl) zAD (zAA rfl)) (zAA rfl) rfl) zAD (zAA rfl)) (zAR rfl))
  (zAJ (zBI (zE1 (zE2 (w_ct (q_is R) (zAI (w_cv S 2 rfl rfl) (w_cv S 4 rfl rfl) (fun _ _=>rfl)) zAX (by with_unfolding_all rfl)) (zDO (w_ct (q_eq R) (zAI (zAI (w_cv S 0 rfl rfl) zAF (fun _ _=>rfl)) (w_cv S 4 rfl rfl) (fun _ _=>rfl)) (w_cv S 1 rfl rfl) (by with_unfolding_all rfl))))) (zAJ (w_cs_setI S 3 rfl rfl (zAI (zAI (zAI (w_cv S 0 rfl rfl) zAF (fun _ _=>rfl)) (w_cv S 4 rfl rfl) (fun _ _=>rfl)) zAF (fun _ _=>rfl)) (w_cv S 4 rfl rfl) rfl rfl rfl (fun _=>rfl))) zA3)) (fun _=>rfl))
  (zAJ (zAN (w_cm S 3 rfl rfl)))))
theorem sc__law_filled:FnScope zDJ ["world", "player", "plan"] (zAH zCB):=⟨rfl,rfl,rfl,by decide +kernel,rfl,by decide +kernel,by decide +kernel⟩
theorem cp__law_filled:cpB zDJ zFL [0,1,2,3,4] [] [0,1,2,3,4] [0,1,2,3,4] [0,1,2] (zAH zCB)=true:=by kernel_rfl
theorem nm__law_filled:nmB zDJ zFL=true:=by kernel_rfl
abbrev N_law:List Str:=["script", "world", "many", "player", "rooms", "counter", "hall", "mine", "theirs", "room", "ranks", "plan", "pairs", "one", "other", "two", "way", "there"]
abbrev G_law:List Str:=["_law_world", "len", "_law_cell_at", "_law_draw", "_law_few", "bring", "range", "keep", "follow", "_law_filled", "_law_plan", "_law_longest", "way_by"]
def s_law:Stmt:=sTm 52
theorem bd_law {X:Cx} (S:Cp X N_law G_law [0,1,2,3,4,5,6,7,8,9,10,11,12,13,14,15,16] [4] [0,1,2,3,4,5,6,7,8,9,10,11,12,13,14,15,16] [0,1,2,3,5,6,7,8,9,10,11,12,13,14,15,16] [0,1,2,3,4,5,6,7,8,9,10,11,12]) (R:Rm X) (hp:PassesOwn (model X.prog X.w) X.A X.env X.xe) (n_len:X.mg "len"=none) (n_range:X.mg "range"=none) (c__law_world:Cal X "_law_world" 3 m__law_world) (c__law_draw:Cal X "_law_draw" 3 zAK) (c__law_cell_at:Cal X "_law_cell_at" 2 zAO) (c__law_few:Cal X "_law_few" 2 zGD) (c_bring:Cal X "bring" 3 zI2) (c_keep:Cal X "keep" 3 zKD) (c_follow:Cal X "follow" 3 zHR) (c__law_filled:Cal X "_law_filled" 3 zCE) (c__law_plan:Cal X "_law_plan" 4 zDY) (c__law_longest:Cal X "_law_longest" 4 zBO) (c_way_by:Cal X "way_by" 4 zG5):PSs X (zAQ s_law) (tS X.K W0 d_law):=
 TQ.Q.p (zAG (zAM S false 1 rfl rfl rfl (w_cc S 0 rfl rfl c__law_world (zAB (w_cv S 0 rfl rfl) (zAB zAF (zAB zAF zAD (zAA rfl)) (zAA rfl)) (zAA rfl)) (zAA rfl) rfl))
  (zAG (zAM S false 2 rfl rfl rfl (zA9 S 1 rfl rfl n_len (zAB (zAI (w_cv S 1 rfl rfl) zAF (fun _ _=>rfl)) zAD (zAA rfl)) (zAA rfl) rfl))
  (zAG (zAM S false 3 rfl rfl rfl (w_cc S 3 rfl rfl c__law_draw (zAB (w_cc S 2 rfl rfl c__law_cell_at (zAB (w_cv S 0 rfl rfl) (zAB zAF zAD (zAA rfl)) (zAA rfl)) (zAA rfl) rfl) (zAB zAF (zAB zAF zAD (zAA rfl)) (zAA rfl)) (zAA rfl)) (zAA rfl) rfl))
  (zAG (zAM S false 4 rfl rfl rfl (w_cc S 4 rfl rfl c__law_few (zAB (w_cc S 2 rfl rfl c__law_cell_at (zAB (w_cv S 0 rfl rfl) (zAB zAF zAD (zAA rfl)) (zAA rfl)) (zAA rfl) rfl) (zAB (w_cv S 2 rfl rfl) zAD (zAA rfl)) (zAA rfl)) (zAA rfl) rfl))
  (zAG (w_cs_unp2 S 10 11 rfl rfl rfl rfl (w_cc S 5 rfl rfl c_bring (zAB (w_cv S 1 rfl rfl) (zAB (w_cv S 3 rfl rfl) (zAB (w_cv S 4 rfl rfl) zAD (zAA rfl)) (zAA rfl)) (zAA rfl)) (zAA rfl) rfl) rfl rfl)
  (zAG (zAM S false 5 rfl rfl rfl (zAI (w_cc S 7 rfl rfl c_keep (zAB (w_cv S 1 rfl rfl) (zAB (zGA zAF (w_cv S 3 rfl rfl)) (zAB (w_co (vs':=[4,9]) (cs':=[4]) (lo':=[]) (gs':=[]) S .leaf 9 rfl (by kernel_rfl) (by kernel_rfl) (w_cr1 S 6 rfl rfl n_range (zAB (w_cv S 2 rfl rfl) zAD (zAA rfl)) (zAR rfl))
   (fun Y1 S1 F1=>have R:=F1.r R;zB5 (w_ct (zH4 R) (w_cv S1 9 rfl rfl) (w_cv S1 4 rfl rfl) (by with_unfolding_all rfl)))
   (fun Y1 S1 F1=>have R:=F1.r R;(w_cv S1 9 rfl rfl)) (fun _=>rfl)) zAD (zAA rfl)) (zAA rfl)) (zAA rfl)) (zAA rfl) rfl) zAF (fun _ _=>rfl)))
  (zIU 11 (zAG (zAM S false 6 rfl rfl rfl (w_cc S 8 rfl rfl c_follow (zAB (w_cv S 1 rfl rfl) (zAB (w_cv S 3 rfl rfl) (zAB (w_cv S 11 rfl rfl) zAD (zAA rfl)) (zAA rfl)) (zAA rfl)) (zAA rfl) rfl))
  (zAG (zAM S false 7 rfl rfl rfl (zA2 .leaf (zAB (w_cc S 9 rfl rfl c__law_filled (zAB (w_cv S 1 rfl rfl) (zAB (w_cv S 3 rfl rfl) (zAB (w_cv S 11 rfl rfl) zAD (zAA rfl)) (zAA rfl)) (zAA rfl)) (zAA rfl) rfl) (zAB (w_cc S 10 rfl rfl c__law_plan (zAB (w_cv S 1 rfl rfl) (zAB (w_cv S 3 rfl rfl) (zAB (w_cc S 2 rfl rfl c__law_cell_at (zAB (w_cv S 0 rfl rfl) (zAB zAF zAD (zAA rfl)) (zAA rfl)) (zAA rfl) rfl) (zAB zBT zAD (zAA rfl)) (zAA rfl)) (zAA rfl)) (zAA rfl)) (zAA rfl) rfl) zAD (zAA rfl)) (zAA rfl))))
  (zAG (zAM S false 8 rfl rfl rfl (zA2 .leaf (zAB (w_cc S 9 rfl rfl c__law_filled (zAB (w_cv S 1 rfl rfl) (zAB (zGA zAF (w_cv S 3 rfl rfl)) (zAB (w_cv S 5 rfl rfl) zAD (zAA rfl)) (zAA rfl)) (zAA rfl)) (zAA rfl) rfl) (zAB (w_cc S 10 rfl rfl c__law_plan (zAB (w_cv S 1 rfl rfl) (zAB (zGA zAF (w_cv S 3 rfl rfl)) (zAB (w_cc S 2 rfl rfl c__law_cell_at (zAB (w_cv S 0 rfl rfl) (zAB zAF zAD (zAA rfl)) (zAA rfl)) (zAA rfl) rfl) (zAB zBT zAD (zAA rfl)) (zAA rfl)) (zAA rfl)) (zAA rfl)) (zAA rfl) rfl) zAD (zAA rfl)) (zAA rfl))))
  (zAG (zC7 S 9 rfl rfl hp (w_cr1 S 6 rfl rfl n_range (zAB (w_cv S 2 rfl rfl) zAD (zAA rfl)) (zAR rfl))
  (zAG (zBI (zE1 (zE2 (w_ct (zFR R) (zAI (w_cv S 10 rfl rfl) (w_cv S 9 rfl rfl) (fun _ _=>rfl)) zAX (by with_unfolding_all rfl)) (zDO (zF9 (zB4 (w_cc S 11 rfl rfl c__law_longest (zAB (w_cv S 6 rfl rfl) (zAB (w_cv S 4 rfl rfl) (zAB (w_cv S 9 rfl rfl) (zAB (zAI (w_cv S 10 rfl rfl) (w_cv S 9 rfl rfl) (fun _ _=>rfl)) zAD (zAA rfl)) (zAA rfl)) (zAA rfl)) (zAA rfl)) (zAA rfl) rfl) (fun _=>rfl)))))) (zAJ (zAN zBT)) zA3)
  (zAG (zAM S false 12 rfl rfl rfl (zHZ (w_ct (zFR R) (zAI (w_cv S 10 rfl rfl) (w_cv S 9 rfl rfl) (fun _ _=>rfl)) zAX (by with_unfolding_all rfl)) (zA2 .leaf (zAB (zC6 (zAB zAF (zAB zAF zAD (zAA rfl)) (zAA rfl))) (zAB (zC6 (zAB zAF (zAB zAF zAD (zAA rfl)) (zAA rfl))) zAD (zAA rfl)) (zAA rfl))) (zA2 .leaf (zAB (zC6 (zAB zAF (zAB zAF zAD (zAA rfl)) (zAA rfl))) (zAB (zC6 (zAB zAF (zAB zAF zAD (zAA rfl)) (zAA rfl))) zAD (zAA rfl)) (zAA rfl)))))
  (zAJ (w_cs_forP S 13 14 rfl rfl rfl rfl hp (zA8 (w_cv S 12 rfl rfl))
  (zAG (zAM S false 15 rfl rfl rfl (zA2 .leaf (zAB (zAI (w_cv S 7 rfl rfl) (w_cv S 13 rfl rfl) (fun _ _=>rfl)) (zAB (zAI (w_cv S 8 rfl rfl) (w_cv S 14 rfl rfl) (fun _ _=>rfl)) zAD (zAA rfl)) (zAA rfl))))
  (zAG (zAM S false 16 rfl rfl rfl (w_cc S 12 rfl rfl c_way_by (zAB (w_cv S 1 rfl rfl) (zAB (zAI (w_cv S 15 rfl rfl) (w_cv S 3 rfl rfl) (fun _ _=>rfl)) (zAB (zAI (w_cv S 15 rfl rfl) (zGA zAF (w_cv S 3 rfl rfl)) (fun _ _=>rfl)) (zAB (w_cv S 9 rfl rfl) zAD (zAA rfl)) (zAA rfl)) (zAA rfl)) (zAA rfl)) (zAA rfl) rfl))
  (zAJ (zBI (w_ct (q_ne R) (w_ce (q_gt R) (zA9 S 1 rfl rfl n_len (zAB (w_co (vs':=[4,17]) (cs':=[4]) (lo':=[]) (gs':=[]) S .leaf 17 rfl (by kernel_rfl) (by kernel_rfl) (zA8 (w_ce_cat (zAI (w_cv S 16 rfl rfl) zAF (fun _ _=>rfl)) (zAI (w_cv S 16 rfl rfl) zAF (fun _ _=>rfl))))
   (fun Y2 S2 F2=>have R:=F2.r R;zB5 (w_ct (q_in R) (w_cv S2 17 rfl rfl) (w_cv S2 4 rfl rfl) (by with_unfolding_all rfl)))
   (fun Y2 S2 F2=>have R:=F2.r R;(w_cv S2 17 rfl rfl)) (fun _=>rfl)) zAD (zAA rfl)) (zAA rfl) rfl) zAF (by with_unfolding_all rfl)) (w_ce (zFR R) (zAI (w_cv S 10 rfl rfl) (w_cv S 9 rfl rfl) (fun _ _=>rfl)) zAX (by with_unfolding_all rfl)) (by with_unfolding_all rfl)) (zAJ (zAN zBT)) zA3)))) (fun _=>rfl))))) (fun _=>rfl))
  (zAJ (zAN zBT)))))))))))))
theorem sc_law:FnScope N_law ["script"] (zAH s_law):=⟨rfl,rfl,rfl,by decide +kernel,rfl,by decide +kernel,by decide +kernel⟩
theorem cp_law:cpB N_law G_law [0,1,2,3,4,5,6,7,8,9,10,11,12,13,14,15,16] [4] [0,1,2,3,4,5,6,7,8,9,10,11,12,13,14,15,16] [0,1,2,3,5,6,7,8,9,10,11,12,13,14,15,16] [0,1,2,3,4,5,6,7,8,9,10,11,12] (zAH s_law)=true:=by kernel_rfl
theorem nm_law:nmB N_law G_law=true:=by kernel_rfl
end KQ
namespace KC
open PySem PySem.Spec L2 T PySem.SeqAt
open PyProof.Rows hiding St
theorem ddp_len {n:Nat} {l:List Nat} (h:∀x∈l,x<n):(ddp (l.map fun t:Nat=>(t:Int))).length<=n:=by
 have nd:=zIH (l.map fun t:Nat=>(t:Int))
 have m:∀x∈ddp (l.map fun t:Nat=>(t:Int)),0<=x/\x.toNat<n:=fun x hx=>by
  obtain ⟨t,ht,rfl⟩:=List.mem_map.mp (ddp_mem.mp hx)
  exact ⟨by omega,by simpa using h t ht⟩
 have:=zHL (n:=n) (p:=(ddp (l.map fun t:Nat=>(t:Int))).map Int.toNat) ?_ ?_
 ·rwa [length_map] at this
 ·rw [List.Nodup,pairwise_map]
  exact List.Pairwise.imp_of_mem (fun ha hb hab e=>hab (by have:=m _ ha;have:=m _ hb;omega)) nd
 ·intro x hx
  obtain ⟨t,ht,rfl⟩:=List.mem_map.mp hx
  exact (m t ht).2
theorem sort_set {n:Nat} {l:List Nat} (h:∀x∈l,x<n):PySem.W.sortI (ddp (l.map fun t:Nat=>(t:Int)))=((List.range n).filter fun r=>l.contains r).map fun t:Nat=>(t:Int):=by
 refine (PySem.W.eq_sortI ?_ ?_).symm
 ·refine (List.perm_ext_iff_of_nodup ?_ (zIH _)).mpr fun x=>?_
  ·rw [List.Nodup,pairwise_map]
   exact (List.nodup_range.filter _).imp fun h e=>h (by omega)
  ·rw [ddp_mem,mem_map,mem_map]
   constructor
   ·rintro ⟨t,ht,rfl⟩
    exact ⟨t,by simpa using (List.mem_filter.mp ht).2,rfl⟩
   ·rintro ⟨t,ht,rfl⟩
    exact ⟨t,List.mem_filter.mpr ⟨List.mem_range.mpr (h t ht),by simpa using ht⟩,rfl⟩
 ·rw [pairwise_map]
  exact (List.pairwise_lt_range.filter _).imp fun h=>by omega
theorem v_sortS {Γ:Ev} {fl:FL} {s:Sh} {n:Nat} {l:List Nat} (hl:fl Γ=.ok [⟨s,rms l⟩] Γ) (h:∀x∈l,x<n) (hn:n<64) (h4:l.length<4000):zHM fl Γ=.ok ⟨.lst .leaf,rms ((List.range n).filter fun r=>l.contains r)⟩ Γ:=by
 unfold zHM
 rw [hl]
 have e:T.sortArg ([(⟨s,rms l⟩:PV)].map (·.d))=some (l.map fun t:Nat=>(t:Int)):=by
  show T.intsOf (l.map rm)=_
  rw [zJS,intsOf_map]
 have c:(l.map fun t:Nat=>(t:Int)).length<4000/\(ddp (l.map fun t:Nat=>(t:Int))).length<64:=⟨by rw [length_map];exact h4,Nat.lt_of_le_of_lt (ddp_len h) hn⟩
 show (match T.sortArg ([(⟨s,rms l⟩:PV)].map (·.d)) with | some ns=>if ns.length<4000/\(ddp ns).length<64 then Out.ok (⟨.lst .leaf,.list ((PySem.W.sortI (ddp ns)).map .int)⟩:PV) Γ else .no | none=>.no)=_
 rw [e]
 dsimp only
 rw [if_pos c,sort_set h,<-zJS]
theorem x_extL {Γ:Ev} {i:Nat} {f:F1} {s:Sh} {ds es:List D} (h:Γ[i]?=some (some ⟨.lst .leaf,.list ds⟩)) (hf:f Γ=.ok ⟨s,.list es⟩ Γ) (ho:s.isView=false) (hn:ds.length+es.length<=10000):sExt i f Γ=.nx (Γ.set i (some ⟨.lst .leaf,.list (ds++es)⟩)):=by
 have hb:(10000:Nat)<=sizeLine:=by decide
 unfold sExt zFV
 rw [h]
 simp only [if_true,r_of,hf]
 unfold extK zAP
 rw [h]
 have:ds.length+es.length<=sizeLine:=by omega
 simp only [ho,Bool.not_false,Bool.true_or,decide_eq_true this,Bool.and_self,if_true]
theorem eq_nilB {a:List Nat}:gEq (rms a) (.list [])=some (.bool a.isEmpty):=by
 cases a with
 | nil=>exact eq_rms (a:=[]) (b:=[]) rfl
 | cons x l=>
  show (if shaped (rms (x::l))&&shaped (rms []) then some (PyData.bool (PyData.eqv (.list ((x::l).map rm)) (.list []))) else none)=_
  rw [zJP,zJP,Bool.and_self,if_pos rfl]
  rfl
theorem forGoP_inv {α:Type} (en:α->D×D) {i j:Nat} {body:FS} {Inv:List α->Ev->Prop} (hb:∀a r Γ,Inv (a::r) Γ->(i<Γ.length/\j<Γ.length)/\∃Γ',body ((Γ.set i (some ⟨.leaf,(en a).1⟩)).set j (some ⟨.leaf,(en a).2⟩))=.nx Γ'/\Inv r Γ'):∀(xs:List α) (Γ:Ev),Inv xs Γ->∃Γ',zFX i j body (xs.map fun a=>.tuple [(en a).1,(en a).2]) Γ=.nx Γ'/\Inv [] Γ'
 | [],Γ,h=>⟨Γ,rfl,h⟩
 | a::r,Γ,h=>by
  obtain ⟨hi,Γ1,h1,h2⟩:=hb a r Γ h
  obtain ⟨Γ2,e,h3⟩:=forGoP_inv en hb r Γ1 h2
  refine ⟨Γ2,?_,h3⟩
  rw [map_cons,zFX]
  simp only [pr2]
  rw [if_pos hi,h1]
  exact e
theorem x_forP {Γ Γ1:Ev} {i j:Nat} {fi:T.FI} {body:FS} {ds:List D} {o:OutS} (h:fi Γ=.ok ⟨ds,true⟩ Γ1) (hg:zFX i j body ds Γ1=o):sForP i j fi body Γ=o:=by unfold sForP;rw [h];exact hg
theorem Lasso.closed {n r:Nat} {ch:List (Option Nat)} {F R:List Nat} (L:Lasso n ch r F R) {x t:Nat} (hx:x∈F++R) (e:rkA ch x=some t):t∈F++R:=by
 obtain ⟨a,ea,ha⟩:=take1 L.ne
 have f:=L.fc
 rw [ea] at f
 obtain ⟨t',e',h⟩:=zI8 f x hx
 rw [e] at e'
 cases e'
 rcases h with h | h
 ·exact h
 ·rw [h];exact mem_append_right _ ha
theorem Lasso.has {n r:Nat} {ch:List (Option Nat)} {F R:List Nat} (L:Lasso n ch r F R) {x:Nat} (hx:x∈F++R):∃t,rkA ch x=some t:=by
 obtain ⟨a,ea,ha⟩:=take1 L.ne
 have f:=L.fc
 rw [ea] at f
 obtain ⟨t',e',h⟩:=zI8 f x hx
 exact ⟨t',e'⟩
theorem Lasso.at0 {n r:Nat} {ch:List (Option Nat)} {F R:List Nat} (L:Lasso n ch r F R):r∈F++R:=by
 have:=L.hd
 cases q:F++R with
 | nil=>rw [q] at this;simp at this
 | cons b s=>rw [q] at this;simp at this;simp [this]
theorem Lasso.every {n r:Nat} {ch:List (Option Nat)} {F R:List Nat} (L:Lasso n ch r F R) {Q:Nat->Prop} (hr:Q r) (c:∀x,x<n->∀t,rkA ch x=some t->Q x->Q t):∀x∈F++R,Q x:=by
 obtain ⟨a,ea,ha⟩:=take1 L.ne
 have h:=fch_all (Q:=Q) L.fc (fun x hx t e q=>c x (by
  rcases List.mem_append.mp hx with z | z
  ·exact L.lt x z
  ·exact L.lt x (mem_append_right _ (List.mem_of_mem_take z))) t e q) fun b hb=>by
  have hd:=L.hd
  cases q:F++R with
  | nil=>rw [q] at hd;simp at hd
  | cons u s=>
   rw [q] at hb hd
   simp at hb hd
   rw [<-hb,hd]
   exact hr
 exact fun x hx=>h x (mem_append_left _ hx)
theorem stp_len30 {w:Wd} (ok:w.Ok) {r:Nat} (hr:r<w.n):(w.stp r).length<=30:=by
 have:w.stp r∈w.s:=by
  unfold Wd.stp
  rw [getD_eq_getElem?_getD,getElem?_eq_getElem (by rw [ok.ls];exact hr)]
  exact getElem_mem _
 exact (ok.st _ this).2.1
theorem meets {v:Wd} {T:List Nat} {rk ch:List (Option Nat)} {r:Nat} {F R:List Nat} (h:Right v false (List.range v.n) T rk) (L:Lasso v.n ch r F R) (c:∀x,x<v.n->∀t,rkA ch x=some t->t∈v.stp x) (hr:rkA rk r≠none):∃y∈F++R,y∈T:=by
 have key:∀k x,x∈F++R->rkA rk x=some k->∃y∈F++R,y∈T:=by
  intro k
  induction k using Nat.strongRecOn with
  | ind k ih=>
   intro x hx e
   by_cases hT:x∈T
   ·exact ⟨x,hx,hT⟩
   ·obtain ⟨t,et⟩:=L.has hx
    obtain ⟨j,ej,hj⟩:=led_f.mp (h.p x k (L.lt x hx) hT e).2.2 t (c x (L.lt x hx) t et)
    exact ih j hj t (L.closed hx et) ej
 obtain ⟨k,hk⟩:=Option.ne_none_iff_exists'.mp hr
 exact key k r L.at0 hk
theorem misses {v:Wd} {T:List Nat} {rk ch:List (Option Nat)} {r:Nat} {F R:List Nat} (h:Right v true (List.range v.n) T rk) (L:Lasso v.n ch r F R) (c:∀x,x<v.n->∀t,rkA ch x=some t->t∈v.stp x) (hr:rkA rk r=none):∀y∈F++R,y∉T:=by
 have a:=L.every (Q:=fun x=>rkA rk x=none) hr fun x hx t e q=>by
  have z:=(h.z x hx q).2.resolve_left (fun z=>z (List.mem_range.mpr hx))
  cases et:rkA rk t with
  | none=>rfl
  | some k=>exact absurd (led_t.mpr ⟨t,c x hx t e,by rw [et];simp⟩) z
 exact fun y hy=>(h.z y (L.lt y hy) (a y hy)).1
theorem rightG_none {n:Nat} {st:Nat->List Nat} {ch:Nat->Bool} {goal:List Nat} {rk rk':List (Option Nat)} (cl:∀r t,t∈st r->t<n) (h:RightG n st ch (List.range n) goal rk) (h':RightG n st ch (List.range n) goal rk') {r:Nat} (hr:r<n) (e:rkA rk r=none):rkA rk' r=none:=by
 cases e':rkA rk' r with
 | none=>rfl
 | some k=>exact absurd e (h'.min (S:=fun x=>rkA rk x≠none) cl (fun x hx hg=>by rw [h.g x hx hg];simp) (fun x hx ht hl=>h.step_ok hx ht hl) hr (by rw [e'];simp))
end KC
namespace KQ
open PySem PySem.Spec L2 T PySem.SeqAt KC
open PyProof.Rows hiding St
theorem den_few {c:Int} {n:Nat} (hn:n<=24):∃R,zGD [.int c,.int (n:Int)]=.ok ⟨.lst .leaf,rms R⟩/\Std n R:=by
 refine ⟨(List.range n).filter fun r:Nat=>drw c (r:Int) 3==0,?_,Std.of _⟩
 have e:eComp .leaf 2 (iR1 (eCons (eVar 1) eNil)) (bOf gBool (eOp gEq (eCall 3 zAK (eCons (eVar 0) (eCons (eVar 2) (eCons (eK (.int 3)) eNil)))) (eK (.int 0)))) (eVar 2) (zAL 3 [.int c,.int (n:Int)])=.ok ⟨.lst .leaf,.list (((List.range n).filter fun r:Nat=>drw c (r:Int) 3==0).map fun r=>rm r)⟩ (zAL 3 [.int c,.int (n:Int)]):=by
  refine zDA rm (List.range n) (fun r:Nat=>drw c (r:Int) 3==0) (fun r=>⟨.leaf,rm r⟩) (st:=true) ?_ (by simp [zAL]) rfl (by simp;omega) (fun r hr=>?_) (fun r hr _=>⟨zAC rfl,rfl⟩)
  ·exact R1_of (s:=.leaf) (n:=n) (by omega) (by simp [zAL])
  ·have:=List.mem_range.mp hr
   exact zAY (s:=.leaf) (v_op (zAT (zAE (zAC rfl) (zAE (zAC rfl) (zAE v_k v_nil))) (zFY (c:=c) (k:=(r:Int)) (b:=3) (by omega) (by omega) (by omega) (by omega)) rfl rfl) v_k KC.eq_int)
 exact rt_of (x_ret e rfl)
theorem x_seqR {f g:FS} {Γ:Ev} {p:PV} (h:f Γ=.rt p):sSeq f g Γ=.rt p:=by unfold sSeq;rw [h]
section
variable {v:Wd} {T:List Nat} {rk:List (Option Nat)}
abbrev GL (v:Wd) (T:List Nat) (r:Nat) (k:Nat) (h:List Nat) (x5 x6 x7:Option PV):Ev:=[some ⟨.leaf,v.enc⟩,some ⟨.leaf,rms T⟩,some ⟨.leaf,rm r⟩,some ⟨.leaf,.int (k:Int)⟩,some ⟨.leaf,rms h⟩,x5,x6,x7]
abbrev loExt:FS:=sExt 6 (eIdx (eIdx (eVar 0) (eK (.int 2))) (eVar 7))
abbrev zJM:FS:=(sSeq (sSet false 4 (eComp .leaf 7 (iSeq (eVar 4)) (bOf gBool (eOp (gIn true) (eVar 7) (eVar 1))) (eVar 7)))
  (sSeq (sIf (bOf gBool (eOp gEq (eVar 4) (eList .leaf eNil))) (sRet (eK (.bool true))) sNext)
  (sSeq (sSet true 6 (eList .leaf eNil))
  (sSeq (sFor 7 (iSeq (eVar 4))
  loExt)
  (sFrz 6 (sSet false 4 (zHM (eCons (eVar 6) eNil))))))))
theorem lo_turn (ok:v.Ok) {r k:Nat} {h:List Nat} (hl:∀x∈h,x<v.n) (hn:h.length<=100) {x5 x6 x7:Option PV} :
  ((h.filter fun t=>!T.contains t)=[]/\zJM (GL v T r k h x5 x6 x7)=.rt ⟨.leaf,.bool true⟩) \/
  ((h.filter fun t=>!T.contains t)≠[]/\∃h' y6 y7,zJM (GL v T r k h x5 x6 x7)=.nx (GL v T r k h' x5 y6 y7)/\(∀y∈h',y<v.n/\∃x∈h,x∉T/\y∈v.stp x)/\h'.length<=100):=by
 have h24:=ok.h24
 have c1:eComp .leaf 7 (iSeq (eVar 4)) (bOf gBool (eOp (gIn true) (eVar 7) (eVar 1))) (eVar 7) (GL v T r k h x5 x6 x7)=.ok ⟨.lst .leaf,.list ((h.filter fun t=>!T.contains t).map fun t=>rm t)⟩ (GL v T r k h x5 x6 x7):=
  zDA rm h (fun t=>!T.contains t) (fun t=>⟨.leaf,rm t⟩) (st:=true) (w_seq (s:=.leaf) (zAC rfl) rfl) (by simp) rfl (by omega) (fun t ht=>zAY (s:=.leaf) (v_op (zAC rfl) (zAC (i:=1) rfl) zG4)) (fun t ht _=>⟨zAC rfl,rfl⟩)
 have s1:sSet false 4 (eComp .leaf 7 (iSeq (eVar 4)) (bOf gBool (eOp (gIn true) (eVar 7) (eVar 1))) (eVar 7)) (GL v T r k h x5 x6 x7)=.nx (GL v T r k (h.filter fun t=>!T.contains t) x5 x6 x7):=zA0 c1 rfl (by simp)
 have hf:∀x∈h.filter (fun t=>!T.contains t),x<v.n:=fun x hx=>hl x (List.mem_filter.mp hx).1
 have hfT:∀x∈h.filter (fun t=>!T.contains t),x∈h/\x∉T:=fun x hx=>by simpa using hx
 have hfl:(h.filter (fun t=>!T.contains t)).length<=100:=Nat.le_trans (length_filter_le _ _) hn
 generalize h.filter (fun t=>!T.contains t)=f at s1 hf hfT hfl
 have t:=zAY (s:=.leaf) (v_op (Γ:=GL v T r k f x5 x6 x7) (g:=gEq) (zAC (i:=4) rfl) (zDP (s:=.leaf) v_nil rfl rfl rfl) eq_nilB)
 cases f with
 | nil=>exact .inl ⟨rfl,x_seq s1 (x_seqR (x_if (o:=.rt ⟨.leaf,.bool true⟩) t (fun _=>x_ret v_k rfl) nofun))⟩
 | cons a f=>
  refine .inr ⟨by simp,?_⟩
  obtain ⟨Γ1,e1,_,l,x7',hΓ,hm,hll⟩:=zFW rm (i:=7) (body:=loExt) (Inv:=fun rest Γ=>(∀x∈rest,x∈a::f)/\∃l x7,Γ=GL v T r k (a::f) x5 (some ⟨.lst .leaf,rms l⟩) x7/\(∀y∈l,∃x∈a::f,y∈v.stp x)/\l.length+30*rest.length<=3000)
   (fun b rest Γ ⟨hr,l,x7,e,hm,hll⟩=>by
    subst e
    have hb:=hf b (hr b (by simp))
    have l30:=stp_len30 ok hb
    rw [length_cons] at hll
    have st:=x_extL (i:=6) (ds:=l.map rm) (es:=(v.stp b).map rm) (s:=.leaf) (f:=eIdx (eIdx (eVar 0) (eK (.int 2))) (eVar 7)) (Γ:=GL v T r k (a::f) x5 (some ⟨.lst .leaf,rms l⟩) (some ⟨.leaf,rm b⟩)) rfl (zIW ok rfl (zAC rfl) hb) rfl (by simp;omega)
    refine ⟨by simp,_,st,fun x hx=>hr x (by simp [hx]),l++v.stp b,some ⟨.leaf,rm b⟩,by simp [rms],fun y hy=>?_,by rw [length_append];omega⟩
    rcases List.mem_append.mp hy with z | z
    ·exact hm y z
    ·exact ⟨b,hr b (by simp),z⟩) (a::f) (GL v T r k (a::f) x5 (some ⟨.lst .leaf,rms []⟩) x7) ⟨fun x hx=>hx,[],x7,rfl,fun y hy=>(by cases hy),by simp at hfl ⊢;omega⟩
  subst hΓ
  have hlt:∀x∈l,x<v.n:=fun y hy=>by
   obtain ⟨x,_,z⟩:=hm y hy
   exact ok.stp_lt z
  have so:=v_sortS (fl:=eCons (eVar 6) eNil) (s:=.leaf) (l:=l) (n:=v.n) (Γ:=GL v T r k (a::f) x5 (some ⟨.leaf,rms l⟩) x7') (zAE (zAC rfl) v_nil) hlt (by omega) (by simp at hll;omega)
  refine ⟨_,_,_,x_seq s1 (x_seq (x_if t nofun fun _=>rfl) (x_seq (zHX (zDP (s:=.leaf) v_nil rfl rfl rfl) rfl (by simp)) (x_seq (x_for (w_seq (s:=.leaf) (zAC rfl) rfl) e1) (x_frz (p:=⟨.lst .leaf,rms l⟩) rfl (zA0 so rfl (by simp)))))),fun y hy=>?_,?_⟩
  ·have hy':=(List.mem_filter.mp hy).2
   rw [contains_iff_mem] at hy'
   obtain ⟨x,hx,hs⟩:=hm y hy'
   exact ⟨ok.stp_lt hs,x,(hfT x hx).1,(hfT x hx).2,hs⟩
  ·have:=length_filter_le (fun r=>l.contains r) (List.range v.n)
   rw [length_range] at this
   omega
theorem lo_loop (ok:v.Ok) (h:Right v false (List.range v.n) T rk) {r k:Nat}:∀(rest:List Nat) (hs:List Nat) (x5 x6 x7:Option PV),rest≠[]->hs.length<=100->(∀x∈hs,x<v.n/\∃j,rkA rk x=some j/\j<rest.length)->forGo 5 zJM (rest.map rm) (GL v T r k hs x5 x6 x7)=.rt ⟨.leaf,.bool true⟩
 | [],_,_,_,_,h,_,_=>absurd rfl h
 | b::rest,hs,x5,x6,x7,_,hl,hm=>by
  rw [map_cons,forGo,if_pos (by simp)]
  rcases lo_turn (T:=T) ok (r:=r) (k:=k) (fun x hx=>(hm x hx).1) hl (x5:=some ⟨.leaf,rm b⟩) (x6:=x6) (x7:=x7) with ⟨_,e⟩ | ⟨hne,h',y6,y7,e,hs',hl'⟩
  ·show (match zJM (GL v T r k hs (some ⟨.leaf,rm b⟩) x6 x7) with | .nx Γ'=>_ | .ct Γ'=>_ | .bk Γ'=>_ | .rt p=>_ | .er c Γ'=>_ | .no=>_)=_
   rw [e]
  ·show (match zJM (GL v T r k hs (some ⟨.leaf,rm b⟩) x6 x7) with | .nx Γ'=>_ | .ct Γ'=>_ | .bk Γ'=>_ | .rt p=>_ | .er c Γ'=>_ | .no=>_)=_
   rw [e]
   refine lo_loop ok h rest h' (some ⟨.leaf,rm b⟩) y6 y7 (fun z=>?_) hl' fun y hy=>?_
   ·subst z
    obtain ⟨x,hx⟩:=exists_mem_of_ne_nil _ hne
    have hx':x∈hs/\x∉T:=by simpa using hx
    obtain ⟨hn,j,ej,hj⟩:=hm x hx'.1
    have:=(h.p x j hn hx'.2 ej).1
    simp at hj
    omega
   ·obtain ⟨hn,x,hx,hT,ht⟩:=hs' y hy
    obtain ⟨hxn,j,ej,hj⟩:=hm x hx
    obtain ⟨i,ei,hi⟩:=led_f.mp (h.p x j hxn hT ej).2.2 y ht
    exact ⟨hn,i,ei,by simp at hj;omega⟩
theorem den_longest (ok:v.Ok) (h:Right v false (List.range v.n) T rk) {r k:Nat} (hr:r<v.n) (e:rkA rk r=some k) (hk:k<100):zBO [v.enc,rms T,rm r,.int (k:Int)]=.ok ⟨.leaf,.bool true⟩:=by
 have lp:=lo_loop ok h (r:=r) (k:=k) (List.range (k+1)) [r] none none none (by simp) (by simp) fun x hx=>by
  rw [List.mem_singleton.mp hx]
  exact ⟨hr,k,e,by simp⟩
 refine rt_of (x_seq (zA0 (zDP (s:=.leaf) (zAE (zAC rfl) v_nil) rfl rfl rfl) rfl (by simp [zAL])) ?_)
 exact x_seqR (x_for (R1_of (n:=k+1) (s:=.leaf) (by omega) (zAE (v_op (zAC (i:=3) rfl) v_k (KC.add_int'.trans (by simp))) v_nil)) lp)
end
theorem v_headL {Γ:Ev} {fa fb:F1} {s:Sh} {l:List Nat} {z:Nat} (ha:fa Γ=.ok ⟨.leaf,rms l⟩ Γ) (hb:fb Γ=.ok ⟨s,.int 0⟩ Γ) (h:l.head?=some z):eIdx fa fb Γ=.ok ⟨.leaf,rm z⟩ Γ:=by
 cases l with
 | nil=>cases h
 | cons a l=>cases h;exact zD9 (j:=0) ha hb (zFU (by simp)) rfl rfl
structure Full (w:Wd) (p:Int) (pl:List (Option Nat)):Prop where
 ok:PlanOk w p pl
 f:∀r,r<w.n->own w p r=true->rkA pl r≠none
structure Ext (w:Wd) (pl l:List (Option Nat)):Prop where
 e:∀r,r<w.n->∀t,rkA pl r=some t->rkA l r=some t
abbrev GF (w:Wd) (p:Int) (pl l:List (Option Nat)) (x:Option PV):Ev:=[some ⟨.leaf,w.enc⟩,some ⟨.leaf,.int p⟩,some ⟨.leaf,rks pl⟩,some ⟨.lst .leaf,rks l⟩,x]
abbrev fiBody:FS:=sIf (bAnd (bOf gBool (eOp (gIsN false) (eIdx (eVar 2) (eVar 4)) (eK .none))) (bOf gBool (eOp gEq (eIdx (eIdx (eVar 0) (eK (.int 0))) (eVar 4)) (eVar 1)))) (sSetI 3 (eIdx (eIdx (eIdx (eVar 0) (eK (.int 2))) (eVar 4)) (eK (.int 0))) (eVar 4)) sNext
theorem zKO {pl:List (Option Nat)} {r:Nat} (h:r<pl.length):(pl.map oD)[r]?=some (oD (rkA pl r)):=by
 rw [getElem?_map,getElem?_eq_getElem h,rkA,getD_eq_getElem?_getD,getElem?_eq_getElem h]
 rfl
theorem zKN {l:List (Option Nat)} {a r:Nat} {o:Option Nat} (h:a<l.length):rkA (l.set a o) r=if r=a then o else rkA l r:=by
 unfold rkA
 rw [getD_eq_getElem?_getD,getElem?_set,getD_eq_getElem?_getD]
 by_cases e:a=r
 ·subst e
  simp [h]
 ·rw [if_neg e,if_neg (Ne.symm e)]
theorem den_filled {w:Wd} (ok:w.Ok) {p:Int} {pl:List (Option Nat)} (h:PlanOk w p pl):∃l,zCE [w.enc,.int p,rks pl]=.ok ⟨.lst .leaf,rks l⟩/\Full w p l/\Ext w pl l:=by
 have h24:=ok.h24
 obtain ⟨Γ1,e1,hr0,l,x,rfl,hl,hx,hf⟩:=zFW rm (i:=4) (body:=fiBody) (Inv:=fun rest Γ=>(∀a∈rest,a<w.n)/\∃l x,Γ=GF w p pl l x/\PlanOk w p l/\Ext w pl l/\∀r,r<w.n->r∉rest->own w p r=true->rkA l r≠none)
  (fun a rest Γ ⟨hr,l,x,e,hl,hx,hf⟩=>by
   subst e
   have ha:=hr a (by simp)
   have hr':∀b∈rest,b<w.n:=fun b hb=>hr b (by simp [hb])
   refine ⟨by simp,?_⟩
   obtain ⟨o,eo,ho⟩:=ow_at ok (Γ:=GF w p pl l (some ⟨.leaf,rm a⟩)) (i:=0) (fb:=eVar 4) (s:=.leaf) (r:=a) rfl (zAC rfl) ha
   have i1:eIdx (eVar 2) (eVar 4) (GF w p pl l (some ⟨.leaf,rm a⟩))=.ok ⟨.leaf,oD (rkA pl a)⟩ (GF w p pl l (some ⟨.leaf,rm a⟩)):=zD9 (j:=a) (zAC rfl) (zAC (d:=rm a) rfl) (zFU (by rw [length_map,h.len];exact ha)) (zKO (by rw [h.len];exact ha)) rfl
   have t:=b_and (a:=(rkA pl a).isNone) (zAY (s:=.leaf) (v_op (g:=gIsN false) i1 (v_k (d:=.none)) (by cases rkA pl a<;>rfl))) (zAY (s:=.leaf) (v_op eo (zAC (i:=1) rfl) KC.eq_int))
   rw [<-ho p] at t
   cases hc:((rkA pl a).isNone&&own w p a) with
   | false=>
    rw [hc] at t
    refine ⟨_,x_if t nofun (fun _=>rfl),hr',l,_,rfl,hl,hx,fun r hrn hn hw=>?_⟩
    by_cases e:r=a
    ·subst e
     rw [hw,Bool.and_true] at hc
     obtain ⟨t,ht⟩:=Option.isSome_iff_exists.mp (show (rkA pl r).isSome=true by cases q:rkA pl r with | none=>rw [q] at hc;cases hc | some _=>rfl)
     rw [hx.e r hrn t ht]
     simp
    ·exact hf r hrn (by simp [e,hn]) hw
   | true=>
    rw [hc] at t
    simp only [Bool.and_eq_true] at hc
    obtain ⟨z,hz,hzm⟩:=zJ3 (ok.stp_ne ha)
    have st:=x_setI (i:=3) (ds:=l.map oD) (fa:=eIdx (eIdx (eIdx (eVar 0) (eK (.int 2))) (eVar 4)) (eK (.int 0))) (fb:=eVar 4) (j:=a) (p:=⟨.leaf,rm z⟩) (Γ:=GF w p pl l (some ⟨.leaf,rm a⟩)) rfl (v_headL (zIW ok rfl (zAC rfl) ha) v_k hz) (zAC rfl) (zFU (by rw [length_map,hl.len];exact ha)) rfl
    refine ⟨GF w p pl (l.set a (some z)) (some ⟨.leaf,rm a⟩),x_if t (fun _=>st.trans ?_) nofun,hr',l.set a (some z),_,rfl,⟨by simpa using hl.len,fun r t hrn e=>?_⟩,⟨fun r hrn t e=>?_⟩,fun r hrn hn hw=>?_⟩
    ·simp [rks,oD]
    ·rw [zKN (by rw [hl.len];exact ha)] at e
     split at e
     ·rename_i q
      subst q
      cases e
      exact ⟨hc.2,hzm⟩
     ·exact hl.st r t hrn e
    ·rw [zKN (by rw [hl.len];exact ha)]
     have:r≠a:=fun q=>by
      subst q
      rw [e] at hc
      exact nomatch hc.1
     rw [if_neg this]
     exact hx.e r hrn t e
    ·rw [zKN (by rw [hl.len];exact ha)]
     by_cases q:r=a
     ·rw [if_pos q];simp
     ·rw [if_neg q]
      exact hf r hrn (by simp [q,hn]) hw) (List.range w.n) (GF w p pl pl none) ⟨fun a ha=>List.mem_range.mp ha,pl,none,rfl,h,⟨fun _ _ _ e=>e⟩,fun r hr hn=>absurd (List.mem_range.mpr hr) hn⟩
 refine ⟨l,?_,⟨hl,fun r hr=>hf r hr (by simp)⟩,hx⟩
 have hR:iR1 (eCons (eCB gLen (eCons (eVar 2) eNil)) eNil) (GF w p pl pl none)=.ok ⟨(List.range w.n).map rm,true⟩ (GF w p pl pl none):=R1_of (s:=.leaf) (by omega) (zAE (v_cb (d:=.int (w.n:Int)) (zAE (zAC rfl) v_nil) (by simp [h.len])) v_nil)
 exact rt_of (x_seq (zHX (zHQ (zAC (i:=2) rfl) rfl) rfl (by simp [zAL])) (x_seq (x_for hR e1) (x_ret (zJH rfl) rfl)))
abbrev eWay:F1:=eCall 4 zG5 (eCons (eVar 1) (eCons (eIdx (eVar 15) (eVar 3)) (eCons (eIdx (eVar 15) (eOp gSub (eK (.int 1)) (eVar 3))) (eCons (eVar 9) eNil))))
theorem way2 {w:Wd} (ok:w.Ok) {p:Int} (hp:p=0\/p=1) {a b:List (Option Nat)} (ha:Full w p a) (hb:Full w (1-p) b) {r:Nat} (hr:r<w.n):∃ch F R,(∀Γ:Ev,Γ[1]?=some (some ⟨.leaf,w.enc⟩)->Γ[3]?=some (some ⟨.leaf,.int p⟩)->Γ[15]?=some (some ⟨.leaf,.list [rks a,rks b]⟩)->Γ[9]?=some (some ⟨.leaf,rm r⟩)->eWay Γ=.ok ⟨.leaf,wy F R⟩ Γ)/\Lasso w.n ch r F R/\∀x,x<w.n->∀t,rkA ch x=some t->t∈w.stp x/\(own w p x=true->rkA a x=some t)/\(own w p x=false->rkA b x=some t):=by
 have no:∀x,x<w.n->own w (1-p) x=!own w p x:=fun x hx=>zJV ok hp hx
 have na:∀x,x<w.n->own w p x=false->rkA a x=none:=fun x hx ho=>by
  cases e:rkA a x with
  | none=>rfl
  | some t=>rw [(ha.ok.st x t hx e).1] at ho;cases ho
 have nb:∀x,x<w.n->own w p x=true->rkA b x=none:=fun x hx ho=>by
  cases e:rkA b x with
  | none=>rfl
  | some t=>
   have:=(hb.ok.st x t hx e).1
   rw [no x hx,ho] at this
   cases this
 have fb:∀x,x<w.n->own w p x=false->rkA b x≠none:=fun x hx ho=>hb.f x hx (by rw [no x hx,ho];rfl)
 have m1:∀x,x<w.n->mixA a b x=if own w p x then rkA a x else rkA b x:=fun x hx=>by
  unfold mixA
  cases ho:own w p x with
  | true=>
   rw [if_neg]
   ·rfl
   ·have:=ha.f x hx ho
    cases e:rkA a x with
    | none=>exact absurd e this
    | some t=>simp
  | false=>rw [na x hx ho];rfl
 have m2:∀x,x<w.n->mixA b a x=if own w p x then rkA a x else rkA b x:=fun x hx=>by
  unfold mixA
  cases ho:own w p x with
  | true=>rw [nb x hx ho];rfl
  | false=>
   rw [if_neg]
   ·rfl
   ·have:=fb x hx ho
    cases e:rkA b x with
    | none=>exact absurd e this
    | some t=>simp
 have ne:∀x,x<w.n->(if own w p x then rkA a x else rkA b x)≠none:=fun x hx=>by
  cases ho:own w p x with
  | true=>exact ha.f x hx ho
  | false=>exact fb x hx ho
 have fin:∀ch:List (Option Nat),(∀x,x<w.n->rkA ch x=if own w p x then rkA a x else rkA b x)->∀x,x<w.n->∀t,rkA ch x=some t->t∈w.stp x/\(own w p x=true->rkA a x=some t)/\(own w p x=false->rkA b x=some t):=fun ch hc x hx t e=>by
  rw [hc x hx] at e
  cases ho:own w p x with
  | true=>
   rw [ho] at e
   exact ⟨(ha.ok.st x t hx e).2,fun _=>e,nofun⟩
  | false=>
   rw [ho] at e
   exact ⟨(hb.ok.st x t hx e).2,fun z=>(nomatch z),fun _=>e⟩
 rcases hp with rfl | rfl
 ·obtain ⟨F,R,e,L⟩:=den_way_by ok ha.ok hb.ok hr (fun x hx=>by rw [m1 x hx];exact ne x hx)
  refine ⟨_,F,R,fun Γ h1 h2 h3 h4=>?_,L,fin _ fun x hx=>by rw [zJW hx,m1 x hx]⟩
  exact zAT (zAE (zAC h1) (zAE (zD9 (j:=0) (zAC h3) (zAC h2) rfl rfl rfl) (zAE (zD9 (j:=1) (zAC h3) (v_op v_k (zAC h2) KC.sub_int') rfl rfl rfl) (zAE (zAC h4) v_nil)))) e rfl rfl
 ·obtain ⟨F,R,e,L⟩:=den_way_by ok hb.ok ha.ok hr (fun x hx=>by rw [m2 x hx];exact ne x hx)
  refine ⟨_,F,R,fun Γ h1 h2 h3 h4=>?_,L,fin _ fun x hx=>by rw [zJW hx,m2 x hx]⟩
  exact zAT (zAE (zAC h1) (zAE (zD9 (j:=1) (zAC h3) (zAC h2) rfl rfl rfl) (zAE (zD9 (j:=0) (zAC h3) (v_op v_k (zAC h2) KC.sub_int') rfl rfl rfl) (zAE (zAC h4) v_nil)))) e rfl rfl
theorem fol_of {w:Wd} {pl:List (Option Nat)} {x t:Nat} (hx:x<w.n) (h1:t∈w.stp x) (h2:∀u,rkA pl x=some u->t=u):t∈(fol w pl).stp x:=by
 rw [zIE hx]
 cases e:rkA pl x with
 | none=>exact h1
 | some u=>simp [h2 u e]
theorem meet_law {w:Wd} (ok:w.Ok) {p:Int} (hp:p=0\/p=1) {T:List Nat} {rk rk':List (Option Nat)} (Rk:RightG w.n w.stp (own w p) (List.range w.n) T rk) (Rk':RightG w.n w.stp (own w p) (List.range w.n) T rk') {a b ch:List (Option Nat)} {r:Nat} {F R:List Nat} (hr:r<w.n) (La:Lasso w.n ch r F R)
  (hc:∀x,x<w.n->∀t,rkA ch x=some t->t∈w.stp x/\(own w p x=true->rkA a x=some t)/\(own w p x=false->rkA b x=some t))
  (h1:(!(rkA rk r).isNone)=true->Ext w (zAS w p (lows w rk)) a) (h2:(!(rkA rk r).isNone)=false->Ext w (zAS w (1-p) (wthn w (noR w.n rk'))) b):decide (0<((F++R).filter fun t=>T.contains t).length)=!(rkA rk r).isNone:=by
 cases hk:(!(rkA rk r).isNone) with
 | true=>
  obtain ⟨y,hy,hT⟩:=meets (v:=fol w (zAS w p (lows w rk))) (bring_right ok Rk) La (fun x hx t e=>fol_of hx (hc x hx t e).1 fun u hu=>by
   have o:=((zFS (w:=w) (p:=p) (sd:=lows w rk) zJZ).st x u hx hu).1
   have:=(h1 hk).e x hx u hu
   rw [(hc x hx t e).2.1 o] at this
   cases this
   rfl) (fun z=>by rw [z] at hk;cases hk)
  exact decide_eq_true (List.length_pos_of_mem (List.mem_filter.mpr ⟨hy,by simpa using hT⟩))
 | false=>
  have hn:rkA rk r=none:=by
   cases q:rkA rk r with
   | none=>rfl
   | some _=>rw [q] at hk;cases hk
  have e1:(1:Int)-(1-p)=p:=by omega
  have kr:=keep_right ok (p:=1-p) (by omega) (R:=T) (rk:=rk') (by rw [e1];exact Rk')
  have:=misses (v:=fol w (zAS w (1-p) (wthn w (noR w.n rk')))) kr La (fun x hx t e=>fol_of hx (hc x hx t e).1 fun u hu=>by
   have o:=((zFS (w:=w) (p:=1-p) (sd:=wthn w (noR w.n rk')) wthn_in).st x u hx hu).1
   rw [zJV ok hp hx] at o
   have:=(h2 hk).e x hx u hu
   rw [(hc x hx t e).2.2 (by simpa using o)] at this
   cases this
   rfl) (rightG_none (fun r t h=>ok.stp_lt h) Rk Rk' hr hn)
  have e0:((F++R).filter fun t=>T.contains t)=[]:=List.filter_eq_nil_iff.mpr fun y hy=>by simpa using this y hy
  rw [e0]
  rfl
theorem ne_bool {a b:Bool}:gNe (.bool a) (.bool b)=some (.bool (a != b)):=by cases a<;>cases b<;>rfl
theorem cat_ev {F R:List Nat} {i:Nat} {Γ:Ev} (hl:F.length+R.length<=900) (h:Γ[i]?=some (some ⟨.leaf,wy F R⟩)):eCat (eIdx (eVar i) (eK (.int 0))) (eIdx (eVar i) (eK (.int 1))) Γ=.ok ⟨.lst .leaf,rms (F++R)⟩ Γ:=by
 have i0:eIdx (eVar i) (eK (.int 0)) Γ=.ok ⟨.leaf,rms F⟩ Γ:=zGK (j:=0) (zAC h) v_k rfl rfl rfl
 have i1:eIdx (eVar i) (eK (.int 1)) Γ=.ok ⟨.leaf,rms R⟩ Γ:=zGK (j:=1) (zAC h) v_k rfl rfl rfl
 have:=v_cat i0 i1 rfl rfl (by simp;omega)
 rw [this]
 simp [rms]
abbrev GW (xs:List D) (w:Wd) (p:Int) (T:List Nat) (x5 x6 x7 x8 x9:Option PV) (rk:List (Option Nat)) (x11 x12 x13 x14 x15 x16:Option PV):Ev:=[some ⟨.leaf,.list xs⟩,some ⟨.leaf,w.enc⟩,some ⟨.leaf,.int (w.n:Int)⟩,some ⟨.leaf,.int p⟩,some ⟨.leaf,rms T⟩,x5,x6,x7,x8,x9,some ⟨.leaf,rks rk⟩,x11,x12,x13,x14,x15,x16,none]
abbrev inB:FS:=(sSeq (sSet false 15 (eList .leaf (eCons (eIdx (eVar 7) (eVar 13)) (eCons (eIdx (eVar 8) (eVar 14)) eNil))))
  (sSeq (sSet false 16 eWay)
  (sIf (bOf gBool (eOp gNe (eOp gGt (eCB gLen (eCons (eComp .leaf 17 (iSeq (eCat (eIdx (eVar 16) (eK (.int 0))) (eIdx (eVar 16) (eK (.int 1))))) (bOf gBool (eOp (gIn false) (eVar 17) (eVar 4))) (eVar 17)) eNil)) (eK (.int 0))) (eOp (gIsN true) (eIdx (eVar 10) (eVar 9)) (eK .none)))) (sRet (eK (.bool false))) sNext)))
abbrev ePrs:F1:=eIf (bOf gBool (eOp (gIsN true) (eIdx (eVar 10) (eVar 9)) (eK .none))) (eList .leaf (eCons (eTup (eCons (eK (.int 0)) (eCons (eK (.int 0)) eNil))) (eCons (eTup (eCons (eK (.int 0)) (eCons (eK (.int 1)) eNil))) eNil))) (eList .leaf (eCons (eTup (eCons (eK (.int 0)) (eCons (eK (.int 0)) eNil))) (eCons (eTup (eCons (eK (.int 1)) (eCons (eK (.int 0)) eNil))) eNil)))
abbrev outB:FS:=(sSeq (sIf (bAnd (bOf gBool (eOp (gIsN true) (eIdx (eVar 10) (eVar 9)) (eK .none))) (bNot (bOf gTru (eCall 4 zBO (eCons (eVar 6) (eCons (eVar 4) (eCons (eVar 9) (eCons (eIdx (eVar 10) (eVar 9)) eNil)))))))) (sRet (eK (.bool false))) sNext)
  (sSeq (sSet false 12 ePrs)
  (sForP 13 14 (iSeq (eVar 12))
  inB)))
abbrev two (a b:List (Option Nat)):D:=.list [rks a,rks b]
section
variable {xs:List D} {w:Wd} {p:Int} {T:List Nat} {rk rk' m0 m1 n0 n1:List (Option Nat)} {x5 x6 x11:Option PV}
theorem two_at {a b:List (Option Nat)} {k:Nat} (h:k<2):∃c,(c=a/\k=0\/c=b/\k=1)/\([rks a,rks b])[k]?=some (rks c):=by
 match k,h with
 | 0,_=>exact ⟨a,.inl ⟨rfl,rfl⟩,rfl⟩
 | 1,_=>exact ⟨b,.inr ⟨rfl,rfl⟩,rfl⟩
theorem in_turn (ok:w.Ok) (hp:p=0\/p=1) (Rk:RightG w.n w.stp (own w p) (List.range w.n) T rk) (Rk':RightG w.n w.stp (own w p) (List.range w.n) T rk') (f0:Full w p m0) (f1:Full w p m1) (g0:Full w (1-p) n0) (g1:Full w (1-p) n1) (e0:Ext w (zAS w p (lows w rk)) m0) (d0:Ext w (zAS w (1-p) (wthn w (noR w.n rk'))) n0)
  {r o q:Nat} (hr:r<w.n) (ho:o<2) (hq:q<2) (hoq:if (rkA rk r).isNone then q=0 else o=0) {x12 x15 x16:Option PV}:∃y15 y16,inB (GW xs w p T x5 x6 (some ⟨.leaf,two m0 m1⟩) (some ⟨.leaf,two n0 n1⟩) (some ⟨.leaf,rm r⟩) rk x11 x12 (some ⟨.leaf,rm o⟩) (some ⟨.leaf,rm q⟩) x15 x16)=.nx (GW xs w p T x5 x6 (some ⟨.leaf,two m0 m1⟩) (some ⟨.leaf,two n0 n1⟩) (some ⟨.leaf,rm r⟩) rk x11 x12 (some ⟨.leaf,rm o⟩) (some ⟨.leaf,rm q⟩) y15 y16):=by
 have h24:=ok.h24
 obtain ⟨a,ha,ga⟩:=two_at (a:=m0) (b:=m1) ho
 obtain ⟨b,hb,gb⟩:=two_at (a:=n0) (b:=n1) hq
 have fa:Full w p a:=by rcases ha with ⟨rfl,_⟩ | ⟨rfl,_⟩<;>assumption
 have fb:Full w (1-p) b:=by rcases hb with ⟨rfl,_⟩ | ⟨rfl,_⟩<;>assumption
 obtain ⟨ch,F,R,ew,La,hc⟩:=way2 ok hp fa fb hr
 have key:=meet_law ok hp Rk Rk' hr La hc (fun z=>by
  rw [if_neg (fun h=>by rw [h] at z;cases z)] at hoq
  rcases ha with ⟨rfl,_⟩ | ⟨rfl,h⟩
  ·exact e0
  ·omega) (fun z=>by
  rw [if_pos (by cases q:(rkA rk r).isNone with | true=>rfl | false=>rw [q] at z;cases z)] at hoq
  rcases hb with ⟨rfl,_⟩ | ⟨rfl,h⟩
  ·exact d0
  ·omega)
 have i15:=zDP (s:=.leaf) (fl:=eCons (eIdx (eVar 7) (eVar 13)) (eCons (eIdx (eVar 8) (eVar 14)) eNil)) (Γ:=GW xs w p T x5 x6 (some ⟨.leaf,two m0 m1⟩) (some ⟨.leaf,two n0 n1⟩) (some ⟨.leaf,rm r⟩) rk x11 x12 (some ⟨.leaf,rm o⟩) (some ⟨.leaf,rm q⟩) x15 x16) (zAE (zD9 (j:=o) (zAC rfl) (zAC (d:=rm o) rfl) (zFU (by simpa using ho)) ga rfl) (zAE (zD9 (j:=q) (zAC rfl) (zAC (d:=rm q) rfl) (zFU (by simpa using hq)) gb rfl) v_nil)) rfl rfl rfl
 refine ⟨some ⟨.leaf,two a b⟩,some ⟨.leaf,wy F R⟩,x_seq (zA0 i15 rfl (by simp)) (x_seq (zA0 (ew _ rfl rfl rfl rfl) rfl (by simp)) ?_)⟩
 have rl:F.length+R.length<=24:=by
  have:=zHL La.nd La.lt
  simp at this
  omega
 have cm:=zDA (Γ:=GW xs w p T x5 x6 (some ⟨.leaf,two m0 m1⟩) (some ⟨.leaf,two n0 n1⟩) (some ⟨.leaf,rm r⟩) rk x11 x12 (some ⟨.leaf,rm o⟩) (some ⟨.leaf,rm q⟩) (some ⟨.leaf,two a b⟩) (some ⟨.leaf,wy F R⟩)) (s:=.leaf) (i:=17) (fi:=iSeq (eCat (eIdx (eVar 16) (eK (.int 0))) (eIdx (eVar 16) (eK (.int 1))))) (fc:=bOf gBool (eOp (gIn false) (eVar 17) (eVar 4))) (fe:=eVar 17) rm (F++R) (fun t=>T.contains t) (fun t=>⟨.leaf,rm t⟩) (st:=true) (w_seq (s:=.lst .leaf) (cat_ev (i:=16) (by omega) rfl) rfl) (by simp) rfl (by simp;omega) (fun t ht=>zAY (s:=.leaf) (v_op (zAC rfl) (zAC (i:=4) rfl) zKF)) (fun t ht _=>⟨zAC rfl,rfl⟩)
 have i10:eIdx (eVar 10) (eVar 9) (GW xs w p T x5 x6 (some ⟨.leaf,two m0 m1⟩) (some ⟨.leaf,two n0 n1⟩) (some ⟨.leaf,rm r⟩) rk x11 x12 (some ⟨.leaf,rm o⟩) (some ⟨.leaf,rm q⟩) (some ⟨.leaf,two a b⟩) (some ⟨.leaf,wy F R⟩))=.ok ⟨.leaf,oD (rkA rk r)⟩ _:=zD9 (j:=r) (zAC rfl) (zAC (d:=rm r) rfl) (zFU (by rw [length_map,Rk.len];exact hr)) (zKO (by rw [Rk.len];exact hr)) rfl
 have gl:gLen [.list (((F++R).filter fun t=>T.contains t).map fun t=>rm t)]=some (.int (((F++R).filter fun t=>T.contains t).length:Int)):=by simp
 have t:=zAY (s:=.leaf) (v_op (g:=gNe) (v_op (g:=gGt) (v_cb (zAE cm v_nil) gl) (v_k (d:=.int 0)) (show _=some (.bool (decide ((0:Int)<(((F++R).filter fun t=>T.contains t).length:Int)))) from rfl)) (v_op (g:=gIsN true) i10 (v_k (d:=.none)) (show _=some (.bool (!(rkA rk r).isNone)) by cases rkA rk r<;>rfl)) ne_bool)
 have:decide ((0:Int)<(((F++R).filter fun t=>T.contains t).length:Int))=!(rkA rk r).isNone:=by
  rw [<-key]
  exact decide_eq_decide.mpr (by omega)
 rw [this,bne_self_eq_false] at t
 exact x_if t nofun fun _=>rfl
theorem out_turn (ok:w.Ok) (hp:p=0\/p=1) (Rk:RightG w.n w.stp (own w p) (List.range w.n) T rk) (Fw:Few w.stp (own w p) T rk) (Rk':RightG w.n w.stp (own w p) (List.range w.n) T rk') (f0:Full w p m0) (f1:Full w p m1) (g0:Full w (1-p) n0) (g1:Full w (1-p) n1) (e0:Ext w (zAS w p (lows w rk)) m0) (d0:Ext w (zAS w (1-p) (wthn w (noR w.n rk'))) n0)
  {r:Nat} (hr:r<w.n) {x12 x13 x14 x15 x16:Option PV}:∃y12 y13 y14 y15 y16,outB (GW xs w p T x5 (some ⟨.leaf,(fol w (zAS w p (lows w rk))).enc⟩) (some ⟨.leaf,two m0 m1⟩) (some ⟨.leaf,two n0 n1⟩) (some ⟨.leaf,rm r⟩) rk x11 x12 x13 x14 x15 x16)=.nx (GW xs w p T x5 (some ⟨.leaf,(fol w (zAS w p (lows w rk))).enc⟩) (some ⟨.leaf,two m0 m1⟩) (some ⟨.leaf,two n0 n1⟩) (some ⟨.leaf,rm r⟩) rk x11 y12 y13 y14 y15 y16):=by
 have h24:=ok.h24
 have i10:∀(x12 x13 x14 x15 x16:Option PV),eIdx (eVar 10) (eVar 9) (GW xs w p T x5 (some ⟨.leaf,(fol w (zAS w p (lows w rk))).enc⟩) (some ⟨.leaf,two m0 m1⟩) (some ⟨.leaf,two n0 n1⟩) (some ⟨.leaf,rm r⟩) rk x11 x12 x13 x14 x15 x16)=.ok ⟨.leaf,oD (rkA rk r)⟩ (GW xs w p T x5 (some ⟨.leaf,(fol w (zAS w p (lows w rk))).enc⟩) (some ⟨.leaf,two m0 m1⟩) (some ⟨.leaf,two n0 n1⟩) (some ⟨.leaf,rm r⟩) rk x11 x12 x13 x14 x15 x16):=fun x12 x13 x14 x15 x16=>zD9 (j:=r) (zAC rfl) (zAC (d:=rm r) rfl) (zFU (by rw [length_map,Rk.len];exact hr)) (zKO (by rw [Rk.len];exact hr)) rfl
 have isn:∀(x12 x13 x14 x15 x16:Option PV),bOf gBool (eOp (gIsN true) (eIdx (eVar 10) (eVar 9)) (eK .none)) (GW xs w p T x5 (some ⟨.leaf,(fol w (zAS w p (lows w rk))).enc⟩) (some ⟨.leaf,two m0 m1⟩) (some ⟨.leaf,two n0 n1⟩) (some ⟨.leaf,rm r⟩) rk x11 x12 x13 x14 x15 x16)=.ok (!(rkA rk r).isNone) _:=fun x12 x13 x14 x15 x16=>zAY (s:=.leaf) (v_op (g:=gIsN true) (i10 x12 x13 x14 x15 x16) (v_k (d:=.none)) (by cases rkA rk r<;>rfl))
 have t1:bAnd (bOf gBool (eOp (gIsN true) (eIdx (eVar 10) (eVar 9)) (eK .none))) (bNot (bOf gTru (eCall 4 zBO (eCons (eVar 6) (eCons (eVar 4) (eCons (eVar 9) (eCons (eIdx (eVar 10) (eVar 9)) eNil))))))) (GW xs w p T x5 (some ⟨.leaf,(fol w (zAS w p (lows w rk))).enc⟩) (some ⟨.leaf,two m0 m1⟩) (some ⟨.leaf,two n0 n1⟩) (some ⟨.leaf,rm r⟩) rk x11 x12 x13 x14 x15 x16)=.ok false (GW xs w p T x5 (some ⟨.leaf,(fol w (zAS w p (lows w rk))).enc⟩) (some ⟨.leaf,two m0 m1⟩) (some ⟨.leaf,two n0 n1⟩) (some ⟨.leaf,rm r⟩) rk x11 x12 x13 x14 x15 x16):=by
  cases e:rkA rk r with
  | none=>
   have:=isn x12 x13 x14 x15 x16
   rw [e] at this
   unfold bAnd
   rw [this]
   rfl
  | some k=>
   have t:=isn x12 x13 x14 x15 x16
   have j:=i10 x12 x13 x14 x15 x16
   rw [e] at t j
   have lt:=few_le Rk Fw (fun r t h=>ok.stp_lt h) hr e
   have po:=zFS (w:=w) (p:=p) (sd:=lows w rk) zJZ
   have dl:=den_longest (v:=fol w (zAS w p (lows w rk))) (fol_ok ok po) (bring_right ok Rk) hr e (by omega)
   exact b_and t (b_not (b:=true) (b_tru (s:=.leaf) (zAT (zAE (zAC rfl) (zAE (zAC rfl) (zAE (zAC rfl) (zAE j v_nil)))) dl rfl rfl)))
 have ep:∃ps:List (Nat×Nat),ePrs (GW xs w p T x5 (some ⟨.leaf,(fol w (zAS w p (lows w rk))).enc⟩) (some ⟨.leaf,two m0 m1⟩) (some ⟨.leaf,two n0 n1⟩) (some ⟨.leaf,rm r⟩) rk x11 x12 x13 x14 x15 x16)=.ok ⟨.lst .leaf,.list (ps.map fun a=>.tuple [rm a.1,rm a.2])⟩ (GW xs w p T x5 (some ⟨.leaf,(fol w (zAS w p (lows w rk))).enc⟩) (some ⟨.leaf,two m0 m1⟩) (some ⟨.leaf,two n0 n1⟩) (some ⟨.leaf,rm r⟩) rk x11 x12 x13 x14 x15 x16)/\∀a∈ps,a.1<2/\a.2<2/\if (rkA rk r).isNone then a.2=0 else a.1=0:=by
  have t:=isn x12 x13 x14 x15 x16
  cases e:rkA rk r with
  | none=>
   rw [e] at t
   exact ⟨[(0,0),(1,0)],v_ifz (t:=false) t nofun (fun _=>zDP (s:=.leaf) (zAE (v_tup (zAE v_k (zAE v_k v_nil)) rfl rfl) (zAE (v_tup (zAE v_k (zAE v_k v_nil)) rfl rfl) v_nil)) rfl rfl rfl),by simp⟩
  | some k=>
   rw [e] at t
   exact ⟨[(0,0),(0,1)],v_ifz (t:=true) t (fun _=>zDP (s:=.leaf) (zAE (v_tup (zAE v_k (zAE v_k v_nil)) rfl rfl) (zAE (v_tup (zAE v_k (zAE v_k v_nil)) rfl rfl) v_nil)) rfl rfl rfl) nofun,by simp⟩
 obtain ⟨ps,ep,hps⟩:=ep
 obtain ⟨Γ',ef,_,y13,y14,y15,y16,hΓ⟩:=forGoP_inv (fun a:Nat×Nat=>(rm a.1,rm a.2)) (i:=13) (j:=14) (body:=inB) (Inv:=fun l Γ=>(∀a∈l,a∈ps)/\∃x13 x14 x15 x16,Γ=GW xs w p T x5 (some ⟨.leaf,(fol w (zAS w p (lows w rk))).enc⟩) (some ⟨.leaf,two m0 m1⟩) (some ⟨.leaf,two n0 n1⟩) (some ⟨.leaf,rm r⟩) rk x11 (some ⟨.leaf,.list (ps.map fun a=>.tuple [rm a.1,rm a.2])⟩) x13 x14 x15 x16)
  (fun a rest Γ ⟨hr',x13,x14,x15,x16,e⟩=>by
   subst e
   obtain ⟨h1,h2,h3⟩:=hps a (hr' a (by simp))
   obtain ⟨y15,y16,e⟩:=in_turn (xs:=xs) (x5:=x5) (x6:=some ⟨.leaf,(fol w (zAS w p (lows w rk))).enc⟩) (x11:=x11) ok hp Rk Rk' f0 f1 g0 g1 e0 d0 hr h1 h2 h3 (x12:=some ⟨.leaf,.list (ps.map fun a=>.tuple [rm a.1,rm a.2])⟩) (x15:=x15) (x16:=x16)
   exact ⟨⟨by simp,by simp⟩,_,e,fun b hb=>hr' b (by simp [hb]),_,_,_,_,rfl⟩) ps (GW xs w p T x5 (some ⟨.leaf,(fol w (zAS w p (lows w rk))).enc⟩) (some ⟨.leaf,two m0 m1⟩) (some ⟨.leaf,two n0 n1⟩) (some ⟨.leaf,rm r⟩) rk x11 (some ⟨.leaf,.list (ps.map fun a=>.tuple [rm a.1,rm a.2])⟩) x13 x14 x15 x16) ⟨fun a ha=>ha,_,_,_,_,rfl⟩
 subst hΓ
 exact ⟨_,y13,y14,y15,y16,x_seq (x_if t1 nofun fun _=>rfl) (x_seq (zA0 ep rfl (by simp)) (x_forP (w_seq (s:=.leaf) (zAC rfl) rfl) ef))⟩
end
theorem den_law {xs:List D} (hx:RowI xs):m_law [.list xs]=.ok ⟨.leaf,.bool true⟩:=by
 obtain ⟨n,os,ms,ss,e0,g,h1,h6⟩:=den_world hx (at':=0) (lim:=5) (by omega) (by omega) (by omega)
 obtain ⟨w,ok,ew,en⟩:=to_wd g h1 (by omega)
 rw [<-ew] at e0
 obtain ⟨c,hc⟩:=zGF hx (k:=8) (by omega)
 obtain ⟨c7,hc7⟩:=zGF hx (k:=7) (by omega)
 obtain ⟨c9,hc9⟩:=zGF hx (k:=9) (by omega)
 obtain ⟨c10,hc10⟩:=zGF hx (k:=10) (by omega)
 have dp:=zFY (c:=c) (k:=0) (b:=2) (by omega) (by omega) (by omega) (by omega)
 have hp:=drw2 (c:=c) (k:=0) (by omega) (by omega)
 generalize drw c 0 2=p at dp hp
 have h24:=ok.h24
 obtain ⟨T,er,sT⟩:=den_few (c:=c7) (n:=w.n) h24
 obtain ⟨rk,eb,Rk,Fw⟩:=den_bring ok hp sT
 have e1:(1:Int)-(1-p)=p:=by omega
 obtain ⟨rk',ek,Rk'⟩:=den_keep ok (p:=1-p) (by omega) (R:=(List.range w.n).filter fun t=>!T.contains t) (Std.of _)
 rw [e1] at Rk'
 have eT:((List.range w.n).filter fun t=>!((List.range w.n).filter fun t=>!T.contains t).contains t)=T:=Std.ext (Std.of _) sT fun r hr=>by
  simp [hr]
 rw [eT] at Rk'
 have po1:=zFS (w:=w) (p:=p) (sd:=lows w rk) zJZ
 have po2:=zFS (w:=w) (p:=1-p) (sd:=wthn w (noR w.n rk')) wthn_in
 have ef:=den_follow ok hp po1
 obtain ⟨m0,em0,f0,x0⟩:=den_filled ok po1
 obtain ⟨n0,en0,g0,y0⟩:=den_filled ok po2
 obtain ⟨m1,em1,pm1,fm1⟩:=den_lplan ok (p:=p) (c:=c9) (b:=false)
 obtain ⟨n1,en1,pn1,fn1⟩:=den_lplan ok (p:=1-p) (c:=c10) (b:=false)
 refine rt_of ?_
 refine x_seq (zA0 (zAT (zAE (zAC rfl) (zAE v_k (zAE v_k v_nil))) e0 rfl rfl) rfl (by simp [zAL])) ?_
 refine x_seq (zA0 (zJO ok rfl) rfl (by simp [zAL])) ?_
 refine x_seq (zA0 (zAT (zAE (zAT (zAE (zAC rfl) (zAE v_k v_nil)) hc rfl rfl) (zAE v_k (zAE v_k v_nil))) dp rfl rfl) rfl (by simp [zAL])) ?_
 refine x_seq (zA0 (zAT (zAE (zAT (zAE (zAC rfl) (zAE v_k v_nil)) hc7 rfl rfl) (zAE (zAC rfl) v_nil)) er rfl rfl) rfl (by simp [zAL])) ?_
 refine x_seq (Γ1:=GW xs w p T none none none none none rk (some ⟨.lst .leaf,rks (zAS w p (lows w rk))⟩) none none none none none) (x_unpN (ps:=[⟨.leaf,rks rk⟩,⟨.lst .leaf,rks (zAS w p (lows w rk))⟩]) (zAT (zAE (zAC rfl) (zAE (zAC rfl) (zAE (zAC rfl) v_nil))) eb rfl rfl) rfl rfl rfl) ?_
 have cm:=zDA (Γ:=GW xs w p T none none none none none rk (some ⟨.lst .leaf,rks (zAS w p (lows w rk))⟩) none none none none none) (s:=.leaf) (i:=9) (fi:=iR1 (eCons (eVar 2) eNil)) (fc:=bOf gBool (eOp (gIn true) (eVar 9) (eVar 4))) (fe:=eVar 9) rm (List.range w.n) (fun t=>!T.contains t) (fun t=>⟨.leaf,rm t⟩) (st:=true) (R1_of (s:=.leaf) (by omega) (zAE (zAC rfl) v_nil)) (by simp) rfl (by simp;omega) (fun t ht=>zAY (s:=.leaf) (v_op (zAC rfl) (zAC (i:=4) rfl) zG4)) (fun t ht _=>⟨zAC rfl,rfl⟩)
 refine x_seq (zA0 (zGK (j:=1) (s2:=.leaf) (zAT (zAE (zAC rfl) (zAE (v_op v_k (zAC rfl) KC.sub_int') (zAE cm v_nil))) ek rfl rfl) v_k rfl rfl rfl) rfl (by simp)) ?_
 refine x_frz (p:=⟨.lst .leaf,rks (zAS w p (lows w rk))⟩) rfl ?_
 refine x_seq (zA0 (zAT (zAE (zAC rfl) (zAE (zAC rfl) (zAE (zAC rfl) v_nil))) ef rfl rfl) rfl (by simp)) ?_
 refine x_seq (zA0 (zDP (s:=.leaf) (zAE (zAT (zAE (zAC rfl) (zAE (zAC rfl) (zAE (zAC rfl) v_nil))) em0 rfl rfl) (zAE (zAT (zAE (zAC rfl) (zAE (zAC rfl) (zAE (zAT (zAE (zAC rfl) (zAE v_k v_nil)) hc9 rfl rfl) (zAE v_k v_nil)))) em1 rfl rfl) v_nil)) rfl rfl rfl) rfl (by simp)) ?_
 refine x_seq (zA0 (zDP (s:=.leaf) (zAE (zAT (zAE (zAC rfl) (zAE (v_op v_k (zAC rfl) KC.sub_int') (zAE (zAC rfl) v_nil))) en0 rfl rfl) (zAE (zAT (zAE (zAC rfl) (zAE (v_op v_k (zAC rfl) KC.sub_int') (zAE (zAT (zAE (zAC rfl) (zAE v_k v_nil)) hc10 rfl rfl) (zAE v_k v_nil)))) en1 rfl rfl) v_nil)) rfl rfl rfl) rfl (by simp)) ?_
 obtain ⟨Γ2,e4,_,y9,y12,y13,y14,y15,y16,hΓ⟩:=zFW rm (i:=9) (body:=outB) (Inv:=fun rest Γ=>(∀a∈rest,a<w.n)/\∃x9 x12 x13 x14 x15 x16,Γ=GW xs w p T (some ⟨.leaf,rks (zAS w (1-p) (wthn w (noR w.n rk')))⟩) (some ⟨.leaf,(fol w (zAS w p (lows w rk))).enc⟩) (some ⟨.leaf,two m0 m1⟩) (some ⟨.leaf,two n0 n1⟩) x9 rk (some ⟨.leaf,rks (zAS w p (lows w rk))⟩) x12 x13 x14 x15 x16)
  (fun a rest Γ ⟨hr,x9,x12,x13,x14,x15,x16,e⟩=>by
   subst e
   have ha:=hr a (by simp)
   obtain ⟨y12,y13,y14,y15,y16,e⟩:=out_turn (xs:=xs) (x5:=some ⟨.leaf,rks (zAS w (1-p) (wthn w (noR w.n rk')))⟩) (x11:=some ⟨.leaf,rks (zAS w p (lows w rk))⟩) ok hp Rk Fw Rk' f0 ⟨pm1,fm1 rfl⟩ g0 ⟨pn1,fn1 rfl⟩ x0 y0 ha (x12:=x12) (x13:=x13) (x14:=x14) (x15:=x15) (x16:=x16)
   exact ⟨by simp,_,e,fun b hb=>hr b (by simp [hb]),_,_,_,_,_,_,rfl⟩) (List.range w.n) (GW xs w p T (some ⟨.leaf,rks (zAS w (1-p) (wthn w (noR w.n rk')))⟩) (some ⟨.leaf,(fol w (zAS w p (lows w rk))).enc⟩) (some ⟨.leaf,two m0 m1⟩) (some ⟨.leaf,two n0 n1⟩) none rk (some ⟨.leaf,rks (zAS w p (lows w rk))⟩) none none none none none) ⟨fun a h=>List.mem_range.mp h,_,_,_,_,_,_,rfl⟩
 subst hΓ
 exact x_seq (x_for (R1_of (n:=w.n) (s:=.leaf) (by omega) (zAE (zAC rfl) v_nil)) e4) rfl
theorem law_true (ns:List Int) (hl:ns.length<=63):m_law [.list (ns.map .int)]=.ok ⟨.leaf,.bool true⟩:=den_law zGB
end KQ
namespace KQ
open PySem PySem.Spec L2 T
open PyProof.Rows hiding St
open KC
section
variable {P:Program} {w:World} {K:Fg} {mg:Str->Option Value} {base:Heap} {f:Addr} {fd:FuncData}
theorem ok_is_led (F:Fun K "is_led" "is_led" zG0 f fd) (hm:mg "is_led"=some (.ref f)) (b:Binds K fd ["is_chosen", "by_steps"] []) (n_any:mg "any"=none) (n_all:mg "all"=none):DefOk P w K mg base 1 "is_led" 2 zEC:=
 ⟨f,fd,["is_chosen", "by_steps"],zA1 F sc_is_led (k:=0) (fun cdv A outer s H E hr=>bd_is_led (Cp.fn cp_is_led nm_is_led) hr.units PassesOwn.never n_any n_all),hm,F.kp,b⟩
theorem ok_is_lower (F:Fun K "is_lower" "is_lower" zEV f fd) (hm:mg "is_lower"=some (.ref f)) (b:Binds K fd ["rank", "other"] []):DefOk P w K mg base 1 "is_lower" 2 zDL:=
 ⟨f,fd,["rank", "other"],zA1 F sc_is_lower (k:=0) (fun cdv A outer s H E hr=>bd_is_lower (Cp.fn cp_is_lower nm_is_lower) hr.units PassesOwn.never),hm,F.kp,b⟩
theorem ok_lower_steps (F:Fun K "lower_steps" "lower_steps" zB8 f fd) (hm:mg "lower_steps"=some (.ref f)) (b:Binds K fd ["world", "ranks", "room"] []) (c_is_lower:DefOk P w K mg base 1 "is_lower" 2 zDL):DefOk P w K mg base 2 "lower_steps" 3 zBS:=
 ⟨f,fd,["world", "ranks", "room"],zA1 F sc_lower_steps (k:=1) (fun cdv A outer s H E hr=>bd_lower_steps (Cp.fn cp_lower_steps nm_lower_steps) hr.units PassesOwn.never (c_is_lower.cal hr rfl)),hm,F.kp,b⟩
theorem ok_ranked_next (F:Fun K "ranked_next" "ranked_next" zB6 f fd) (hm:mg "ranked_next"=some (.ref f)) (b:Binds K fd ["world", "chosen", "through", "ranks"] []) (c_is_led:DefOk P w K mg base 1 "is_led" 2 zEC):DefOk P w K mg base 2 "ranked_next" 4 zBJ:=
 ⟨f,fd,["world", "chosen", "through", "ranks"],zA1 F sc_ranked_next (k:=1) (fun cdv A outer s H E hr=>bd_ranked_next (Cp.fn cp_ranked_next nm_ranked_next) hr.units PassesOwn.never (c_is_led.cal hr rfl)),hm,F.kp,b⟩
theorem ok_ranks_to (F:Fun K "ranks_to" "ranks_to" zET f fd) (hm:mg "ranks_to"=some (.ref f)) (b:Binds K fd ["world", "chosen", "through", "goal"] []) (c_ranked_next:DefOk P w K mg base 2 "ranked_next" 4 zBJ):DefOk P w K mg base 3 "ranks_to" 4 zEX:=
 ⟨f,fd,["world", "chosen", "through", "goal"],zA1 F sc_ranks_to (k:=2) (fun cdv A outer s H E hr=>bd_ranks_to (Cp.fn cp_ranks_to nm_ranks_to) hr.units PassesOwn.never (c_ranked_next.cal hr rfl)),hm,F.kp,b⟩
theorem ok_is_rising (F:Fun K "is_rising" "is_rising" zDR f fd) (hm:mg "is_rising"=some (.ref f)) (b:Binds K fd ["entries"] []) (n_len:mg "len"=none) (n_range:mg "range"=none) (n_all:mg "all"=none):DefOk P w K mg base 1 "is_rising" 1 zBR:=
 ⟨f,fd,["entries"],zA1 F sc_is_rising (k:=0) (fun cdv A outer s H E hr=>bd_is_rising (Cp.fn cp_is_rising nm_is_rising) hr.units PassesOwn.never n_len n_range n_all),hm,F.kp,b⟩
theorem ok_are_marks (F:Fun K "are_marks" "are_marks" zDU f fd) (hm:mg "are_marks"=some (.ref f)) (b:Binds K fd ["entries"] []) (n_all:mg "all"=none) (c_is_rising:DefOk P w K mg base 1 "is_rising" 1 zBR) (h_LETTERS:ConK K mg "LETTERS" zCF):DefOk P w K mg base 2 "are_marks" 1 zCN:=
 ⟨f,fd,["entries"],zA1 F sc_are_marks (k:=1) (fun cdv A outer s H E hr=>bd_are_marks (Cp.fn cp_are_marks nm_are_marks) hr.units PassesOwn.never n_all (c_is_rising.cal hr rfl) h_LETTERS),hm,F.kp,b⟩
theorem ok_are_rooms (F:Fun K "are_rooms" "are_rooms" zDT f fd) (hm:mg "are_rooms"=some (.ref f)) (b:Binds K fd ["entries", "size"] []) (n_all:mg "all"=none) (c_is_rising:DefOk P w K mg base 1 "is_rising" 1 zBR):DefOk P w K mg base 2 "are_rooms" 2 zBK:=
 ⟨f,fd,["entries", "size"],zA1 F sc_are_rooms (k:=1) (fun cdv A outer s H E hr=>bd_are_rooms (Cp.fn cp_are_rooms nm_are_rooms) hr.units PassesOwn.never n_all (c_is_rising.cal hr rfl)),hm,F.kp,b⟩
theorem ok_are_steps (F:Fun K "are_steps" "are_steps" zDS f fd) (hm:mg "are_steps"=some (.ref f)) (b:Binds K fd ["entries", "size"] []) (n_len:mg "len"=none) (c_are_rooms:DefOk P w K mg base 2 "are_rooms" 2 zBK):DefOk P w K mg base 3 "are_steps" 2 zCM:=
 ⟨f,fd,["entries", "size"],zA1 F sc_are_steps (k:=2) (fun cdv A outer s H E hr=>bd_are_steps (Cp.fn cp_are_steps nm_are_steps) hr.units PassesOwn.never n_len (c_are_rooms.cal hr rfl)),hm,F.kp,b⟩
theorem ok_is_world (F:Fun K "is_world" "is_world" zEU f fd) (hm:mg "is_world"=some (.ref f)) (b:Binds K fd ["owners", "marks", "steps"] []) (n_len:mg "len"=none) (n_all:mg "all"=none) (c_are_marks:DefOk P w K mg base 2 "are_marks" 1 zCN) (c_are_steps:DefOk P w K mg base 3 "are_steps" 2 zCM) (h_MOST_ROOMS:ConK K mg "MOST_ROOMS" zC4) (h_PLAYERS:ConK K mg "PLAYERS" zBG):DefOk P w K mg base 4 "is_world" 3 zDK:=
 ⟨f,fd,["owners", "marks", "steps"],zA1 F sc_is_world (k:=3) (fun cdv A outer s H E hr=>bd_is_world (Cp.fn cp_is_world nm_is_world) hr.units PassesOwn.never n_len n_all (c_are_marks.cal hr rfl) (c_are_steps.cal hr rfl) h_MOST_ROOMS h_PLAYERS),hm,F.kp,b⟩
theorem ok_check_world (F:Fun K "check_world" "check_world" zB9 f fd) (hm:mg "check_world"=some (.ref f)) (b:Binds K fd ["world"] []) (c_is_world:DefOk P w K mg base 4 "is_world" 3 zDK):DefOk P w K mg base 5 "check_world" 1 zAV:=
 ⟨f,fd,["world"],zA1 F sc_check_world (k:=4) (fun cdv A outer s H E hr=>bd_check_world (Cp.fn cp_check_world nm_check_world) hr.units PassesOwn.never (c_is_world.cal hr rfl)),hm,F.kp,b⟩
theorem ok_check_player (F:Fun K "check_player" "check_player" zBW f fd) (hm:mg "check_player"=some (.ref f)) (b:Binds K fd ["player"] []) (h_PLAYERS:ConK K mg "PLAYERS" zBG):DefOk P w K mg base 1 "check_player" 1 zA7:=
 ⟨f,fd,["player"],zA1 F sc_check_player (k:=0) (fun cdv A outer s H E hr=>bd_check_player (Cp.fn cp_check_player nm_check_player) hr.units PassesOwn.never h_PLAYERS),hm,F.kp,b⟩
theorem ok_check_room (F:Fun K "check_room" "check_room" zCX f fd) (hm:mg "check_room"=some (.ref f)) (b:Binds K fd ["world", "room"] []) (n_len:mg "len"=none):DefOk P w K mg base 1 "check_room" 2 zC2:=
 ⟨f,fd,["world", "room"],zA1 F sc_check_room (k:=0) (fun cdv A outer s H E hr=>bd_check_room (Cp.fn cp_check_room nm_check_room) hr.units PassesOwn.never n_len),hm,F.kp,b⟩
theorem ok_check_rooms (F:Fun K "check_rooms" "check_rooms" zCA f fd) (hm:mg "check_rooms"=some (.ref f)) (b:Binds K fd ["world", "rooms"] []) (n_len:mg "len"=none) (c_are_rooms:DefOk P w K mg base 2 "are_rooms" 2 zBK):DefOk P w K mg base 3 "check_rooms" 2 zCD:=
 ⟨f,fd,["world", "rooms"],zA1 F sc_check_rooms (k:=2) (fun cdv A outer s H E hr=>bd_check_rooms (Cp.fn cp_check_rooms nm_check_rooms) hr.units PassesOwn.never n_len (c_are_rooms.cal hr rfl)),hm,F.kp,b⟩
theorem ok_other_rooms (F:Fun K "other_rooms" "other_rooms" zB7 f fd) (hm:mg "other_rooms"=some (.ref f)) (b:Binds K fd ["world", "rooms"] []) (n_len:mg "len"=none) (n_range:mg "range"=none):DefOk P w K mg base 1 "other_rooms" 2 zCC:=
 ⟨f,fd,["world", "rooms"],zA1 F sc_other_rooms (k:=0) (fun cdv A outer s H E hr=>bd_other_rooms (Cp.fn cp_other_rooms nm_other_rooms) hr.units PassesOwn.never n_len n_range),hm,F.kp,b⟩
theorem ok_way_along (F:Fun K "way_along" "way_along" zDQ f fd) (hm:mg "way_along"=some (.ref f)) (b:Binds K fd ["choices", "room"] []):DefOk P w K mg base 1 "way_along" 2 zDX:=
 ⟨f,fd,["choices", "room"],zA1 F sc_way_along (k:=0) (fun cdv A outer s H E hr=>bd_way_along (Cp.fn cp_way_along nm_way_along) hr.units PassesOwn.never),hm,F.kp,b⟩
theorem ok_other_player (F:Fun K "other_player" "other_player" zBV f fd) (hm:mg "other_player"=some (.ref f)) (b:Binds K fd ["player"] []):DefOk P w K mg base 1 "other_player" 1 zBZ:=
 ⟨f,fd,["player"],zA1 F sc_other_player (k:=0) (fun cdv A outer s H E hr=>bd_other_player (Cp.fn cp_other_player nm_other_player) hr.units PassesOwn.never),hm,F.kp,b⟩
theorem ok_is_plan_of (F:Fun K "is_plan_of" "is_plan_of" zCV f fd) (hm:mg "is_plan_of"=some (.ref f)) (b:Binds K fd ["world", "player", "plan"] []) (n_len:mg "len"=none) (n_enumerate:mg "enumerate"=none) (n_all:mg "all"=none):DefOk P w K mg base 1 "is_plan_of" 3 zC1:=
 ⟨f,fd,["world", "player", "plan"],zA1 F sc_is_plan_of (k:=0) (fun cdv A outer s H E hr=>bd_is_plan_of (Cp.fn cp_is_plan_of nm_is_plan_of) hr.units PassesOwn.never n_len n_enumerate n_all),hm,F.kp,b⟩
theorem ok_check_plan (F:Fun K "check_plan" "check_plan" zCY f fd) (hm:mg "check_plan"=some (.ref f)) (b:Binds K fd ["world", "player", "plan"] []) (c_is_plan_of:DefOk P w K mg base 1 "is_plan_of" 3 zC1):DefOk P w K mg base 2 "check_plan" 3 zBB:=
 ⟨f,fd,["world", "player", "plan"],zA1 F sc_check_plan (k:=1) (fun cdv A outer s H E hr=>bd_check_plan (Cp.fn cp_check_plan nm_check_plan) hr.units PassesOwn.never (c_is_plan_of.cal hr rfl)),hm,F.kp,b⟩
theorem ok_follow (F:Fun K "follow" "follow" zG1 f fd) (hm:mg "follow"=some (.ref f)) (b:Binds K fd ["world", "player", "plan"] []) (n_enumerate:mg "enumerate"=none) (n_list:mg "list"=none) (c_check_world:DefOk P w K mg base 5 "check_world" 1 zAV) (c_check_player:DefOk P w K mg base 1 "check_player" 1 zA7) (c_check_plan:DefOk P w K mg base 2 "check_plan" 3 zBB):DefOk P w K mg base 6 "follow" 3 zHR:=
 ⟨f,fd,["world", "player", "plan"],zA1 F sc_follow (k:=5) (fun cdv A outer s H E hr=>bd_follow (Cp.fn cp_follow nm_follow) hr.units PassesOwn.never n_enumerate n_list (c_check_world.cal hr rfl) (c_check_player.cal hr rfl) (c_check_plan.cal hr rfl)),hm,F.kp,b⟩
theorem ok_way_by (F:Fun K "way_by" "way_by" zGZ f fd) (hm:mg "way_by"=some (.ref f)) (b:Binds K fd ["world", "plan", "counter", "room"] []) (n_zip:mg "zip"=none) (c_check_world:DefOk P w K mg base 5 "check_world" 1 zAV) (c_check_room:DefOk P w K mg base 1 "check_room" 2 zC2) (c_check_plan:DefOk P w K mg base 2 "check_plan" 3 zBB) (c_way_along:DefOk P w K mg base 1 "way_along" 2 zDX):DefOk P w K mg base 6 "way_by" 4 zG5:=
 ⟨f,fd,["world", "plan", "counter", "room"],zA1 F sc_way_by (k:=5) (fun cdv A outer s H E hr=>bd_way_by (Cp.fn cp_way_by nm_way_by) hr.units PassesOwn.never n_zip (c_check_world.cal hr rfl) (c_check_room.cal hr rfl) (c_check_plan.cal hr rfl) (c_way_along.cal hr rfl)),hm,F.kp,b⟩
theorem ok_plan_of (F:Fun K "plan_of" "plan_of" zFP f fd) (hm:mg "plan_of"=some (.ref f)) (b:Binds K fd ["world", "player", "will_do"] []) (n_enumerate:mg "enumerate"=none):DefOk P w K mg base 1 "plan_of" 3 zC0:=
 ⟨f,fd,["world", "player", "will_do"],zA1 F sc_plan_of (k:=0) (fun cdv A outer s H E hr=>bd_plan_of (Cp.fn cp_plan_of nm_plan_of) hr.units PassesOwn.never n_enumerate),hm,F.kp,b⟩
theorem ok_check_told (F:Fun K "check_told" "check_told" zCW f fd) (hm:mg "check_told"=some (.ref f)) (b:Binds K fd ["world", "player", "rooms"] []) (c_check_world:DefOk P w K mg base 5 "check_world" 1 zAV) (c_check_player:DefOk P w K mg base 1 "check_player" 1 zA7) (c_check_rooms:DefOk P w K mg base 3 "check_rooms" 2 zCD):DefOk P w K mg base 6 "check_told" 3 zBH:=
 ⟨f,fd,["world", "player", "rooms"],zA1 F sc_check_told (k:=5) (fun cdv A outer s H E hr=>bd_check_told (Cp.fn cp_check_told nm_check_told) hr.units PassesOwn.never (c_check_world.cal hr rfl) (c_check_player.cal hr rfl) (c_check_rooms.cal hr rfl)),hm,F.kp,b⟩
theorem ok_brought (F:Fun K "brought" "brought" zFQ f fd) (hm:mg "brought"=some (.ref f)) (b:Binds K fd ["world", "player", "rooms"] []) (n_len:mg "len"=none) (n_list:mg "list"=none) (n_range:mg "range"=none) (c_ranks_to:DefOk P w K mg base 3 "ranks_to" 4 zEX) (c_plan_of:DefOk P w K mg base 1 "plan_of" 3 zC0) (c_lower_steps:DefOk P w K mg base 2 "lower_steps" 3 zBS):DefOk P w K mg base 4 "brought" 3 zC3:=
 ⟨f,fd,["world", "player", "rooms"],zA1 F sc_brought (k:=3) (fun cdv A outer s H E hr=>bd_brought (Cp.fn cp_brought nm_brought) hr.units PassesOwn.never n_len n_list n_range (c_ranks_to.cal hr rfl) (c_plan_of.cal hr rfl) (c_lower_steps.cal hr rfl)),hm,F.kp,b⟩
theorem ok_bring (F:Fun K "bring" "bring" zH1 f fd) (hm:mg "bring"=some (.ref f)) (b:Binds K fd ["world", "player", "rooms"] []) (c_check_told:DefOk P w K mg base 6 "check_told" 3 zBH) (c_brought:DefOk P w K mg base 4 "brought" 3 zC3):DefOk P w K mg base 7 "bring" 3 zI2:=
 ⟨f,fd,["world", "player", "rooms"],zA1 F sc_bring (k:=6) (fun cdv A outer s H E hr=>bd_bring (Cp.fn cp_bring nm_bring) hr.units PassesOwn.never (c_check_told.cal hr rfl) (c_brought.cal hr rfl)),hm,F.kp,b⟩
theorem ok_rooms_without (F:Fun K "rooms_without" "rooms_without" zBP f fd) (hm:mg "rooms_without"=some (.ref f)) (b:Binds K fd ["ranks"] []) (n_enumerate:mg "enumerate"=none):DefOk P w K mg base 1 "rooms_without" 1 zBQ:=
 ⟨f,fd,["ranks"],zA1 F sc_rooms_without (k:=0) (fun cdv A outer s H E hr=>bd_rooms_without (Cp.fn cp_rooms_without nm_rooms_without) hr.units PassesOwn.never n_enumerate),hm,F.kp,b⟩
theorem ok_steps_within (F:Fun K "steps_within" "steps_within" zBU f fd) (hm:mg "steps_within"=some (.ref f)) (b:Binds K fd ["world", "rooms", "room"] []):DefOk P w K mg base 1 "steps_within" 3 zBN:=
 ⟨f,fd,["world", "rooms", "room"],zA1 F sc_steps_within (k:=0) (fun cdv A outer s H E hr=>bd_steps_within (Cp.fn cp_steps_within nm_steps_within) hr.units PassesOwn.never),hm,F.kp,b⟩
theorem ok_keep (F:Fun K "keep" "keep" zJJ f fd) (hm:mg "keep"=some (.ref f)) (b:Binds K fd ["world", "player", "rooms"] []) (n_len:mg "len"=none) (n_range:mg "range"=none) (c_check_told:DefOk P w K mg base 6 "check_told" 3 zBH) (c_brought:DefOk P w K mg base 4 "brought" 3 zC3) (c_other_player:DefOk P w K mg base 1 "other_player" 1 zBZ) (c_other_rooms:DefOk P w K mg base 1 "other_rooms" 2 zCC) (c_rooms_without:DefOk P w K mg base 1 "rooms_without" 1 zBQ) (c_plan_of:DefOk P w K mg base 1 "plan_of" 3 zC0) (c_steps_within:DefOk P w K mg base 1 "steps_within" 3 zBN):DefOk P w K mg base 7 "keep" 3 zKD:=
 ⟨f,fd,["world", "player", "rooms"],zA1 F sc_keep (k:=6) (fun cdv A outer s H E hr=>bd_keep (Cp.fn cp_keep nm_keep) hr.units PassesOwn.never n_len n_range (c_check_told.cal hr rfl) (c_brought.cal hr rfl) (c_other_player.cal hr rfl) (c_other_rooms.cal hr rfl) (c_rooms_without.cal hr rfl) (c_plan_of.cal hr rfl) (c_steps_within.cal hr rfl)),hm,F.kp,b⟩
theorem ok__law_cell_at (F:Fun K "_law_cell_at" "_law_cell_at" zBY f fd) (hm:mg "_law_cell_at"=some (.ref f)) (b:Binds K fd ["script", "k"] []) (n_len:mg "len"=none):DefOk P w K mg base 1 "_law_cell_at" 2 zAO:=
 ⟨f,fd,["script", "k"],zA1 F sc__law_cell_at (k:=0) (fun cdv A outer s H E hr=>bd__law_cell_at (Cp.fn cp__law_cell_at nm__law_cell_at) hr.units PassesOwn.never n_len),hm,F.kp,b⟩
theorem ok__law_draw (F:Fun K "_law_draw" "_law_draw" zDW f fd) (hm:mg "_law_draw"=some (.ref f)) (b:Binds K fd ["cell", "k", "bound"] []) (n_range:mg "range"=none):DefOk P w K mg base 1 "_law_draw" 3 zAK:=
 ⟨f,fd,["cell", "k", "bound"],zA1 F sc__law_draw (k:=0) (fun cdv A outer s H E hr=>bd__law_draw (Cp.fn cp__law_draw nm__law_draw) hr.units PassesOwn.never n_range),hm,F.kp,b⟩
theorem ok__law_world (F:Fun K "_law_world" "_law_world" zCZ f fd) (hm:mg "_law_world"=some (.ref f)) (b:Binds K fd ["script", "at", "most"] []) (n_range:mg "range"=none) (n_int:mg "int"=none) (c__law_cell_at:DefOk P w K mg base 1 "_law_cell_at" 2 zAO) (c__law_draw:DefOk P w K mg base 1 "_law_draw" 3 zAK):DefOk P w K mg base 2 "_law_world" 3 m__law_world:=
 ⟨f,fd,["script", "at", "most"],zA1 F sc__law_world (k:=1) (fun cdv A outer s H E hr=>bd__law_world (Cp.fn cp__law_world nm__law_world) hr.units PassesOwn.never n_range n_int (c__law_cell_at.cal hr rfl) (c__law_draw.cal hr rfl)),hm,F.kp,b⟩
theorem ok__law_few (F:Fun K "_law_few" "_law_few" zEW f fd) (hm:mg "_law_few"=some (.ref f)) (b:Binds K fd ["cell", "many"] []) (n_range:mg "range"=none) (c__law_draw:DefOk P w K mg base 1 "_law_draw" 3 zAK):DefOk P w K mg base 2 "_law_few" 2 zGD:=
 ⟨f,fd,["cell", "many"],zA1 F sc__law_few (k:=1) (fun cdv A outer s H E hr=>bd__law_few (Cp.fn cp__law_few nm__law_few) hr.units PassesOwn.never n_range (c__law_draw.cal hr rfl)),hm,F.kp,b⟩
theorem ok__law_plan (F:Fun K "_law_plan" "_law_plan" zDV f fd) (hm:mg "_law_plan"=some (.ref f)) (b:Binds K fd ["world", "player", "cell", "some"] []) (n_len:mg "len"=none) (n_range:mg "range"=none) (c__law_draw:DefOk P w K mg base 1 "_law_draw" 3 zAK):DefOk P w K mg base 2 "_law_plan" 4 zDY:=
 ⟨f,fd,["world", "player", "cell", "some"],zA1 F sc__law_plan (k:=1) (fun cdv A outer s H E hr=>bd__law_plan (Cp.fn cp__law_plan nm__law_plan) hr.units PassesOwn.never n_len n_range (c__law_draw.cal hr rfl)),hm,F.kp,b⟩
theorem ok__law_longest (F:Fun K "_law_longest" "_law_longest" zBX f fd) (hm:mg "_law_longest"=some (.ref f)) (b:Binds K fd ["world", "rooms", "room", "most"] []) (n_range:mg "range"=none) (n_sorted:mg "sorted"=none) (n_set:mg "set"=none):DefOk P w K mg base 1 "_law_longest" 4 zBO:=
 ⟨f,fd,["world", "rooms", "room", "most"],zA1 F sc__law_longest (k:=0) (fun cdv A outer s H E hr=>bd__law_longest (Cp.fn cp__law_longest nm__law_longest) hr.units PassesOwn.never n_range n_sorted n_set),hm,F.kp,b⟩
theorem ok__law_filled (F:Fun K "_law_filled" "_law_filled" zCB f fd) (hm:mg "_law_filled"=some (.ref f)) (b:Binds K fd ["world", "player", "plan"] []) (n_list:mg "list"=none) (n_len:mg "len"=none) (n_range:mg "range"=none):DefOk P w K mg base 1 "_law_filled" 3 zCE:=
 ⟨f,fd,["world", "player", "plan"],zA1 F sc__law_filled (k:=0) (fun cdv A outer s H E hr=>bd__law_filled (Cp.fn cp__law_filled nm__law_filled) hr.units PassesOwn.never n_list n_len n_range),hm,F.kp,b⟩
end
abbrev Gt (K:Fg) (n:Str) (s:Stmt) (f:Addr):Prop:=PySem.W.nsIn K mainGlobals n=some (some (.ref f))/\∃fd,Fun K n n s f fd
theorem gt {K:Fg} {n:Str} {s:Stmt} {f:Addr} {od an:Option Addr} {sl:Array (Option Value)} {oc kV dc pm cd ct:Value} (a:PySem.W.nsIn K mainGlobals n=some (some (.ref f))) (l:K.lookup f=some ⟨oc,od,.func (PySem.W.fnOf n n (zGO s) (zAQ s) (zAH s) .none kV dc pm an cd ct),sl⟩) (c:PySem.W.codeIn K cd n=true) (k:PySem.W.keepIn K (.ref f)=true):Gt K n s f:=⟨a,_,fun_mk (st:=s) l c k⟩
theorem all_mk {l:PySem.W.OpenLaw} {w:World} {K:Fg} {h:Heap} {mg:Str->Option Value} {fa:Addr} (X:K.In h) (G:h.Ns mainGlobals mg) (hfa:mg "law"=some (.ref fa))
  {f0:Addr} (q0:Gt K "is_led" zG0 f0)
  {f1:Addr} (q1:Gt K "is_lower" zEV f1)
  {f2:Addr} (q2:Gt K "lower_steps" zB8 f2)
  {f3:Addr} (q3:Gt K "ranked_next" zB6 f3)
  {f4:Addr} (q4:Gt K "ranks_to" zET f4)
  {f5:Addr} (q5:Gt K "is_rising" zDR f5)
  {f6:Addr} (q6:Gt K "are_marks" zDU f6)
  {f7:Addr} (q7:Gt K "are_rooms" zDT f7)
  {f8:Addr} (q8:Gt K "are_steps" zDS f8)
  {f9:Addr} (q9:Gt K "is_world" zEU f9)
  {f10:Addr} (q10:Gt K "check_world" zB9 f10)
  {f11:Addr} (q11:Gt K "check_player" zBW f11)
  {f12:Addr} (q12:Gt K "check_room" zCX f12)
  {f13:Addr} (q13:Gt K "check_rooms" zCA f13)
  {f14:Addr} (q14:Gt K "other_rooms" zB7 f14)
  {f15:Addr} (q15:Gt K "way_along" zDQ f15)
  {f16:Addr} (q16:Gt K "other_player" zBV f16)
  {f17:Addr} (q17:Gt K "is_plan_of" zCV f17)
  {f18:Addr} (q18:Gt K "check_plan" zCY f18)
  {f19:Addr} (q19:Gt K "follow" zG1 f19)
  {f20:Addr} (q20:Gt K "way_by" zGZ f20)
  {f21:Addr} (q21:Gt K "plan_of" zFP f21)
  {f22:Addr} (q22:Gt K "check_told" zCW f22)
  {f23:Addr} (q23:Gt K "brought" zFQ f23)
  {f24:Addr} (q24:Gt K "bring" zH1 f24)
  {f25:Addr} (q25:Gt K "rooms_without" zBP f25)
  {f26:Addr} (q26:Gt K "steps_within" zBU f26)
  {f27:Addr} (q27:Gt K "keep" zJJ f27)
  {f28:Addr} (q28:Gt K "_law_cell_at" zBY f28)
  {f29:Addr} (q29:Gt K "_law_draw" zDW f29)
  {f30:Addr} (q30:Gt K "_law_world" zCZ f30)
  {f31:Addr} (q31:Gt K "_law_few" zEW f31)
  {f32:Addr} (q32:Gt K "_law_plan" zDV f32)
  {f33:Addr} (q33:Gt K "_law_longest" zBX f33)
  {f34:Addr} (q34:Gt K "_law_filled" zCB f34)
  {f35:Addr} {od35 an35:Option Addr} {sl35:Array (Option Value)} {oc35 kV35 dc35 pm35 cd35 ct35:Value} (a35:PySem.W.nsIn K mainGlobals "law"=some (some (.ref f35))) (l35:K.lookup f35=some ⟨oc35,od35,.func (PySem.W.fnOf "law" "law" (zGO s_law) (zAQ s_law) (zAH s_law) .none kV35 dc35 pm35 an35 cd35 ct35),sl35⟩) (c35:PySem.W.codeIn K cd35 "law"=true) (k35:PySem.W.keepIn K (.ref f35)=true)
  (z_any:PySem.W.nsIn K mainGlobals "any"=some none)
  (z_all:PySem.W.nsIn K mainGlobals "all"=some none)
  (z_len:PySem.W.nsIn K mainGlobals "len"=some none)
  (z_range:PySem.W.nsIn K mainGlobals "range"=some none)
  (z_enumerate:PySem.W.nsIn K mainGlobals "enumerate"=some none)
  (z_list:PySem.W.nsIn K mainGlobals "list"=some none)
  (z_zip:PySem.W.nsIn K mainGlobals "zip"=some none)
  (z_int:PySem.W.nsIn K mainGlobals "int"=some none)
  (z_sorted:PySem.W.nsIn K mainGlobals "sorted"=some none)
  (z_set:PySem.W.nsIn K mainGlobals "set"=some none)
  {g_LETTERS:Addr} {d_LETTERS:Option Addr} {i_LETTERS:Array Value} {n_LETTERS:Nat} {s_LETTERS:Array (Option Value)} (e_LETTERS:PySem.W.nsIn K mainGlobals "LETTERS"=some (some (.ref g_LETTERS))) (q_LETTERS:K.lookup g_LETTERS=some ⟨.type "tuple",d_LETTERS,.seq i_LETTERS n_LETTERS,s_LETTERS⟩) (v_LETTERS:chkT i_LETTERS [.str "a",.str "b",.str "c",.str "d",.str "e",.str "f"]=true)
  {t_MOST_ROOMS:Tok} (e_MOST_ROOMS:PySem.W.nsIn K mainGlobals "MOST_ROOMS"=some (some (.int 24 t_MOST_ROOMS)))
  {g_PLAYERS:Addr} {d_PLAYERS:Option Addr} {i_PLAYERS:Array Value} {n_PLAYERS:Nat} {s_PLAYERS:Array (Option Value)} (e_PLAYERS:PySem.W.nsIn K mainGlobals "PLAYERS"=some (some (.ref g_PLAYERS))) (q_PLAYERS:K.lookup g_PLAYERS=some ⟨.type "tuple",d_PLAYERS,.seq i_PLAYERS n_PLAYERS,s_PLAYERS⟩) (v_PLAYERS:chkT i_PLAYERS [.int 0,.int 1]=true) :
  ∃fd:FuncData,(∀(s:Shared) (v:Value),BindsTo s fd ⟨[v],[]⟩ [("script",v)])/\∀base:Heap,K.In base->base.Ns mainGlobals mg->FnOk l.prog w K mg base CX0 8 fa fd ["script"] (spD K 1 m_law):=by
 have e:=hfa.symm.trans (PySem.W.mg_of X G a35)
 cases e
 obtain ⟨_,F0⟩:=q0.2
 have b0:=F0.binds (ps:=["is_chosen", "by_steps"]) fun _ _ _ _ _ _ us hl=>match us,hl with | [_,_],_=>rfl
 have m0:=PySem.W.mg_of X G q0.1
 obtain ⟨_,F1⟩:=q1.2
 have b1:=F1.binds (ps:=["rank", "other"]) fun _ _ _ _ _ _ us hl=>match us,hl with | [_,_],_=>rfl
 have m1:=PySem.W.mg_of X G q1.1
 obtain ⟨_,F2⟩:=q2.2
 have b2:=F2.binds (ps:=["world", "ranks", "room"]) fun _ _ _ _ _ _ us hl=>match us,hl with | [_,_,_],_=>rfl
 have m2:=PySem.W.mg_of X G q2.1
 obtain ⟨_,F3⟩:=q3.2
 have b3:=F3.binds (ps:=["world", "chosen", "through", "ranks"]) fun _ _ _ _ _ _ us hl=>match us,hl with | [_,_,_,_],_=>rfl
 have m3:=PySem.W.mg_of X G q3.1
 obtain ⟨_,F4⟩:=q4.2
 have b4:=F4.binds (ps:=["world", "chosen", "through", "goal"]) fun _ _ _ _ _ _ us hl=>match us,hl with | [_,_,_,_],_=>rfl
 have m4:=PySem.W.mg_of X G q4.1
 obtain ⟨_,F5⟩:=q5.2
 have b5:=F5.binds (ps:=["entries"]) fun _ _ _ _ _ _ us hl=>match us,hl with | [_],_=>rfl
 have m5:=PySem.W.mg_of X G q5.1
 obtain ⟨_,F6⟩:=q6.2
 have b6:=F6.binds (ps:=["entries"]) fun _ _ _ _ _ _ us hl=>match us,hl with | [_],_=>rfl
 have m6:=PySem.W.mg_of X G q6.1
 obtain ⟨_,F7⟩:=q7.2
 have b7:=F7.binds (ps:=["entries", "size"]) fun _ _ _ _ _ _ us hl=>match us,hl with | [_,_],_=>rfl
 have m7:=PySem.W.mg_of X G q7.1
 obtain ⟨_,F8⟩:=q8.2
 have b8:=F8.binds (ps:=["entries", "size"]) fun _ _ _ _ _ _ us hl=>match us,hl with | [_,_],_=>rfl
 have m8:=PySem.W.mg_of X G q8.1
 obtain ⟨_,F9⟩:=q9.2
 have b9:=F9.binds (ps:=["owners", "marks", "steps"]) fun _ _ _ _ _ _ us hl=>match us,hl with | [_,_,_],_=>rfl
 have m9:=PySem.W.mg_of X G q9.1
 obtain ⟨_,F10⟩:=q10.2
 have b10:=F10.binds (ps:=["world"]) fun _ _ _ _ _ _ us hl=>match us,hl with | [_],_=>rfl
 have m10:=PySem.W.mg_of X G q10.1
 obtain ⟨_,F11⟩:=q11.2
 have b11:=F11.binds (ps:=["player"]) fun _ _ _ _ _ _ us hl=>match us,hl with | [_],_=>rfl
 have m11:=PySem.W.mg_of X G q11.1
 obtain ⟨_,F12⟩:=q12.2
 have b12:=F12.binds (ps:=["world", "room"]) fun _ _ _ _ _ _ us hl=>match us,hl with | [_,_],_=>rfl
 have m12:=PySem.W.mg_of X G q12.1
 obtain ⟨_,F13⟩:=q13.2
 have b13:=F13.binds (ps:=["world", "rooms"]) fun _ _ _ _ _ _ us hl=>match us,hl with | [_,_],_=>rfl
 have m13:=PySem.W.mg_of X G q13.1
 obtain ⟨_,F14⟩:=q14.2
 have b14:=F14.binds (ps:=["world", "rooms"]) fun _ _ _ _ _ _ us hl=>match us,hl with | [_,_],_=>rfl
 have m14:=PySem.W.mg_of X G q14.1
 obtain ⟨_,F15⟩:=q15.2
 have b15:=F15.binds (ps:=["choices", "room"]) fun _ _ _ _ _ _ us hl=>match us,hl with | [_,_],_=>rfl
 have m15:=PySem.W.mg_of X G q15.1
 obtain ⟨_,F16⟩:=q16.2
 have b16:=F16.binds (ps:=["player"]) fun _ _ _ _ _ _ us hl=>match us,hl with | [_],_=>rfl
 have m16:=PySem.W.mg_of X G q16.1
 obtain ⟨_,F17⟩:=q17.2
 have b17:=F17.binds (ps:=["world", "player", "plan"]) fun _ _ _ _ _ _ us hl=>match us,hl with | [_,_,_],_=>rfl
 have m17:=PySem.W.mg_of X G q17.1
 obtain ⟨_,F18⟩:=q18.2
 have b18:=F18.binds (ps:=["world", "player", "plan"]) fun _ _ _ _ _ _ us hl=>match us,hl with | [_,_,_],_=>rfl
 have m18:=PySem.W.mg_of X G q18.1
 obtain ⟨_,F19⟩:=q19.2
 have b19:=F19.binds (ps:=["world", "player", "plan"]) fun _ _ _ _ _ _ us hl=>match us,hl with | [_,_,_],_=>rfl
 have m19:=PySem.W.mg_of X G q19.1
 obtain ⟨_,F20⟩:=q20.2
 have b20:=F20.binds (ps:=["world", "plan", "counter", "room"]) fun _ _ _ _ _ _ us hl=>match us,hl with | [_,_,_,_],_=>rfl
 have m20:=PySem.W.mg_of X G q20.1
 obtain ⟨_,F21⟩:=q21.2
 have b21:=F21.binds (ps:=["world", "player", "will_do"]) fun _ _ _ _ _ _ us hl=>match us,hl with | [_,_,_],_=>rfl
 have m21:=PySem.W.mg_of X G q21.1
 obtain ⟨_,F22⟩:=q22.2
 have b22:=F22.binds (ps:=["world", "player", "rooms"]) fun _ _ _ _ _ _ us hl=>match us,hl with | [_,_,_],_=>rfl
 have m22:=PySem.W.mg_of X G q22.1
 obtain ⟨_,F23⟩:=q23.2
 have b23:=F23.binds (ps:=["world", "player", "rooms"]) fun _ _ _ _ _ _ us hl=>match us,hl with | [_,_,_],_=>rfl
 have m23:=PySem.W.mg_of X G q23.1
 obtain ⟨_,F24⟩:=q24.2
 have b24:=F24.binds (ps:=["world", "player", "rooms"]) fun _ _ _ _ _ _ us hl=>match us,hl with | [_,_,_],_=>rfl
 have m24:=PySem.W.mg_of X G q24.1
 obtain ⟨_,F25⟩:=q25.2
 have b25:=F25.binds (ps:=["ranks"]) fun _ _ _ _ _ _ us hl=>match us,hl with | [_],_=>rfl
 have m25:=PySem.W.mg_of X G q25.1
 obtain ⟨_,F26⟩:=q26.2
 have b26:=F26.binds (ps:=["world", "rooms", "room"]) fun _ _ _ _ _ _ us hl=>match us,hl with | [_,_,_],_=>rfl
 have m26:=PySem.W.mg_of X G q26.1
 obtain ⟨_,F27⟩:=q27.2
 have b27:=F27.binds (ps:=["world", "player", "rooms"]) fun _ _ _ _ _ _ us hl=>match us,hl with | [_,_,_],_=>rfl
 have m27:=PySem.W.mg_of X G q27.1
 obtain ⟨_,F28⟩:=q28.2
 have b28:=F28.binds (ps:=["script", "k"]) fun _ _ _ _ _ _ us hl=>match us,hl with | [_,_],_=>rfl
 have m28:=PySem.W.mg_of X G q28.1
 obtain ⟨_,F29⟩:=q29.2
 have b29:=F29.binds (ps:=["cell", "k", "bound"]) fun _ _ _ _ _ _ us hl=>match us,hl with | [_,_,_],_=>rfl
 have m29:=PySem.W.mg_of X G q29.1
 obtain ⟨_,F30⟩:=q30.2
 have b30:=F30.binds (ps:=["script", "at", "most"]) fun _ _ _ _ _ _ us hl=>match us,hl with | [_,_,_],_=>rfl
 have m30:=PySem.W.mg_of X G q30.1
 obtain ⟨_,F31⟩:=q31.2
 have b31:=F31.binds (ps:=["cell", "many"]) fun _ _ _ _ _ _ us hl=>match us,hl with | [_,_],_=>rfl
 have m31:=PySem.W.mg_of X G q31.1
 obtain ⟨_,F32⟩:=q32.2
 have b32:=F32.binds (ps:=["world", "player", "cell", "some"]) fun _ _ _ _ _ _ us hl=>match us,hl with | [_,_,_,_],_=>rfl
 have m32:=PySem.W.mg_of X G q32.1
 obtain ⟨_,F33⟩:=q33.2
 have b33:=F33.binds (ps:=["world", "rooms", "room", "most"]) fun _ _ _ _ _ _ us hl=>match us,hl with | [_,_,_,_],_=>rfl
 have m33:=PySem.W.mg_of X G q33.1
 obtain ⟨_,F34⟩:=q34.2
 have b34:=F34.binds (ps:=["world", "player", "plan"]) fun _ _ _ _ _ _ us hl=>match us,hl with | [_,_,_],_=>rfl
 have m34:=PySem.W.mg_of X G q34.1
 have F35:=fun_mk (st:=s_law) l35 c35 k35
 have b35:=F35.binds (ps:=["script"]) fun _ _ _ _ _ _ us hl=>match us,hl with | [_],_=>rfl
 have m35:=PySem.W.mg_of X G a35
 have n_any:=PySem.W.mg_none_of X G z_any
 have n_all:=PySem.W.mg_none_of X G z_all
 have n_len:=PySem.W.mg_none_of X G z_len
 have n_range:=PySem.W.mg_none_of X G z_range
 have n_enumerate:=PySem.W.mg_none_of X G z_enumerate
 have n_list:=PySem.W.mg_none_of X G z_list
 have n_zip:=PySem.W.mg_none_of X G z_zip
 have n_int:=PySem.W.mg_none_of X G z_int
 have n_sorted:=PySem.W.mg_none_of X G z_sorted
 have n_set:=PySem.W.mg_none_of X G z_set
 have h_LETTERS:ConK K mg "LETTERS" zCF:=con_tup (PySem.W.mg_of X G e_LETTERS) q_LETTERS v_LETTERS
 have h_MOST_ROOMS:ConK K mg "MOST_ROOMS" zC4:=con_int (PySem.W.mg_of X G e_MOST_ROOMS)
 have h_PLAYERS:ConK K mg "PLAYERS" zBG:=con_tup (PySem.W.mg_of X G e_PLAYERS) q_PLAYERS v_PLAYERS
 refine ⟨PySem.W.fnOf "law" "law" (zGO s_law) (zAQ s_law) (zAH s_law) .none kV35 dc35 pm35 an35 cd35 ct35,fun s v=>.of_eq rfl,fun base _ _=>?_⟩
 have o_is_led:=ok_is_led (P:=l.prog) (w:=w) (base:=base) F0 m0 b0 n_any n_all
 have o_is_lower:=ok_is_lower (P:=l.prog) (w:=w) (base:=base) F1 m1 b1
 have o_lower_steps:=ok_lower_steps (P:=l.prog) (w:=w) (base:=base) F2 m2 b2 o_is_lower
 have o_ranked_next:=ok_ranked_next (P:=l.prog) (w:=w) (base:=base) F3 m3 b3 o_is_led
 have o_ranks_to:=ok_ranks_to (P:=l.prog) (w:=w) (base:=base) F4 m4 b4 o_ranked_next
 have o_is_rising:=ok_is_rising (P:=l.prog) (w:=w) (base:=base) F5 m5 b5 n_len n_range n_all
 have o_are_marks:=ok_are_marks (P:=l.prog) (w:=w) (base:=base) F6 m6 b6 n_all o_is_rising h_LETTERS
 have o_are_rooms:=ok_are_rooms (P:=l.prog) (w:=w) (base:=base) F7 m7 b7 n_all o_is_rising
 have o_are_steps:=ok_are_steps (P:=l.prog) (w:=w) (base:=base) F8 m8 b8 n_len o_are_rooms
 have o_is_world:=ok_is_world (P:=l.prog) (w:=w) (base:=base) F9 m9 b9 n_len n_all o_are_marks o_are_steps h_MOST_ROOMS h_PLAYERS
 have o_check_world:=ok_check_world (P:=l.prog) (w:=w) (base:=base) F10 m10 b10 o_is_world
 have o_check_player:=ok_check_player (P:=l.prog) (w:=w) (base:=base) F11 m11 b11 h_PLAYERS
 have o_check_room:=ok_check_room (P:=l.prog) (w:=w) (base:=base) F12 m12 b12 n_len
 have o_check_rooms:=ok_check_rooms (P:=l.prog) (w:=w) (base:=base) F13 m13 b13 n_len o_are_rooms
 have o_other_rooms:=ok_other_rooms (P:=l.prog) (w:=w) (base:=base) F14 m14 b14 n_len n_range
 have o_way_along:=ok_way_along (P:=l.prog) (w:=w) (base:=base) F15 m15 b15
 have o_other_player:=ok_other_player (P:=l.prog) (w:=w) (base:=base) F16 m16 b16
 have o_is_plan_of:=ok_is_plan_of (P:=l.prog) (w:=w) (base:=base) F17 m17 b17 n_len n_enumerate n_all
 have o_check_plan:=ok_check_plan (P:=l.prog) (w:=w) (base:=base) F18 m18 b18 o_is_plan_of
 have o_follow:=ok_follow (P:=l.prog) (w:=w) (base:=base) F19 m19 b19 n_enumerate n_list o_check_world o_check_player o_check_plan
 have o_way_by:=ok_way_by (P:=l.prog) (w:=w) (base:=base) F20 m20 b20 n_zip o_check_world o_check_room o_check_plan o_way_along
 have o_plan_of:=ok_plan_of (P:=l.prog) (w:=w) (base:=base) F21 m21 b21 n_enumerate
 have o_check_told:=ok_check_told (P:=l.prog) (w:=w) (base:=base) F22 m22 b22 o_check_world o_check_player o_check_rooms
 have o_brought:=ok_brought (P:=l.prog) (w:=w) (base:=base) F23 m23 b23 n_len n_list n_range o_ranks_to o_plan_of o_lower_steps
 have o_bring:=ok_bring (P:=l.prog) (w:=w) (base:=base) F24 m24 b24 o_check_told o_brought
 have o_rooms_without:=ok_rooms_without (P:=l.prog) (w:=w) (base:=base) F25 m25 b25 n_enumerate
 have o_steps_within:=ok_steps_within (P:=l.prog) (w:=w) (base:=base) F26 m26 b26
 have o_keep:=ok_keep (P:=l.prog) (w:=w) (base:=base) F27 m27 b27 n_len n_range o_check_told o_brought o_other_player o_other_rooms o_rooms_without o_plan_of o_steps_within
 have o__law_cell_at:=ok__law_cell_at (P:=l.prog) (w:=w) (base:=base) F28 m28 b28 n_len
 have o__law_draw:=ok__law_draw (P:=l.prog) (w:=w) (base:=base) F29 m29 b29 n_range
 have o__law_world:=ok__law_world (P:=l.prog) (w:=w) (base:=base) F30 m30 b30 n_range n_int o__law_cell_at o__law_draw
 have o__law_few:=ok__law_few (P:=l.prog) (w:=w) (base:=base) F31 m31 b31 n_range o__law_draw
 have o__law_plan:=ok__law_plan (P:=l.prog) (w:=w) (base:=base) F32 m32 b32 n_len n_range o__law_draw
 have o__law_longest:=ok__law_longest (P:=l.prog) (w:=w) (base:=base) F33 m33 b33 n_range n_sorted n_set
 have o__law_filled:=ok__law_filled (P:=l.prog) (w:=w) (base:=base) F34 m34 b34 n_list n_len n_range
 exact zA1 (k:=7) F35 sc_law (fun cdv A outer s H E hr=>bd_law (Cp.fn cp_law nm_law) hr.units PassesOwn.never n_len n_range (o__law_world.cal hr rfl) (o__law_draw.cal hr rfl) (o__law_cell_at.cal hr rfl) (o__law_few.cal hr rfl) (o_bring.cal hr rfl) (o_keep.cal hr rfl) (o_follow.cal hr rfl) (o__law_filled.cal hr rfl) (o__law_plan.cal hr rfl) (o__law_longest.cal hr rfl) (o_way_by.cal hr rfl))
theorem walk {l:PySem.W.OpenLaw} {q:Program} {loose:List Str} {XP:(Str->Option Value)->Heap->Prop} {YP:World->Heap->Prop} {d:DefRec} {K:Params->Fg} (hn:l.most=some 63) (hdf:d.params.defaults=[])
  (hY:∀(w:World) (h:Heap),YP w h->(K w.params).In h)
  (F:∀(w:World) (mg:Str->Option Value) (fa:Addr) (h:Heap),(K w.params).In h->h.Ns mainGlobals mg->mg d.name=some (.ref fa) ->
   ∃fd:FuncData,(∀(s:Shared) (u:Value),BindsTo s fd ⟨[u],[]⟩ [("script",u)])/\∀base:Heap,(K w.params).In base->base.Ns mainGlobals mg->FnOk l.prog w (K w.params) mg base CX0 8 fa fd ["script"] (spD (K w.params) 1 m_law)) :
  PySem.W.WalkO q loose XP YP l.row.toRowW d [] (fun f vs=>PySem.call f vs):=
 L2.walk_of (n:=63) (k:=8) (x := "script") (CX:=fun _=>CX0) (sp:=fun w=>spD (K w.params) 1 m_law) hn (by decide) hdf ⟨rfl,by decide,by decide⟩ hY F (fun _ _ a ns hl _ hS=>law_sp (law_true ns hl) hS) fun _ _ _ _ _ z=>z
end KQ
open PySem PySem.W PyProof.Rows
def PySem.W.Fast.tw3994397296503225702:=0
def PySem.W.Fast.tw7891951789942041959:=0
def PySem.W.Fast.tw11019463831287796203:=0
def PySem.W.Fast.tw14086879699974746125:=0
def PySem.W.Fast.tw15543322733831180269:=0
def PySem.W.Fast.tw14359228363239291534:=0
def PySem.W.Fast.tw18256010052337313486:=0
def PySem.W.Fast.tw16632153268765702417:=0
def PySem.W.Fast.tw17268203956404754292:=0
def PySem.W.Fast.tw315915179599551861:=0
def PySem.W.Fast.tw14128850352798912277:=0
def PySem.W.Fast.tw5377396822802863867:=0
def PySem.W.Fast.tw11945390559066342940:=0
set_option maxRecDepth 100000 in
set_option maxHeartbeats 0 in
theorem PySem.Challenge.cw_foreseehall_k66_whole_no_way_gets_by_a_p_holds : PySem.Challenge.rw_foreseehall_k66_whole_no_way_gets_by_a_p.Holds := by
 w_on;o_law;k_head;(case hw=>w_witness2)
 k_fill
 refine KQ.walk (l:=PySem.Challenge.rw_foreseehall_k66_whole_no_way_gets_by_a_p) rfl rfl (fun w h Y=>PySem.W.kIn_of Y) ?F
 case F=>
  intro w mg fa h KX G hmg
  refine' KQ.all_mk KX G hmg (KQ.gt ?a0 ?l0 ?c0 ?k0) (KQ.gt ?a1 ?l1 ?c1 ?k1) (KQ.gt ?a2 ?l2 ?c2 ?k2) (KQ.gt ?a3 ?l3 ?c3 ?k3) (KQ.gt ?a4 ?l4 ?c4 ?k4) (KQ.gt ?a5 ?l5 ?c5 ?k5) (KQ.gt ?a6 ?l6 ?c6 ?k6) (KQ.gt ?a7 ?l7 ?c7 ?k7) (KQ.gt ?a8 ?l8 ?c8 ?k8) (KQ.gt ?a9 ?l9 ?c9 ?k9) (KQ.gt ?a10 ?l10 ?c10 ?k10) (KQ.gt ?a11 ?l11 ?c11 ?k11) (KQ.gt ?a12 ?l12 ?c12 ?k12) (KQ.gt ?a13 ?l13 ?c13 ?k13) (KQ.gt ?a14 ?l14 ?c14 ?k14) (KQ.gt ?a15 ?l15 ?c15 ?k15) (KQ.gt ?a16 ?l16 ?c16 ?k16) (KQ.gt ?a17 ?l17 ?c17 ?k17) (KQ.gt ?a18 ?l18 ?c18 ?k18) (KQ.gt ?a19 ?l19 ?c19 ?k19) (KQ.gt ?a20 ?l20 ?c20 ?k20) (KQ.gt ?a21 ?l21 ?c21 ?k21) (KQ.gt ?a22 ?l22 ?c22 ?k22) (KQ.gt ?a23 ?l23 ?c23 ?k23) (KQ.gt ?a24 ?l24 ?c24 ?k24) (KQ.gt ?a25 ?l25 ?c25 ?k25) (KQ.gt ?a26 ?l26 ?c26 ?k26) (KQ.gt ?a27 ?l27 ?c27 ?k27) (KQ.gt ?a28 ?l28 ?c28 ?k28) (KQ.gt ?a29 ?l29 ?c29 ?k29) (KQ.gt ?a30 ?l30 ?c30 ?k30) (KQ.gt ?a31 ?l31 ?c31 ?k31) (KQ.gt ?a32 ?l32 ?c32 ?k32) (KQ.gt ?a33 ?l33 ?c33 ?k33) (KQ.gt ?a34 ?l34 ?c34 ?k34) ?a35 ?l35 ?c35 ?k35 ?z_any ?z_all ?z_len ?z_range ?z_enumerate ?z_list ?z_zip ?z_int ?z_sorted ?z_set ?e_LETTERS ?q_LETTERS ?v_LETTERS ?e_MOST_ROOMS ?e_PLAYERS ?q_PLAYERS ?v_PLAYERS
  all_goals try first | k_is | kernel_rfl | rfl
