import PyProof.Rows.All
import Wide.All
import OpenK.AllK
import Wide.FinOn
import PyProof.EqAt
import PyProof.EqKinds
import PyProof.TupleCall
import PyProof.StrBlockH
import PyProof.StrWalks
import PyProof.StrCalls
import PyProof.SetRoads
import PyProof.DictRoadsH
import Lean
import PySem.Challenge.RW_foreseehall_k44_rows_that_show_unlikenes
open List (mem_append_right mem_append_left getElem?_eq_getElem length_map mem_cons_of_mem getElem?_map append_assoc mem_cons_self mem_of_getElem? length_set size_toArray getD_eq_getElem?_getD map_map map_cons map_append getElem?_set_ne getElem_mem getElem?_set_self getElem?_append_left all_eq_true set_set length_append nodup_nil length_take getElem?_append_right lookup_cons length_cons take_succ any_eq_true append_nil flatten_cons mem_cons not_mem_nil nil_append take_of_length_le length_singleton perm_append_comm getElem_of_mem contains_iff_mem length_eraseIdx getElem?_replicate drop_eq_getElem_cons mem_map filter_cons find?_cons getElem?_eq_none map_inj_right take_length find?_append filterMap_cons length_drop length_dropLast getElem?_set ext_getElem? mem_range length_filter_le map_congr_left filter_append take_append_drop)
set_option Elab.async false
set_option linter.all false
set_option maxRecDepth 100000
set_option maxHeartbeats 4000000
set_option maxRecDepth 10000
abbrev Fg:=PySem.W.Frag
abbrev sTm (i:Nat):PySem.Stmt:=(PySem.Challenge.pw_foreseehall_k44_rows_that_show_unlikenes.main.body)[i]!
namespace L2
open PySem PySem.Spec PyProof.Rows
variable {us:List Value} {u:Value} {a b it dx:Addr} {α:Type} {o:Obj} {g':Array GenState} {t' n:Nat} {d':Drawn} {ch fp:List Addr} {x qual:Str} {e c tg l:Expr} {N ps:List Str} {M:Model} {A:Around} {s':Shared} {pos:Pos} {pins:List (Addr×Obj)} {K:Fg} {es:List Expr} {lo:Int} {g:Int->Int->Int} {op':CmpOp} {mA mg:Str->Option Value} {base:Heap} {scope:Scope}
abbrev Key:=Sum Int Str
def keyIs:Key->Value->Bool
 | .inl k,v=>Value.isInt k v
 | .inr x,v=>Value.isStrOf x v
def keyH (w:World):Key->Int
 | .inl k=>hashInt k
 | .inr x=>hashStr w x
theorem zA6:∀{k:Key} {v:Value},keyIs k v=true->(∃i t,k=Sum.inl i/\v=Value.int i t)\/(∃x t,k=Sum.inr x/\v=Value.str x t)
 | .inl i,v,h=>by
  obtain ⟨t,e⟩:=Value.isInt_shape (k:=i) (v:=v) h
  exact .inl ⟨i,t,rfl,e⟩
 | .inr x,v,h=>by
  obtain ⟨t,e⟩:=Value.isStrOf_shape (x:=x) (v:=v) h
  exact .inr ⟨x,t,rfl,e⟩
theorem keyIs_int (i:Int) (t:Tok):keyIs (.inl i) (.int i t)=true:=by simp [keyIs,Value.isInt]
theorem keyIs_str (x:Str) (t:Tok):keyIs (.inr x) (.str x t)=true:=by simp [keyIs,Value.isStrOf]
theorem key_ll (a b:Int):decide ((Sum.inl a:Key)=Sum.inl b)=(a==b):=by
 by_cases e:a=b
 ·subst e;simp
 ·have h:¬(Sum.inl a:Key)=Sum.inl b:=fun q=>e (Sum.inl.inj q)
  rw [decide_eq_false h]
  exact (beq_eq_false_iff_ne.mpr e).symm
theorem key_rr (a b:Str):decide ((Sum.inr a:Key)=Sum.inr b)=decide (a=b):=by
 by_cases e:a=b
 ·subst e;simp
 ·have h:¬(Sum.inr a:Key)=Sum.inr b:=fun q=>e (Sum.inr.inj q)
  rw [decide_eq_false h,decide_eq_false e]
theorem key_lr (a:Int) (b:Str):decide ((Sum.inl a:Key)=Sum.inr b)=false:=decide_eq_false (fun q=>nomatch q)
theorem key_rl (a:Str) (b:Int):decide ((Sum.inr a:Key)=Sum.inl b)=false:=decide_eq_false (fun q=>nomatch q)
def zBC (prog:Program) (w:World):PySem.KeyKind prog w Key where
 is:=keyIs
 hash:=keyH w
 inj:=fun v a b ha hb=>by
  rcases zA6 ha with ⟨i,t,rfl,rfl⟩ | ⟨x,t,rfl,rfl⟩
  ·rcases zA6 hb with ⟨j,u,rfl,e⟩ | ⟨y,u,rfl,e⟩
   ·injection e with e1 _;rw [e1]
   ·exact nomatch e
  ·rcases zA6 hb with ⟨j,u,rfl,e⟩ | ⟨y,u,rfl,e⟩
   ·exact nomatch e
   ·injection e with e1 _;rw [e1]
 byValue:=fun k v h=>by
  rcases zA6 h with ⟨i,t,rfl,rfl⟩ | ⟨x,t,rfl,rfl⟩<;>rfl
 pyHash:=fun hv h=>by
  rcases zA6 hv with ⟨i,t,rfl,rfl⟩ | ⟨x,t,rfl,rfl⟩
  ·exact wpAny_pyHash_int h
  ·exact wpAny_pyHash_str h
 eqBool:=fun hu hv h=>by
  rcases zA6 hu with ⟨i,t,rfl,rfl⟩ | ⟨x,t,rfl,rfl⟩
  ·rcases zA6 hv with ⟨j,u,rfl,rfl⟩ | ⟨y,u,rfl,rfl⟩
   ·rw [key_ll] at h;exact wpAny_eqBool_int h
   ·rw [key_lr] at h;exact SeqAt.EqAt.int_str i t y u _ _ _ _ h
  ·rcases zA6 hv with ⟨j,u,rfl,rfl⟩ | ⟨y,u,rfl,rfl⟩
   ·rw [key_rl] at h;exact SeqAt.EqAt.str_int x t j u _ _ _ _ h
   ·rw [key_rr] at h;exact wpAny_eqBool_str h
 «strs»:=fun k x t v h=>by
  rcases zA6 h with ⟨i,u,rfl,e⟩ | ⟨y,u,rfl,e⟩
  ·exact nomatch e
  ·injection e with e1 _
   subst e1
   cases v<;>rfl
theorem mixKind_int (prog:Program) (w:World) (i:Int) (t:Tok):(zBC prog w).is (.inl i) (.int i t)=true:=keyIs_int i t
theorem mixKind_str (prog:Program) (w:World) (x:Str) (t:Tok):(zBC prog w).is (.inr x) (.str x t)=true:=keyIs_str x t
inductive V where
 | non | bl (b:Bool) | int (i:Int) | str (x:Str) | byt (b:Array UInt8) | flt (b:UInt64) | ref (a:Addr) | ty (n:String)
 deriving DecidableEq
def RelV:V->Value->Prop
 | .non,u=>u=Value.none
 | .bl b,u=>u=Value.bool b
 | .int i,u=>∃t,u=Value.int i t
 | .str x,u=>∃t,u=Value.str x t
 | .byt b,u=>∃t,u=Value.bytes b t
 | .flt b,u=>∃t,u=Value.float b t
 | .ref a,u=>u=Value.ref a
 | .ty n,u=>u=Value.type n
abbrev Vals:List V->List Value->Prop:=Paired RelV
theorem Vals.length {xs:List V} (r:Vals xs us):xs.length=us.length:=Paired.length r
theorem Vals.get:∀{xs:List V} {us:List Value} {i:Nat} {x:V},Vals xs us->xs[i]?=some x->∃u,us[i]?=some u/\RelV x u
 | _,_,_,_,.nil,e=>by simp at e
 | _,_,0,_,.cons r _,e=>by simp at e;subst e;exact ⟨_,rfl,r⟩
 | _,_,i+1,x,.cons _ t,e=>by
  obtain ⟨u,h1,h2⟩:=Vals.get (i:=i) (x:=x) t (by simpa using e)
  exact ⟨u,by simpa using h1,h2⟩
theorem Vals.set {x:V} (r:RelV x u):∀{xs:List V} {us:List Value} (i:Nat),Vals xs us->Vals (xs.set i x) (us.set i u)
 | _,_,_,.nil=>.nil
 | _,_,0,.cons _ t=>.cons r t
 | _,_,i+1,.cons q t=>.cons q (Vals.set r i t)
theorem Vals.append:∀{xs ys:List V} {us ws:List Value},Vals xs us->Vals ys ws->Vals (xs++ys) (us++ws)
 | _,_,_,_,.nil,s=>s
 | _,_,_,_,.cons r t,s=>.cons r (Vals.append t s)
theorem Vals.take:∀{xs:List V} {us:List Value} (n:Nat),Vals xs us->Vals (xs.take n) (us.take n)
 | _,_,0,_=>.nil
 | _,_,_+1,.nil=>.nil
 | _,_,n+1,.cons r t=>.cons r (Vals.take n t)
theorem Vals.drop:∀{xs:List V} {us:List Value} (n:Nat),Vals xs us->Vals (xs.drop n) (us.drop n)
 | _,_,0,r=>r
 | _,_,_+1,.nil=>.nil
 | _,_,n+1,.cons _ t=>Vals.drop n t
def RelO:Option V->Option Value->Prop
 | some v,some u=>RelV v u
 | none,none=>True
 | _,_=>False
def KV {κ:Type}:List (κ×V)->List (κ×Value)->Prop:=Paired fun (p:κ×V) (q:κ×Value)=>p.1=q.1/\RelV p.2 q.2
def kV:Key->V
 | .inl i=>.int i
 | .inr x=>.str x
inductive HO where
 | lst (xs:List V)
 | tup (xs:List V)
 | dK (kvs:List (Key×V)) | dT (kvs:List (List Key×V))
 | set (S:Int->Bool) (n:Nat)
 | ins (C dx:Addr) (fs:List (Str×V))
 | own (x:Addr)
 | xd (fs:List (Str×V))
 | met (f x:Addr)
 | rng (lo hi:Int)
 | frz (o:Obj) (u:HO)
 | tbl (ps:Array Value)
 | ext (φ:Heap->Prop)
abbrev Hp:=Addr->Option HO
def upd (H:Hp) (a:Addr) (o:HO):Hp:=fun b=>if b=a then some o else H b
theorem zAF {H:Hp} {o:HO}:upd H a o a=some o:=by unfold upd;rw [if_pos rfl]
theorem zAI {H:Hp} {o:HO} (h:b≠a):upd H a o b=H b:=by unfold upd;rw [if_neg h]
theorem zAX {H:Hp} {o:HO} (h:H a=some o) (h':H b=none):a≠b:=by
 intro e;subst e;rw [h] at h';cases h'
section
variable (P:Program) (w:World)
def ObjOk (H:Hp) (h:Heap) (a:Addr):HO->Prop
 | .lst xs=>xs.length<=sizeLine/\∃(its:List Value) (n:Nat),Vals xs its/\h.get? a=some { cls:=.type "list",data:=.seq its.toArray n }
 | .tup xs=>xs.length<=sizeLine/\∃its:List Value,Vals xs its/\IsTup h a its.toArray
 | .dK kvs=>kvs.length<=sizeLine/\(a==sysModules)=false/\∃vs,KV kvs vs/\h.DictOf (zBC P w) a vs
 | .dT kvs=>kvs.length<=sizeLine/\(a==sysModules)=false/\∃xs:List (List Key×Addr×Value),
   Paired (fun (p:List Key×V) (q:List Key×Addr×Value)=>p.1=q.1/\H q.2.1=some (.tup (p.1.map kV))/\RelV p.2 q.2.2) kvs xs /\
   ∃o es ep,h.get? a=some o/\o.ExactDict/\o.data=.dict es ep/\es.toList=xs.map (entryOfKey (tupleKind (zBC P w)))/\(xs.map (·.1)).Nodup
 | .set S n=>h.SetOf (intKind P w) a S n
 | .ins C dx fs=>H dx=some (.own a)/\fs.length<=1000/\dx≠a/\h.get? a=some (PySem.W.instObj C dx) /\
   ∃mA,h.Ns1 dx mA/\(∀f,RelO (fs.lookup f) (mA f))/\PySem.Within mA (fs.map (·.1))
 | .own _=>∃o,h.get? a=some o
 | .xd fs=>∃mA,h.Ns1 a mA/\∀f,RelO (fs.lookup f) (mA f)
 | .rng lo hi=>∃t u v,h.get? a=some { cls:=.type "range",data:=.fields #[.int lo t,.int hi u,.int 1 v] }
 | .frz o u=>h.get? a=some o/\ObjOk H h a u
 | .tbl ps=>h.get? a=some { cls:=.none,data:=.fields ps }
 | .met f x=>h.get? a=some (PySem.W.methodObj (.ref f) (.ref x))
 | .ext φ=>φ h/\(∃o,h.get? a=some o)/\∀h1 h2:Heap,φ h1->(∀o,h1.get? a=some o->h2.get? a=some o)->φ h2
def HOk (H:Hp) (h:Heap):Prop:=∀a o,H a=some o->ObjOk P w H h a o
end
section
variable {P:Program} {w:World} {H H':Hp} {h h':Heap} {a:Addr} {o:HO}
theorem ObjOk.lt (x:ObjOk P w H h a o):a<h.objs.size:=by
 cases o with
 | lst xs=>obtain ⟨_,_,_,_,e⟩:=x;exact Heap.lt_size e
 | tup xs=>obtain ⟨_,_,_,p⟩:=x;exact p.lt
 | dK kvs=>obtain ⟨_,_,_,_,o,_,_,e,_⟩:=x;exact Heap.lt_size e
 | dT kvs=>obtain ⟨_,_,_,_,o,_,_,e,_⟩:=x;exact Heap.lt_size e
 | set S n=>obtain ⟨o,_,_,_,e,_⟩:=x;exact Heap.lt_size e
 | ins C dx fs=>obtain ⟨_,_,_,e,_⟩:=x;exact Heap.lt_size e
 | own y=>obtain ⟨_,e⟩:=x;exact Heap.lt_size e
 | xd fs=>obtain ⟨_,⟨_,_,_,e,_⟩,_⟩:=x;exact Heap.lt_size e
 | rng lo hi=>obtain ⟨_,_,_,e⟩:=x;exact Heap.lt_size e
 | frz ob u=>obtain ⟨e,_⟩:=x;exact Heap.lt_size e
 | tbl ps=>exact Heap.lt_size (show h.get? a=some _ from x)
 | met f y=>exact Heap.lt_size (show h.get? a=some _ from x)
 | ext φ=>obtain ⟨_,⟨_,e⟩,_⟩:=x;exact Heap.lt_size e
theorem Paired.mapP {β:Type} {F G:α->β->Prop}:∀{l₁:List α} {l₂:List β},Paired F l₁ l₂->(∀a b,F a b->G a b)->Paired G l₁ l₂
 | _,_,.nil,_=>.nil
 | _,_,.cons r t,f=>.cons (f _ _ r) (Paired.mapP t f)
theorem ObjOk.stay (x:ObjOk P w H h a o) (k:∀b u,(b=a\/H b=some (.own a))->h.get? b=some u->h'.get? b=some u)
  (ho:∀b,H b=some (.own a)->H' b=some (.own a)) (ht:∀b xs,H b=some (.tup xs)->H' b=some (.tup xs)):ObjOk P w H' h' a o:=by
 induction o with
 | lst xs=>obtain ⟨z,its,n,r,e⟩:=x;exact ⟨z,its,n,r,k _ _ (.inl rfl) e⟩
 | tup xs=>obtain ⟨z,its,r,ob,e,c⟩:=x;exact ⟨z,its,r,ob,k _ _ (.inl rfl) e,c⟩
 | dK kvs=>obtain ⟨z,y,vs,r,ob,es,ep,e,c⟩:=x;exact ⟨z,y,vs,r,ob,es,ep,k _ _ (.inl rfl) e,c⟩
 | dT kvs=>
  obtain ⟨z,y,xs,r,ob,es,ep,e,c⟩:=x
  exact ⟨z,y,xs,Paired.mapP r fun p q z=>⟨z.1,ht _ _ z.2.1,z.2.2⟩,ob,es,ep,k _ _ (.inl rfl) e,c⟩
 | set S n=>obtain ⟨ob,es,ep,t,e,c⟩:=x;exact ⟨ob,es,ep,t,k _ _ (.inl rfl) e,c⟩
 | ins C dx fs=>
  obtain ⟨d,z,ne,e,mA,⟨od,es,ep,e2,c⟩,r⟩:=x
  exact ⟨ho _ d,z,ne,k _ _ (.inl rfl) e,mA,⟨od,es,ep,k _ _ (.inr d) e2,c⟩,r⟩
 | own y=>obtain ⟨ob,e⟩:=x;exact ⟨ob,k _ _ (.inl rfl) e⟩
 | xd fs=>obtain ⟨mA,⟨od,es,ep,e,c⟩,r⟩:=x;exact ⟨mA,⟨od,es,ep,k _ _ (.inl rfl) e,c⟩,r⟩
 | rng lo hi=>obtain ⟨t,u,v,e⟩:=x;exact ⟨t,u,v,k _ _ (.inl rfl) e⟩
 | frz ob u ih=>obtain ⟨e,q⟩:=x;exact ⟨k _ _ (.inl rfl) e,ih q⟩
 | tbl ps=>
  have e:h.get? a=some { cls:=.none,data:=.fields ps }:=x
  show h'.get? a=some { cls:=.none,data:=.fields ps }
  exact k a _ (.inl rfl) e
 | met f y=>
  have e:h.get? a=some (PySem.W.methodObj (.ref f) (.ref y)):=x
  show h'.get? a=some (PySem.W.methodObj (.ref f) (.ref y))
  exact k a _ (.inl rfl) e
 | ext φ=>obtain ⟨p,⟨o,e⟩,st⟩:=x;exact ⟨st _ _ p fun o q=>k _ _ (.inl rfl) q,⟨o,k _ _ (.inl rfl) e⟩,st⟩
theorem HOk.lt (x:HOk P w H h) (e:H a=some o):a<h.objs.size:=(x a o e).lt
theorem HOk.fresh (x:HOk P w H h) (e:h.objs.size<=a):H a=none:=by
 cases q:H a with
 | none=>rfl
 | some u=>exact absurd (Nat.lt_of_lt_of_le (x.lt q) e) (Nat.lt_irrefl _)
theorem HOk.kept (x:HOk P w H h) (k:∀b u,h.get? b=some u->h'.get? b=some u):HOk P w H h':=fun a o e=>
 (x a o e).stay (fun b u _ q=>k b u q) (fun _ q=>q) fun _ _ q=>q
theorem HOk.laid (x:HOk P w H h) (k:∀b u,h.get? b=some u->h'.get? b=some u) (hp:h.objs.size<=a) (new:ObjOk P w (upd H a o) h' a o):HOk P w (upd H a o) h':=fun b u e=>by
 have hn:=x.fresh hp
 by_cases hb:b=a
 ·subst hb;rw [zAF] at e;cases e;exact new
 ·rw [zAI hb] at e
  exact (x b u e).stay (fun c v _ q=>k c v q) (fun c q=>by rw [zAI (zAX q hn)];exact q) fun c xs q=>by rw [zAI (zAX q hn)];exact q
end
def Rd (H:Hp) (a:Addr) (u:HO):Prop:=H a=some u\/∃o,H a=some (.frz o u)
theorem Rd.of {H:Hp} {u:HO} (h:H a=some u):Rd H a u:=.inl h
theorem Rd.ok {P:Program} {w:World} {H:Hp} {h:Heap} {u:HO} (r:Rd H a u) (x:HOk P w H h):ObjOk P w H h a u:=by
 rcases r with r | ⟨o,r⟩
 ·exact x a u r
 ·obtain ⟨_,q⟩:=x a _ r
  exact q
def Mut:Option HO->Prop
 | some (.lst _)=>True
 | some (.dK _)=>True
 | some (.dT _)=>True
 | some (.set _ _)=>True
 | some (.ins _ _ _)=>True
 | some (.ext _)=>True
 | _=>False
section
variable {P:Program} {w:World} {H:Hp} {h h':Heap} {x e:Addr} {o':HO}
theorem HOk.write (ok:HOk P w H h) (mu:Mut (H x)) (he:e=x\/H e=some (.own x)) (k:∀b u,b≠e->h.get? b=some u->h'.get? b=some u) (heo:∃u,h'.get? e=some u)
  (new:ObjOk P w (upd H x o') h' x o'):HOk P w (upd H x o') h':=fun b u q=>by
 have nown:∀c y,H c=some (.own y)->c≠x:=fun c y r z=>by subst z;rw [r] at mu;exact mu
 have ntup:∀c xs,H c=some (.tup xs)->c≠x:=fun c xs r z=>by subst z;rw [r] at mu;exact mu
 by_cases hb:b=x
 ·subst hb;rw [zAF] at q;cases q;exact new
 ·rw [zAI hb] at q
  by_cases hbe:b=e
  ·have q':H b=some (.own x):=by
    rcases he with z | z
    ·exact absurd (hbe.trans z) hb
    ·rw [hbe];exact z
   rw [q] at q';cases q'
   obtain ⟨v,hv⟩:=heo
   exact ⟨v,by rw [hbe];exact hv⟩
  ·refine (ok b u q).stay (fun c v hc r=>k c v ?_ r) (fun c r=>by rw [zAI (nown c b r)];exact r) fun c xs r=>by rw [zAI (ntup c xs r)];exact r
   rcases hc with rfl | hc
   ·exact hbe
   ·rintro rfl
    rcases he with z | z
    ·exact nown c b hc z
    ·rw [hc] at z;cases z;exact hb rfl
end
structure Un (fs ex:List Addr) (H H':Hp) (h h':Heap):Prop where
 keep:∀b o,h.get? b=some o->H b=none->b∉fs->b∉ex->h'.get? b=some o
 slot:∀b o,h.get? b=some o->H b=none->b∈fs->b∉ex->∃sl,h'.get? b=some { o with slots:=sl }
 free:∀b o,h.get? b=some o->H b=none->b∉ex->H' b=none
 there:∀b o,h.get? b=some o->b∉ex->∃o',h'.get? b=some o'
 tups:∀b xs,H b=some (.tup xs)->H' b=some (.tup xs)
 frzs:∀b o u,H b=some (.frz o u)->H' b=some (.frz o u)
 tbls:∀b ps,H b=some (.tbl ps)->∃more,H' b=some (.tbl (ps++more))
section
variable {fs fs' ex ex':List Addr} {H H1 H2:Hp} {h h1 h2 h':Heap} {a x e:Addr} {o:HO}
theorem Un.any (u:Un fs ex H H1 h h1) {ob:Obj} (q:h.get? b=some ob) (n:H b=none) (hx:b∉ex):∃sl,h1.get? b=some { ob with slots:=sl }:=by
 by_cases hb:b∈fs
 ·exact u.slot b ob q n hb hx
 ·exact ⟨ob.slots,u.keep b ob q n hb hx⟩
theorem Un.kept (k:∀b u,h.get? b=some u->h'.get? b=some u):Un fs ex H H h h':=
 ⟨fun b ob q _ _ _=>k b ob q,fun b ob q _ _ _=>⟨ob.slots,k b ob q⟩,fun _ _ _ n _=>n,fun b ob q _=>⟨ob,k b ob q⟩,fun _ _ q=>q,fun _ _ _ q=>q,fun _ ps q=>⟨#[],by rw [q];simp⟩⟩
theorem Un.refl:Un fs ex H H h h:=Un.kept fun _ _ q=>q
theorem Un.laid (k:∀b u,h.get? b=some u->h'.get? b=some u) (hp:h.objs.size<=a) (hn:H a=none):Un fs ex H (upd H a o) h h' where
 keep:=fun b u q _ _ _=>k b u q
 slot:=fun b u q _ _ _=>⟨u.slots,k b u q⟩
 free:=fun b u q n _=>by rw [zAI (Nat.ne_of_lt (Nat.lt_of_lt_of_le (Heap.lt_size q) hp))];exact n
 there:=fun b u q _=>⟨u,k b u q⟩
 tups:=fun b xs q=>by rw [zAI (zAX q hn)];exact q
 frzs:=fun b u xs q=>by rw [zAI (zAX q hn)];exact q
 tbls:=fun b ps q=>⟨#[],by rw [zAI (zAX q hn),q];simp⟩
theorem Un.write (mu:Mut (H x)) (he:e=x\/H e=some (.own x)) (k:∀b u,b≠e->h.get? b=some u->h'.get? b=some u) (heo:∃u,h'.get? e=some u):Un fs ex H (upd H x o) h h':=by
 have hx:∀b,H b=none->b≠x:=fun b n z=>by subst z;rw [n] at mu;exact mu
 have hb:∀b,H b=none->b≠e:=fun b n z=>by
  subst z
  rcases he with r | r
  ·exact hx b n r
  ·rw [n] at r;cases r
 have hm:∀b u,H b=some u->¬Mut (some u)->b≠x:=fun b u q nm z=>by subst z;rw [q] at mu;exact nm mu
 refine ⟨fun b u q n _ _=>k b u (hb b n) q,fun b u q n _ _=>⟨u.slots,k b u (hb b n) q⟩,fun b u q n _=>by rw [zAI (hx b n)];exact n,fun b u q _=>?_,
  fun b xs q=>by rw [zAI (hm b _ q fun z=>z)];exact q,fun b u xs q=>by rw [zAI (hm b _ q fun z=>z)];exact q,fun b ps q=>⟨#[],by rw [zAI (hm b _ q fun z=>z),q];simp⟩⟩
 by_cases hbe:b=e
 ·subst hbe;exact heo
 ·exact ⟨u,k b u hbe q⟩
end
def trk (h:Heap) (H:Hp):List Addr:=(List.range h.objs.size).filter fun a=>(H a).isSome
def hidT (h:Heap) (H:Hp):Heap:=PySem.W.hideAll h (trk h H)
theorem hidT_size (h:Heap) (H:Hp):(hidT h H).objs.size=h.objs.size:=PySem.W.hideAll_size _ _
theorem hidT_get {h:Heap} {H:Hp} (e:h.get? b=some o) (n:H b=none):(hidT h H).get? b=some o:=
 PySem.W.hideAll_get _ e fun hm=>by
  have q:(H b).isSome=true:=(List.mem_filter.mp hm).2
  rw [n] at q;simp at q
theorem of_hidT {h:Heap} {H:Hp} (e:(hidT h H).get? b=some o):h.get? b=some o/\H b=none:=by
 have e':h.get? b=some o:=PySem.W.of_hideAll (trk h H) e
 refine ⟨e',?_⟩
 cases q:H b with
 | none=>rfl
 | some x=>
  have hm:b∈trk h H:=List.mem_filter.mpr ⟨List.mem_range.mpr (Heap.lt_size e'),by simp [q]⟩
  have z:(hidT h H).get? b=none:=PySem.W.hideAll_none (trk h H) hm
  rw [z] at e;cases e
structure Mod (K:Fg) (mg:Str->Option Value) (base:Heap):Prop where
 kin:K.In base
 glob:base.Ns mainGlobals mg
 blt:∃mb,base.Ns builtinsNs mb/\∀x:Str,x ≠ "__name__"->mb x=bootBuiltins x
 nolimit:base.NoLimit
structure Cx where
 prog:Program
 w:World
 K:Fg
 mg:Str->Option Value
 base:Heap
 A:Around
 N:List Str
 s₀:Shared
 H₀:Hp
 env:Env
 outer:List Env
 stack:List Env
 ex:List Addr
 fn:Str->Bool
 calm:Bool
 pn:List (Addr×Obj)
 xe:Value->Shared->Prop
def frs (l:List Env):List Addr:=l.filterMap (·.frame)
abbrev Cx.fs (X:Cx):List Addr:=frs X.outer
def Vis (sc:Scope) (x:Str):Prop:=sc.names.lookup x=some .local\/sc.names.lookup x=some .cell\/sc.names.lookup x=some .free
def Loc (sc:Scope) (x:Str):Prop:=sc.names.lookup x=some .local\/sc.names.lookup x=some .cell
def Look (env:Env) (h:Heap) (m:Str->Option Value) (x:Str) (u:Value):Prop:=
 (env.kindOf x=some .local/\m x=some u)\/((env.kindOf x=some .cell\/env.kindOf x=some .free)/\∃c,env.cells.lookup x=some c/\h.IsCell c (some u))
structure Cx.Ok (X:Cx):Prop where
 mod:Mod X.K X.mg X.base
 kind:X.env.scope.kind=.function
 glob:X.env.globals=mainGlobals
 blt:X.env.builtins=builtinsNs
 above:X.s₀.heap.objs.size<=X.env.locals
 inj:∀x y c,X.env.cells.lookup x=some c->X.env.cells.lookup y=some c->x=y
 has:∀x,(X.env.kindOf x=some .cell\/X.env.kindOf x=some .free)->∃c,X.env.cells.lookup x=some c
 cab:∀x c,X.fn x=true->X.env.cells.lookup x=some c->X.s₀.heap.objs.size<=c
 hd:X.calm=true->X.A.handled=none
 frames:X.A.frames=some X.stack
 stk:X.stack=X.outer\/(X.stack=X.env::X.outer/\X.env.frame=some X.env.locals)
 exf:∀b∈X.ex,b≠X.env.locals/\∀x c,X.env.cells.lookup x=some c->c≠b
 bs:∀b o,X.base.get? b=some o->X.s₀.heap.get? b=some o/\X.H₀ b=none
 bsz:X.base.objs.size<=X.s₀.heap.objs.size
 noex:∀b o,X.base.get? b=some o->b∉X.ex
 exfs:∀b∈X.ex,b∉X.fs
 funs:X.s₀.heap.FunFrames X.base X.outer
 frf:∀b∈X.fs,X.H₀ b=none
structure Inv (X:Cx) (pins:List (Addr×Obj)) (σ:List (Option V)) (H:Hp) (s:Shared):Prop where
 ok:X.Ok
 os:s.os=X.s₀.os
 bare:AllBare s.gens
 base:Un X.fs X.ex X.H₀ H X.s₀.heap s.heap
 loc:∃m,s.heap.Ns X.env.locals m/\∀(i:Nat) (x:Str) (v:V),X.N[i]?=some x->σ[i]?=some (some v)->Vis X.env.scope x->∃u,RelV v u/\Look X.env s.heap m x u
 cell:∀x c,X.env.cells.lookup x=some c->∃v,s.heap.IsCell c v
 free:H X.env.locals=none
 freeC:∀x c,X.env.cells.lookup x=some c->H c=none
 pin:∀p∈X.pn++pins,s.heap.get? p.1=some p.2/\H p.1=none/\p.1≠X.env.locals/\p.1∉X.fs/\∀v,p.2.data≠.cell v
 hok:HOk X.prog X.w H s.heap
 len:σ.length=X.N.length
section
variable {X:Cx} {pins:List (Addr×Obj)} {σ:List (Option V)} {H H':Hp} {s:Shared} {h':Heap}
theorem Cx.Ok.nofr (ok:X.Ok) (e:X.base.get? b=some o):b∉X.fs:=fun hb=>by
 have:=(ok.funs.mem hb).1
 rw [e] at this;cases this
theorem Inv.bs (I:Inv X pins σ H s):∀b o,X.base.get? b=some o->s.heap.get? b=some o/\H b=none:=fun b o e=>
 ⟨I.base.keep b o (I.ok.bs b o e).1 (I.ok.bs b o e).2 (I.ok.nofr e) (I.ok.noex b o e),I.base.free b o (I.ok.bs b o e).1 (I.ok.bs b o e).2 (I.ok.noex b o e)⟩
theorem Inv.bk (I:Inv X pins σ H s):∀b o,X.base.get? b=some o->s.heap.get? b=some o:=fun b o e=>(I.bs b o e).1
theorem Inv.mod (I:Inv X pins σ H s):Mod X.K X.mg X.base:=I.ok.mod
theorem Inv.kIn (I:Inv X pins σ H s):X.K.In s.heap:=I.ok.mod.kin.keeps I.bk
theorem Inv.lt (I:Inv X pins σ H s):X.env.locals<s.heap.objs.size:=let ⟨_,hn,_⟩:=I.loc;hn.lt
theorem Inv.sz (I:Inv X pins σ H s):X.s₀.heap.objs.size<=s.heap.objs.size:=Nat.le_trans I.ok.above (Nat.le_of_lt I.lt)
theorem Inv.nofs (I:Inv X pins σ H s) (h:s.heap.objs.size<=a):a∉X.fs:=fun hb=>by
 obtain ⟨_,o,ho,_⟩:=I.ok.funs.mem hb
 exact absurd (Nat.lt_of_lt_of_le (Heap.lt_size ho) (Nat.le_trans I.sz h)) (Nat.lt_irrefl _)
theorem Inv.cne (I:Inv X pins σ H s):∀x c,X.env.cells.lookup x=some c->c≠X.env.locals:=fun x c e z=>by
 obtain ⟨v,o,ho,hd⟩:=I.cell x c e
 obtain ⟨m,⟨o',es,ep,ho',hd',_⟩,_⟩:=I.loc
 rw [z,ho'] at ho;cases ho;rw [hd'] at hd;cases hd
theorem Inv.funs (I:Inv X pins σ H s):s.heap.FunFrames X.base X.outer:=by
 have all:∀(l:List Env),(∀b∈frs l,b∈X.fs)->X.s₀.heap.FunFrames X.base l->s.heap.FunFrames X.base l:=by
  intro l
  induction l with
  | nil=>intro _ _;trivial
  | cons env r ih=>
   intro hs hl
   obtain ⟨hk,⟨L,o,hf,hn,ho,hd⟩,hr⟩:=hl
   have hL:L∈X.fs:=hs L (by unfold frs;rw [filterMap_cons,hf];exact mem_cons_self)
   obtain ⟨sl,e⟩:=I.base.slot L o ho (I.ok.frf L hL) hL fun z=>I.ok.exfs L z hL
   exact ⟨hk,⟨L,_,hf,hn,e,hd⟩,ih (fun b hb=>hs b (by unfold frs;rw [filterMap_cons,hf];exact mem_cons_of_mem _ hb)) hr⟩
 exact all X.outer (fun _ hb=>hb) I.ok.funs
theorem Inv.stack (I:Inv X pins σ H s):s.heap.FunFrames X.base X.stack:=by
 rcases I.ok.stk with e | ⟨e,hf⟩
 ·rw [e];exact I.funs
 ·rw [e]
  obtain ⟨m,hn,_⟩:=I.loc
  refine .cons (by rw [I.ok.kind];decide) hf hn ?_ I.funs
  exact Heap.get?_none_of_le (Nat.le_trans I.ok.bsz I.ok.above)
theorem Inv.stkSub (I:Inv X pins σ H s):∀b∈frs X.stack,b∈X.env.locals::X.fs:=fun b hb=>by
 rcases I.ok.stk with e | ⟨e,hf⟩
 ·rw [e] at hb;exact mem_cons_of_mem _ hb
 ·rw [e] at hb
  unfold frs at hb
  rw [filterMap_cons,hf] at hb
  exact hb
theorem Inv.stkFree (I:Inv X pins σ H s):∀b∈frs X.stack,H b=none:=fun b hb=>by
 rcases List.mem_cons.mp (I.stkSub b hb) with e | hb
 ·rw [e];exact I.free
 ·obtain ⟨_,o,ho,_⟩:=I.ok.funs.mem hb
  exact I.base.free b o ho (I.ok.frf b hb) fun z=>I.ok.exfs b z hb
theorem Inv.step (I:Inv X pins σ H s)
  (hch:∀b∈ch,(b∈X.ex\/X.s₀.heap.objs.size<=b)/\b≠X.env.locals/\(∀x c,X.env.cells.lookup x=some c->c≠b)/\∀p∈X.pn++pins,p.1≠b)
  (keep:∀b o,b≠X.env.locals->b∉X.fs->b∉ch->s.heap.get? b=some o->H b=none->h'.get? b=some o)
  (slot:∀b o,b≠X.env.locals->b∈X.fs->b∉ch->s.heap.get? b=some o->H b=none->∃sl,h'.get? b=some { o with slots:=sl }) (free:∀b o,b∉ch->s.heap.get? b=some o->H b=none->H' b=none)
  (there:∀b o,b∉ch->s.heap.get? b=some o->∃o',h'.get? b=some o')
  (tups:∀b xs,H b=some (.tup xs)->H' b=some (.tup xs)) (frzs:∀b o u,H b=some (.frz o u)->H' b=some (.frz o u)) (tbls:∀b ps,H b=some (.tbl ps)->∃more,H' b=some (.tbl (ps++more)))
  (ns:∀m,s.heap.Ns X.env.locals m->h'.Ns X.env.locals m) (hok:HOk X.prog X.w H' h') (hg:AllBare g') :
  Inv X pins σ H' { s with heap:=h',gens:=g',drawn:=d',toks:=t' }:=by
 have neL:∀b o,X.s₀.heap.get? b=some o->b≠X.env.locals:=fun b o e=>Nat.ne_of_lt (Nat.lt_of_lt_of_le (Heap.lt_size e) I.ok.above)
 have neC:∀b o,X.s₀.heap.get? b=some o->b∉X.ex->b∉ch:=fun b o e hx hb=>by
  rcases (hch b hb).1 with z | z
  ·exact hx z
  ·exact absurd (Nat.lt_of_lt_of_le (Heap.lt_size e) z) (Nat.lt_irrefl _)
 have cellK:∀x c,X.env.cells.lookup x=some c->∀v,s.heap.IsCell c v->h'.IsCell c v:=fun x c e v ⟨o,ho,hd⟩=>by
  have nch:c∉ch:=fun z=>(hch c z).2.2.1 x c e rfl
  by_cases hc:c∈X.fs
  ·obtain ⟨sl,q⟩:=slot c o (I.cne x c e) hc nch ho (I.freeC x c e)
   exact ⟨_,q,hd⟩
  ·exact ⟨o,keep c o (I.cne x c e) hc nch ho (I.freeC x c e),hd⟩
 refine ⟨I.ok,I.os,hg,⟨fun b o e n hb hx=>?_,fun b o e n hb hx=>?_,fun b o e n hx=>?_,fun b o e hx=>?_,fun b xs e=>tups b xs (I.base.tups b xs e),fun b o xs e=>frzs b o xs (I.base.frzs b o xs e),fun b ps e=>?_⟩,?_,fun x c e=>?_,?_,fun x c e=>?_,fun p hp=>?_,hok,I.len⟩
 ·exact keep b o (neL b o e) hb (neC b o e hx) (I.base.keep b o e n hb hx) (I.base.free b o e n hx)
 ·obtain ⟨sl,e1⟩:=I.base.slot b o e n hb hx
  obtain ⟨sl',e2⟩:=slot b _ (neL b o e) hb (neC b o e hx) e1 (I.base.free b o e n hx)
  exact ⟨sl',e2⟩
 ·obtain ⟨o',e1⟩:=I.base.there b o e hx
  exact free b o' (neC b o e hx) e1 (I.base.free b o e n hx)
 ·obtain ⟨o',e1⟩:=I.base.there b o e hx
  exact there b o' (neC b o e hx) e1
 ·obtain ⟨m1,e1⟩:=I.base.tbls b ps e
  obtain ⟨m2,e2⟩:=tbls b _ e1
  exact ⟨m1++m2,by rw [e2,Array.append_assoc]⟩
 ·obtain ⟨m,hn,hl⟩:=I.loc
  refine ⟨m,ns m hn,fun i x v e1 e2 e3=>?_⟩
  obtain ⟨u,r,l⟩:=hl i x v e1 e2 e3
  refine ⟨u,r,?_⟩
  rcases l with l | ⟨k,c,e,z⟩
  ·exact .inl l
  ·exact .inr ⟨k,c,e,cellK x c e _ z⟩
 ·obtain ⟨v,z⟩:=I.cell x c e
  exact ⟨v,cellK x c e v z⟩
 ·obtain ⟨m,⟨o,_,_,ho,_⟩,_⟩:=I.loc
  exact free _ o (fun z=>(hch _ z).2.1 rfl) ho I.free
 ·obtain ⟨v,o,ho,hd⟩:=I.cell x c e
  exact free c o (fun z=>(hch c z).2.2.1 x c e rfl) ho (I.freeC x c e)
 ·obtain ⟨e,n,ne,nf,d⟩:=I.pin p hp
  have nch:p.1∉ch:=fun z=>(hch p.1 z).2.2.2 p hp rfl
  exact ⟨keep p.1 p.2 ne nf nch e n,free p.1 p.2 nch e n,ne,nf,d⟩
theorem Inv.un (I:Inv X pins σ H s) (u:Un X.fs [] H H' s.heap h') (hok:HOk X.prog X.w H' h'):Inv X pins σ H' { s with heap:=h',toks:=t' }:=by
 obtain ⟨m,⟨o,es,ep,ho,r⟩,_⟩:=id I.loc
 obtain ⟨sl,hL⟩:=u.any ho I.free (by simp)
 exact I.step (g':=s.gens) (d':=s.drawn) (ch:=[]) (fun _ z=>nomatch z) (fun b o _ hb _ e n=>u.keep b o e n hb (by simp)) (fun b o _ hb _ e n=>u.slot b o e n hb (by simp)) (fun b o _ e n=>u.free b o e n (by simp)) (fun b o _ e=>u.there b o e (by simp)) u.tups u.frzs u.tbls (fun m' hm=>by
  obtain ⟨o',es',ep',ho',r'⟩:=hm
  rw [ho] at ho';cases ho'
  exact ⟨_,es',ep',hL,r'⟩) hok I.bare
theorem Inv.call (I:Inv X pins σ H s) (u:Un (frs X.stack) ch H H' s.heap h') (hok:HOk X.prog X.w H' h') (hg:AllBare g')
  (hch:∀b∈ch,(b∈X.ex\/X.s₀.heap.objs.size<=b)/\b≠X.env.locals/\(∀x c,X.env.cells.lookup x=some c->c≠b)/\∀p∈X.pn++pins,p.1≠b) :
  Inv X pins σ H' { s with heap:=h',gens:=g',drawn:=d',toks:=t' }:=by
 obtain ⟨m,⟨o,es,ep,ho,r⟩,_⟩:=id I.loc
 obtain ⟨sl,hL⟩:=u.any ho I.free fun z=>(hch _ z).2.1 rfl
 exact I.step (ch:=ch) hch (fun b o hL hb hc e n=>u.keep b o e n (fun z=>(List.mem_cons.mp (I.stkSub b z)).elim hL hb) hc) (fun b o _ _ hc e n=>u.any e n hc) (fun b o hc e n=>u.free b o e n hc) (fun b o hc e=>u.there b o e hc) u.tups u.frzs u.tbls (fun m' hm=>by
  obtain ⟨o',es',ep',ho',r'⟩:=hm
  rw [ho] at ho';cases ho'
  exact ⟨_,es',ep',hL,r'⟩) hok hg
theorem Inv.turned (I:Inv X pins σ H s) (k:∀b o,b≠it->s.heap.get? b=some o->h'.get? b=some o) (hn:H it=none) (hL:it≠X.env.locals)
  (h1:it∈X.ex\/X.s₀.heap.objs.size<=it) (h2:∀x c,X.env.cells.lookup x=some c->c≠it) (h3:∀p∈X.pn++pins,p.1≠it):Inv X pins σ H { s with heap:=h',toks:=t' }:=by
 have nit:∀b u,H b=some u->b≠it:=fun b u e z=>by rw [z,hn] at e;cases e
 refine I.step (g':=s.gens) (d':=s.drawn) (ch:=[it]) (fun b hb=>?_) (fun b o _ _ hc e _=>k b o (fun z=>hc (by simp [z])) e) (fun b o _ _ hc e _=>⟨o.slots,k b o (fun z=>hc (by simp [z])) e⟩) (fun _ _ _ _ n=>n)
  (fun b o hc e=>⟨o,k b o (fun z=>hc (by simp [z])) e⟩) (fun _ _ e=>e) (fun _ _ _ e=>e) (fun b ps e=>⟨#[],by rw [e];simp⟩) (fun m hm=>?_) (fun b u e=>?_) I.bare
 ·have e:b=it:=by simpa using hb
  subst e
  exact ⟨h1,hL,h2,h3⟩
 ·obtain ⟨o,es,ep,ho,r⟩:=hm
  exact ⟨o,es,ep,k _ o (Ne.symm hL) ho,r⟩
 ·refine (I.hok b u e).stay (fun c v hc q=>k c v ?_ q) (fun _ q=>q) fun _ _ q=>q
  rcases hc with z | z
  ·rw [z];exact nit b u e
  ·exact nit c _ z
theorem Inv.tok (I:Inv X pins σ H s) (t:Nat):Inv X pins σ H { s with toks:=t }:=I.un (h':=s.heap) (t':=t) Un.refl I.hok
theorem Inv.kept (I:Inv X pins σ H s) (k:∀b u,s.heap.get? b=some u->h'.get? b=some u):Inv X pins σ H { s with heap:=h',toks:=t' }:=I.un (Un.kept k) (I.hok.kept k)
theorem Inv.laid {o:HO} (I:Inv X pins σ H s) (k:∀b u,s.heap.get? b=some u->h'.get? b=some u) (hp:s.heap.objs.size<=a) (new:ObjOk X.prog X.w (upd H a o) h' a o) :
  Inv X pins σ (upd H a o) { s with heap:=h',toks:=t' }:=I.un (Un.laid k hp (I.hok.fresh hp)) (I.hok.laid k hp new)
theorem Inv.write {x e:Addr} {o:HO} (I:Inv X pins σ H s) (mu:Mut (H x)) (he:e=x\/H e=some (.own x)) (k:∀b u,b≠e->s.heap.get? b=some u->h'.get? b=some u) (heo:∃u,h'.get? e=some u)
  (new:ObjOk X.prog X.w (upd H x o) h' x o):Inv X pins σ (upd H x o) { s with heap:=h',toks:=t' }:=I.un (Un.write mu he k heo) (I.hok.write mu he k heo new)
theorem Inv.weak {σ':List (Option V)} (I:Inv X pins σ H s) (hl:σ'.length=σ.length) (w:∀(i:Nat) v,σ'[i]?=some (some v)->σ[i]?=some (some v)):Inv X pins σ' H s:=
 ⟨I.ok,I.os,I.bare,I.base,let ⟨m,hn,hl'⟩:=I.loc;⟨m,hn,fun i x v e1 e2 e3=>hl' i x v e1 (w i v e2) e3⟩,I.cell,I.free,I.freeC,I.pin,I.hok,hl.trans I.len⟩
theorem Inv.pins_of {pins':List (Addr×Obj)} (I:Inv X pins σ H s) (h:∀p∈pins',s.heap.get? p.1=some p.2/\H p.1=none/\p.1≠X.env.locals/\p.1∉X.fs/\∀v,p.2.data≠.cell v):Inv X pins' σ H s:=
 ⟨I.ok,I.os,I.bare,I.base,I.loc,I.cell,I.free,I.freeC,fun p hp=>(List.mem_append.mp hp).elim (fun z=>I.pin p (mem_append_left _ z)) (h p),I.hok,I.len⟩
theorem nodup_ix (hN:N.Nodup) {i j:Nat} (a:N[i]?=some x) (b:N[j]?=some x):i=j:=by
 obtain ⟨h1,e1⟩:=List.getElem?_eq_some_iff.mp a
 obtain ⟨h2,e2⟩:=List.getElem?_eq_some_iff.mp b
 exact (List.getElem_inj hN).mp (e1.trans e2.symm)
theorem store_ok2 {E:Value->Shared->Prop} {i:Nat} {v:V} {Q:Unit->Shared->Prop} (I:Inv X pins σ H s) (hN:X.N.Nodup) (hi:X.N[i]?=some x) (hx:Loc X.env.scope x) (r:RelV v u)
  (h:∀s',Inv X pins (σ.set i (some v)) H s'->(∃a,Heap.SameBut a s.heap s'.heap/\(a=X.env.locals\/X.env.cells.lookup x=some a))->Q () s') (hf:X.fn x=true\/X.env.scope.names.lookup x=some .local:=by first | exact .inl rfl | exact .inr rfl | assumption):wpAny M A (storeName X.env x u) Q E s:=by
 obtain ⟨m,hn,hl⟩:=id I.loc
 have hcls:(X.env.scope.kind==.class||(X.env.scope.kind==.module&&X.env.locals != X.env.globals))=false:=by rw [I.ok.kind];rfl
 have hiσ:i<σ.length:=by rw [I.len];exact (List.getElem?_eq_some_iff.mp hi).1
 have cne:=I.cne
 have tracked:∀{a:Addr} {h':Heap},(∃o,s.heap.get? a=some o/\H a=none)->Heap.SameBut a s.heap h'->HOk X.prog X.w H h':=fun {a h'} ha hs b ob e=>by
  obtain ⟨_,_,hfree⟩:=ha
  refine (I.hok b ob e).stay (fun c w' hc q=>(hs.2 c ?_).trans q) (fun _ q=>q) fun _ _ q=>q
  rintro rfl
  rcases hc with rfl | hc
  ·rw [hfree] at e;cases e
  ·rw [hfree] at hc;cases hc
 rcases hx with hk | hk
 ·refine wpAny_storeName_local hk hn (fun h' hn' hs=>?_) hcls
  obtain ⟨oL,_,_,hoL,_⟩:=id hn
  refine h _ ⟨I.ok,I.os,I.bare,⟨fun b o e n hb hx=>?_,fun b o e n hb hx=>?_,I.base.free,fun b o e hx=>?_,I.base.tups,I.base.frzs,I.base.tbls⟩,⟨_,hn',fun j y v' e1 e2 e3=>?_⟩,fun y c e=>?_,I.free,I.freeC,fun p hp=>?_,tracked ⟨oL,hoL,I.free⟩ hs,by simpa using I.len⟩ ⟨_,hs,.inl rfl⟩
  ·exact (hs.2 b (Nat.ne_of_lt (Nat.lt_of_lt_of_le (Heap.lt_size e) I.ok.above))).trans (I.base.keep b o e n hb hx)
  ·obtain ⟨sl,e1⟩:=I.base.slot b o e n hb hx
   exact ⟨sl,(hs.2 b (Nat.ne_of_lt (Nat.lt_of_lt_of_le (Heap.lt_size e) I.ok.above))).trans e1⟩
  ·obtain ⟨o',e1⟩:=I.base.there b o e hx
   exact ⟨o',(hs.2 b (Nat.ne_of_lt (Nat.lt_of_lt_of_le (Heap.lt_size e) I.ok.above))).trans e1⟩
  ·by_cases hj:j=i
   ·subst hj
    rw [hi] at e1;cases e1
    rw [getElem?_set_self hiσ] at e2
    cases e2
    exact ⟨u,r,.inl ⟨hk,by simp⟩⟩
   ·rw [getElem?_set_ne (Ne.symm hj)] at e2
    obtain ⟨u',r',q⟩:=hl j y v' e1 e2 e3
    refine ⟨u',r',?_⟩
    rcases q with ⟨k,e⟩ | ⟨k,c,e,z⟩
    ·refine .inl ⟨k,?_⟩
     have:y≠x:=fun e=>hj (nodup_ix hN e1 (e▸hi))
     simp [this,e]
    ·exact .inr ⟨k,c,e,z.sameBut hs (cne y c e)⟩
  ·obtain ⟨w',z⟩:=I.cell y c e
   exact ⟨w',z.sameBut hs (cne y c e)⟩
  ·obtain ⟨e,n,ne,nf,d⟩:=I.pin p hp
   exact ⟨(hs.2 p.1 ne).trans e,n,ne,nf,d⟩
 ·have hfn:X.fn x=true:=by
   rcases hf with z | z
   ·exact z
   ·rw [z] at hk;cases hk
  obtain ⟨c,hc⟩:=I.ok.has x (.inl hk)
  obtain ⟨w',z⟩:=I.cell x c hc
  refine wpAny_storeName_cell I.ok.kind hk hc z (fun h' hc' hs=>?_)
  obtain ⟨oc,hoc,hocd⟩:=id z
  refine h { s with heap:=h' } ⟨I.ok,I.os,I.bare,⟨fun b o e n hb hx=>?_,fun b o e n hb hx=>?_,I.base.free,fun b o e hx=>?_,I.base.tups,I.base.frzs,I.base.tbls⟩,⟨m,hn.sameBut hs (Ne.symm (cne x c hc)),fun j y v' e1 e2 e3=>?_⟩,fun y c' e=>?_,I.free,I.freeC,fun p hp=>?_,tracked ⟨oc,hoc,I.freeC x c hc⟩ hs,by simpa using I.len⟩ ⟨c,hs,.inr hc⟩
  ·exact (hs.2 b (Nat.ne_of_lt (Nat.lt_of_lt_of_le (Heap.lt_size e) (I.ok.cab x c hfn hc)))).trans (I.base.keep b o e n hb hx)
  ·obtain ⟨sl,e1⟩:=I.base.slot b o e n hb hx
   exact ⟨sl,(hs.2 b (Nat.ne_of_lt (Nat.lt_of_lt_of_le (Heap.lt_size e) (I.ok.cab x c hfn hc)))).trans e1⟩
  ·obtain ⟨o',e1⟩:=I.base.there b o e hx
   exact ⟨o',(hs.2 b (Nat.ne_of_lt (Nat.lt_of_lt_of_le (Heap.lt_size e) (I.ok.cab x c hfn hc)))).trans e1⟩
  ·by_cases hj:j=i
   ·subst hj
    rw [hi] at e1;cases e1
    rw [getElem?_set_self hiσ] at e2
    cases e2
    exact ⟨u,r,.inr ⟨.inl hk,c,hc,hc'⟩⟩
   ·rw [getElem?_set_ne (Ne.symm hj)] at e2
    obtain ⟨u',r',q⟩:=hl j y v' e1 e2 e3
    refine ⟨u',r',?_⟩
    rcases q with q | ⟨k,c',e,z'⟩
    ·exact .inl q
    ·refine .inr ⟨k,c',e,z'.sameBut hs ?_⟩
     rintro rfl
     exact hj (nodup_ix hN e1 (I.ok.inj _ _ _ e hc▸hi))
  ·by_cases hcc:c'=c
   ·subst hcc;exact ⟨_,hc'⟩
   ·obtain ⟨w2,z2⟩:=I.cell y c' e
    exact ⟨w2,z2.sameBut hs hcc⟩
  ·obtain ⟨e,n,ne,nf,d⟩:=I.pin p hp
   refine ⟨(hs.2 p.1 ?_).trans e,n,ne,nf,d⟩
   intro q
   rw [q,hoc] at e
   have q':oc=p.2:=Option.some.inj e
   exact d w' (by rw [<-q'];exact hocd)
theorem store_ok {E:Value->Shared->Prop} {i:Nat} {v:V} {Q:Unit->Shared->Prop} (I:Inv X pins σ H s) (hN:X.N.Nodup) (hi:X.N[i]?=some x) (hx:Loc X.env.scope x) (r:RelV v u)
  (h:∀s',Inv X pins (σ.set i (some v)) H s'->Q () s') (hf:X.fn x=true\/X.env.scope.names.lookup x=some .local:=by first | exact .inl rfl | exact .inr rfl | assumption):wpAny M A (storeName X.env x u) Q E s:=
 store_ok2 I hN hi hx r (fun s' I' _=>h s' I') hf
theorem Inv.call' (I:Inv X pins σ H s) (ho:s'.os=s.os) (u:Un (frs X.stack) ch H H' s.heap s'.heap) (hok:HOk X.prog X.w H' s'.heap) (hg:AllBare s'.gens)
  (hch:∀b∈ch,(b∈X.ex\/X.s₀.heap.objs.size<=b)/\b≠X.env.locals/\(∀x c,X.env.cells.lookup x=some c->c≠b)/\∀p∈X.pn++pins,p.1≠b):Inv X pins σ H' s':=by
 obtain ⟨h',g',d',t',o'⟩:=s'
 have e:o'=s.os:=ho
 subst e
 exact I.call (g':=g') (t':=t') (d':=d') u hok hg hch
end
abbrev XK:=Value->Option Addr->Hp->Prop
abbrev St:=List (Option V)
abbrev VK:=V->Hp->Prop
abbrev TE:=St->Hp->VK->Prop
abbrev TT:=St->Hp->(Bool->Hp->Prop)->Prop
abbrev TA:=St->Hp->(List V->Hp->Prop)->Prop
structure Ends where
 nx:St->Hp->Prop
 rt:VK
 bk:St->Hp->Prop:=fun _ _=>False
 ct:St->Hp->Prop:=fun _ _=>False
abbrev TS:=Ends->St->Hp->Prop
def EP (X:Cx) (pins:List (Addr×Obj)) (σ:St) (Q:VK) (u:Value) (s':Shared):Prop:=∃v H',Inv X pins σ H' s'/\RelV v u/\Q v H'
def TP (X:Cx) (pins:List (Addr×Obj)) (σ:St) (Q:Bool->Hp->Prop) (b:Bool) (s':Shared):Prop:=∃H',Inv X pins σ H' s'/\Q b H'
def AP (X:Cx) (pins:List (Addr×Obj)) (σ:St) (Q:List V->Hp->Prop) (us:List Value) (s':Shared):Prop:=∃vs H',Inv X pins σ H' s'/\Vals vs us/\Q vs H'
def SP (X:Cx) (pins:List (Addr×Obj)) (D:Ends) (f:Flow) (s':Shared):Prop:=
 match f with
 | .next=>∃σ' H',Inv X pins σ' H' s'/\D.nx σ' H'
 | .brk=>∃σ' H',Inv X pins σ' H' s'/\D.bk σ' H'
 | .cont=>∃σ' H',Inv X pins σ' H' s'/\D.ct σ' H'
 | .ret u=>∃v σ' H',Inv X pins σ' H' s'/\RelV v u/\D.rt v H'
def PE (X:Cx) (e:Expr) (t:TE):Prop:=
 ∀(pins:List (Addr×Obj)) (s:Shared) (σ:St) (H:Hp) (Q:VK),Inv X pins σ H s->t σ H Q->wpAny (model X.prog X.w) X.A (eval e X.env) (EP X pins σ Q) X.xe s
def PT (X:Cx) (e:Expr) (t:TT):Prop:=
 ∀(pins:List (Addr×Obj)) (s:Shared) (σ:St) (H:Hp) (Q:Bool->Hp->Prop),Inv X pins σ H s->t σ H Q->wpAny (model X.prog X.w) X.A (isTrue e X.env (eval e X.env)) (TP X pins σ Q) X.xe s
def PW (X:Cx) (e:Expr) (t:TT):Prop:=
 ∀(whole:Sem Value) (pins:List (Addr×Obj)) (s:Shared) (σ:St) (H:Hp) (Q:Bool->Hp->Prop),Inv X pins σ H s->t σ H Q->wpAny (model X.prog X.w) X.A (isTrue e X.env whole) (TP X pins σ Q) X.xe s
theorem PW.pt {X:Cx} {t:TT} (h:PW X e t):PT X e t:=h _
def PA (X:Cx) (es:List Expr) (t:TA):Prop:=
 ∀(pos:Pos) (pins:List (Addr×Obj)) (s:Shared) (σ:St) (H:Hp) (Q:List V->Hp->Prop),Inv X pins σ H s->t σ H Q->wpAny (model X.prog X.w) X.A (spliced (backTo pos (starEach es X.env))) (AP X pins σ Q) X.xe s
def PS (X:Cx) (st:Stmt) (t:TS):Prop:=
 ∀(pins:List (Addr×Obj)) (s:Shared) (σ:St) (H:Hp) (D:Ends),Inv X pins σ H s->t D σ H->wpAny (model X.prog X.w) X.A (exec st X.env) (SP X pins D) X.xe s
def PSs (X:Cx) (st:List Stmt) (t:TS):Prop:=
 ∀(pins:List (Addr×Obj)) (s:Shared) (σ:St) (H:Hp) (D:Ends),Inv X pins σ H s->t D σ H->wpAny (model X.prog X.w) X.A (execs st X.env) (SP X pins D) X.xe s
theorem thn {t:Sem α} {Q Q':α->Shared->Prop} {E:Value->Shared->Prop} {s:Shared} (h:wpAny M A t Q E s) (hQ:∀a s,Q a s->Q' a s):wpAny M A t Q' E s:=wpAny_mono h hQ fun _ _ x=>x
section
variable {X:Cx}
def tVar (i:Nat):TE:=fun σ H Q=>∃v,σ[i]?=some (some v)/\Q v H
def tC (v:V):TE:=fun _ H Q=>Q v H
theorem zCD {i:Nat} (hN:X.N[i]?=some x) (hv:Vis X.env.scope x) (hd:(x==("__debug__":Str))=false:=by decide) (hcd:(x==("__classdict__":Str))=false:=by decide):PE X (.Name x pos) (tVar i):=by
 intro pins s σ H Q I h
 obtain ⟨v,e,h⟩:=h
 obtain ⟨m,hn,hl⟩:=I.loc
 obtain ⟨u,r,l⟩:=hl i x v hN e hv
 have fin:EP X pins σ Q u s:=⟨v,H,I,r,h⟩
 rcases l with ⟨hk,hm⟩ | ⟨hk,c,hc,hcell⟩
 ·exact wpAny_Name (wpAny_loadName_local I.ok.kind hk hn hm fin) hd
 ·rcases hk with hk | hk
  ·exact wpAny_Name (wpAny_loadName_cell I.ok.kind hk hc hcell fin) hd
  ·exact wpAny_Name (wpAny_loadName_free I.ok.kind hk hc hcell fin hcd) hd
theorem zEE {i j pos}:PE X (.Constant (.int i) j pos) (tC (.int i)):=fun _ _ _ H _ I h=>wpAny_Constant_int ⟨.int i,H,I.tok _,⟨_,rfl⟩,h⟩
theorem pe_bl {b j pos}:PE X (.Constant (.bool b) j pos) (tC (.bl b)):=fun _ _ _ H _ I h=>Constant_bool ⟨.bl b,H,I,rfl,h⟩
theorem zFO {j pos}:PE X (.Constant .none j pos) (tC .non):=fun _ _ _ H _ I h=>Constant_none ⟨.non,H,I,rfl,h⟩
theorem zGV {x j pos}:PE X (.Constant (.str x) j pos) (tC (.str x)):=fun _ _ _ H _ I h=>Calls.Constant_str ⟨.str x,H,I.tok _,⟨_,rfl⟩,h⟩
def Gl (X:Cx) (x:Str):Prop:=X.env.kindOf x=some .globalImplicit
theorem ld_glob {E:Value->Shared->Prop} {s:Shared} {σ:St} {H:Hp} {Q:Value->Shared->Prop} (I:Inv X pins σ H s) (hg:Gl X x) (hm:X.mg x=some u) (h:Q u s)
  (hd:(x==("__debug__":Str))=false:=by decide):wpAny (model X.prog X.w) X.A (eval (.Name x pos) X.env) Q E s:=
 Calls.Name_function_global I.ok.kind hg (Calls.loadGlobal_global (by rw [I.ok.glob];exact I.mod.glob.keeps I.bk) hm h) hd
theorem zET {E:Value->Shared->Prop} {s:Shared} {σ:St} {H:Hp} {Q:Value->Shared->Prop} (I:Inv X pins σ H s) (hg:Gl X x) (hm:X.mg x=none) (hv:bootBuiltins x=some u) (h:Q u s)
  (hn:x ≠ "__name__":=by decide) (hd:(x==("__debug__":Str))=false:=by decide):wpAny (model X.prog X.w) X.A (eval (.Name x pos) X.env) Q E s:=by
 obtain ⟨mb,h1,h2⟩:=I.mod.blt
 exact Calls.Name_function_global I.ok.kind hg (Calls.loadGlobal_builtin (by rw [I.ok.glob];exact I.mod.glob.keeps I.bk) hm (by rw [I.ok.blt];exact h1.keeps I.bk) ((h2 x hn).trans hv) h) hd
theorem pe_glob {v:V} (hg:Gl X x) (hm:X.mg x=some u) (r:RelV v u) (hd:(x==("__debug__":Str))=false:=by decide):PE X (.Name x pos) (tC v):=
 fun _ _ _ H _ I h=>ld_glob I hg hm ⟨v,H,I,r,h⟩ hd
theorem pe_bltn {v:V} (hg:Gl X x) (hm:X.mg x=none) (hv:bootBuiltins x=some u) (r:RelV v u) (hn:x ≠ "__name__":=by decide) (hd:(x==("__debug__":Str))=false:=by decide):PE X (.Name x pos) (tC v):=
 fun _ _ _ H _ I h=>zET I hg hm hv ⟨v,H,I,r,h⟩ hn hd
variable {a b:Expr} {ta tb:TE} {pos:Pos}
def PC (X:Cx) (op:CmpOp) (a b:Expr) (t:TE):Prop:=
 ∀(pins:List (Addr×Obj)) (s:Shared) (σ:St) (H:Hp) (Q:VK),Inv X pins σ H s->t σ H Q ->
  wpAny (model X.prog X.w) X.A (eval a X.env) (fun v s₁=>wpAny (model X.prog X.w) X.A (eval b X.env) (fun u s₂=>wpAny (model X.prog X.w) X.A (compareOp op v u) (EP X pins σ Q) X.xe s₂) X.xe s₁) X.xe s
def tB (t:TE):TT:=fun σ H Q=>t σ H fun x H1=>∃c,x=.bl c/\Q c H1
theorem pe_cmp {op:CmpOp} {t:TE} (h:PC X op a b t) (h1:behindInMarks op b=false:=by first | exact nobehind _ (by decide) (by decide) | rfl):PE X (.Compare a [op] [b] pos) t:=fun pins s σ H Q I hw=>wpAny_Compare1 (h pins s σ H Q I hw) h1
theorem zGD {op:CmpOp} {t:TE} (h:PC X op a b t) (h1:behindInMarks op b=false:=by first | exact nobehind _ (by decide) (by decide) | rfl):PT X (.Compare a [op] [b] pos) (tB t):=by
 intro pins s σ H Q I hw
 refine wpAny_isTrue_Compare1 (thn (h pins s σ H _ I hw) fun v s1 h1=>thn h1 fun u s2 h2=>thn h2 fun c s3 ⟨x,H1,I1,r1,q1⟩=>?_) h1
 obtain ⟨d,rfl,q⟩:=q1
 cases r1
 exact wpAny_truthy_bool ⟨H1,I1,q⟩
theorem zED {t:TE} (h:PE X e t) (he:∀whole,isTrue e X.env whole=(do let v <-whole;standAt e.pos;holding [v] (truthy v)):=by intro _;rfl):PT X e (tB t):=by
 intro pins s σ H Q I hw
 refine isTrue_plain (thn (h pins s σ H _ I hw) fun v s1 ⟨x,H1,I1,r1,q1⟩=>?_) (he _)
 obtain ⟨d,rfl,q⟩:=q1
 cases r1
 exact wpAny_truthy_bool ⟨H1,I1,q⟩
variable {tA tB':TT} {rest:List Expr}
def tAnd (t u:TT):TT:=fun σ H Q=>t σ H fun c H1=>if c=true then u σ H1 Q else Q false H1
def tOr (t u:TT):TT:=fun σ H Q=>t σ H fun c H1=>if c=true then Q true H1 else u σ H1 Q
def tNot (t:TT):TT:=fun σ H Q=>t σ H fun c H1=>Q (!c) H1
theorem pw_and1 (ha:PT X a tA):PW X (.BoolOp .And [a] pos) tA:=by
 intro wh pins s σ H Q I h
 refine isTrue_and (thn (ha pins s σ H Q I h) fun c s1 e=>?_)
 cases c with
 | true=>exact isTrue_and_nil e
 | false=>exact e
theorem pw_or1 (ha:PT X a tA):PW X (.BoolOp .Or [a] pos) tA:=by
 intro wh pins s σ H Q I h
 refine isTrue_or (thn (ha pins s σ H Q I h) fun c s1 e=>?_)
 cases c with
 | false=>exact isTrue_or_nil e
 | true=>exact e
theorem pw_and (ha:PT X a tA) (hb:PW X (.BoolOp .And (b::rest) pos) tB'):PW X (.BoolOp .And (a::b::rest) pos) (tAnd tA tB'):=by
 intro wh pins s σ H Q I h
 refine isTrue_and (thn (ha pins s σ H _ I h) fun c s1 ⟨H1,I1,q1⟩=>?_)
 cases c with
 | true=>exact hb wh pins s1 σ H1 Q I1 q1
 | false=>exact ⟨H1,I1,q1⟩
theorem pw_or (ha:PT X a tA) (hb:PW X (.BoolOp .Or (b::rest) pos) tB'):PW X (.BoolOp .Or (a::b::rest) pos) (tOr tA tB'):=by
 intro wh pins s σ H Q I h
 refine isTrue_or (thn (ha pins s σ H _ I h) fun c s1 ⟨H1,I1,q1⟩=>?_)
 cases c with
 | true=>exact ⟨H1,I1,q1⟩
 | false=>exact hb wh pins s1 σ H1 Q I1 q1
theorem zFM (ha:PT X a tA):PT X (.UnaryOp .Not a pos) (tNot tA):=by
 intro pins s σ H Q I h
 exact isTrue_not (ha pins s σ H (fun c H1=>Q (!c) H1) I h)
def tAndV (ta tb:TE):TE:=fun σ H Q=>ta σ H fun x H1=>∃c,x=.bl c/\if c=true then tb σ H1 Q else Q (.bl false) H1
def tOrV (ta tb:TE):TE:=fun σ H Q=>ta σ H fun x H1=>∃c,x=.bl c/\if c=true then Q (.bl true) H1 else tb σ H1 Q
def tNotV (ta:TE):TE:=fun σ H Q=>ta σ H fun x H1=>∃c,x=.bl c/\Q (.bl (!c)) H1
theorem pe_one {op} {t:TE} (h:PE X a t):PE X (.BoolOp op [a] pos) t:=fun pins s σ H Q I hw=>BoolOp_one (h pins s σ H Q I hw)
theorem pe_and (ha:PE X a ta) (hb:PE X (.BoolOp .And (b::rest) pos) tb):PE X (.BoolOp .And (a::b::rest) pos) (tAndV ta tb):=by
 intro pins s σ H Q I h
 refine BoolOp_and (thn (ha pins s σ H _ I h) fun v s1 ⟨x,H1,I1,r1,q1⟩=>?_)
 obtain ⟨c,rfl,q1⟩:=q1
 cases r1
 refine wpAny_truthy_bool ?_
 cases c with
 | true=>exact hb pins s1 σ H1 Q I1 q1
 | false=>exact ⟨.bl false,H1,I1,rfl,q1⟩
theorem pe_or (ha:PE X a ta) (hb:PE X (.BoolOp .Or (b::rest) pos) tb):PE X (.BoolOp .Or (a::b::rest) pos) (tOrV ta tb):=by
 intro pins s σ H Q I h
 refine BoolOp_or (thn (ha pins s σ H _ I h) fun v s1 ⟨x,H1,I1,r1,q1⟩=>?_)
 obtain ⟨c,rfl,q1⟩:=q1
 cases r1
 refine wpAny_truthy_bool ?_
 cases c with
 | false=>exact hb pins s1 σ H1 Q I1 q1
 | true=>exact ⟨.bl true,H1,I1,rfl,q1⟩
theorem pe_not (ha:PE X a ta):PE X (.UnaryOp .Not a pos) (tNotV ta):=by
 intro pins s σ H Q I h
 refine UnaryOp_ (thn (ha pins s σ H _ I h) fun v s1 ⟨x,H1,I1,r1,q1⟩=>?_)
 obtain ⟨c,rfl,q1⟩:=q1
 cases r1
 exact not_of (wpAny_truthy_bool ⟨.bl (!c),H1,I1,rfl,q1⟩)
def tIf (t:TT) (ta tb:TE):TE:=fun σ H Q=>t σ H fun c H1=>if c=true then ta σ H1 Q else tb σ H1 Q
theorem pe_ifExp (hc:PT X c tA) (ha:PE X a ta) (hb:PE X b tb):PE X (.IfExp c a b pos) (tIf tA ta tb):=by
 intro pins s σ H Q I h
 refine wpAny_IfExp (thn (hc pins s σ H _ I h) fun d s1 ⟨H1,I1,q1⟩=>?_)
 cases d with
 | true=>exact ha pins s1 σ H1 Q I1 q1
 | false=>exact hb pins s1 σ H1 Q I1 q1
end
def SqL (K:Fg) (H:Hp) (a:Addr) (xs:List V):Prop:=
 Rd H a (.lst xs) \/
  ∃(o:Obj) (its:Array Value) (n:Nat),K.lookup a=some o/\o.cls=.type "list"/\o.dict=none/\o.data=.seq its n/\its.size<=sizeLine/\Vals xs its.toList
def SqT (K:Fg) (H:Hp) (a:Addr) (xs:List V):Prop:=
 Rd H a (.tup xs) \/
  ∃(o:Obj) (its:Array Value) (n:Nat),K.lookup a=some o/\o.cls=.type "tuple"/\o.data=.seq its n/\its.size<=sizeLine/\Vals xs its.toList
def absV:Value->Option V
 | .none=>some .non
 | .bool b=>some (.bl b)
 | .int i _=>some (.int i)
 | .str x _=>some (.str x)
 | .bytes b _=>some (.byt b)
 | .float b _=>some (.flt b)
 | .ref a=>some (.ref a)
 | .type n=>some (.ty n)
 | _=>none
theorem RelV.abs {x:V} (r:RelV x u):absV u=some x:=by
 cases x with
 | non=>cases r;rfl
 | bl _=>cases r;rfl
 | int _=>obtain ⟨t,rfl⟩:=r;rfl
 | str _=>obtain ⟨t,rfl⟩:=r;rfl
 | byt _=>obtain ⟨t,rfl⟩:=r;rfl
 | flt _=>obtain ⟨t,rfl⟩:=r;rfl
 | ref _=>cases r;rfl
 | ty _=>cases r;rfl
theorem RelV.inj {x y:V} (r:RelV x u) (q:RelV y u):x=y:=Option.some.inj (r.abs.symm.trans q.abs)
theorem Vals.inj:∀{xs ys:List V} {us:List Value},Vals xs us->Vals ys us->xs=ys
 | _,_,_,.nil,.nil=>rfl
 | _,_,_,.cons r t,.cons r' t'=>by rw [r.inj r',Vals.inj t t']
section
variable {X:Cx} {pins:List (Addr×Obj)} {σ:St} {H:Hp} {s:Shared} {a:Addr} {xs ys:List V}
theorem SqL.of (h:H a=some (.lst xs)):SqL K H a xs:=.inl (.inl h)
theorem SqT.of (h:H a=some (.tup xs)):SqT K H a xs:=.inl (.inl h)
theorem Inv.list (I:Inv X pins σ H s) (h:SqL X.K H a xs):∃its:List Value,Vals xs its/\PlainL s.heap a its.toArray/\xs.length<=sizeLine:=by
 rcases h with h | ⟨o,its,n,hk,hc,hd,hs,hz,r⟩
 ·obtain ⟨z,its,n,r,e⟩:=h.ok I.hok
  exact ⟨its,r,⟨_,n,e,rfl,rfl,rfl⟩,z⟩
 ·refine ⟨its.toList,r,⟨o,n,I.kIn a o hk,hc,hd,by simpa using hs⟩,?_⟩
  have e:=r.length
  simp only [Array.length_toList] at e
  omega
theorem Inv.tuple (I:Inv X pins σ H s) (h:SqT X.K H a xs):∃its:List Value,Vals xs its/\IsTup s.heap a its.toArray/\xs.length<=sizeLine:=by
 rcases h with h | ⟨o,its,n,hk,hc,hs,hz,r⟩
 ·obtain ⟨z,its,r,p⟩:=h.ok I.hok
  exact ⟨its,r,p,z⟩
 ·refine ⟨its.toList,r,⟨o,I.kIn a o hk,hc,n,by simpa using hs⟩,?_⟩
  have e:=r.length
  simp only [Array.length_toList] at e
  omega
theorem Inv.list_inj (I:Inv X pins σ H s) (h:SqL X.K H a xs) (h':SqL X.K H a ys):xs=ys:=by
 obtain ⟨its,r,⟨o,n,e,_,_,d⟩,_⟩:=I.list h
 obtain ⟨its',r',⟨o',n',e',_,_,d'⟩,_⟩:=I.list h'
 rw [e] at e';cases e'
 rw [d] at d'
 injection d' with d1 _
 have:its=its':=by simpa using congrArg Array.toList d1
 subst this
 exact r.inj r'
theorem Inv.tuple_inj (I:Inv X pins σ H s) (h:SqT X.K H a xs) (h':SqT X.K H a ys):xs=ys:=by
 obtain ⟨its,r,⟨o,e,_,n,d⟩,_⟩:=I.tuple h
 obtain ⟨its',r',⟨o',e',_,n',d'⟩,_⟩:=I.tuple h'
 rw [e] at e';cases e'
 rw [d] at d'
 injection d' with d1 _
 have:its=its':=by simpa using congrArg Array.toList d1
 subst this
 exact r.inj r'
end
abbrev Cx.wish (X:Cx) (E:Value->Shared->Prop):Cx:={ X with xe:=E }
abbrev Cx.nox (X:Cx):Cx:=X.wish fun _ _=>False
theorem Cx.Ok.wish {X:Cx} (ok:X.Ok) (E:Value->Shared->Prop):(X.wish E).Ok:=
 ⟨ok.mod,ok.kind,ok.glob,ok.blt,ok.above,ok.inj,ok.has,ok.cab,ok.hd,ok.frames,ok.stk,ok.exf,ok.bs,ok.bsz,ok.noex,ok.exfs,ok.funs,ok.frf⟩
theorem Cx.Ok.unwish {X:Cx} {E:Value->Shared->Prop} (ok:(X.wish E).Ok):X.Ok:=
 ⟨ok.mod,ok.kind,ok.glob,ok.blt,ok.above,ok.inj,ok.has,ok.cab,ok.hd,ok.frames,ok.stk,ok.exf,ok.bs,ok.bsz,ok.noex,ok.exfs,ok.funs,ok.frf⟩
section
variable {X:Cx} {pins:List (Addr×Obj)} {σ:St} {H:Hp} {s:Shared} {E:Value->Shared->Prop}
theorem Inv.wish (I:Inv X pins σ H s) (E:Value->Shared->Prop):Inv (X.wish E) pins σ H s:=⟨I.ok.wish E,I.os,I.bare,I.base,I.loc,I.cell,I.free,I.freeC,I.pin,I.hok,I.len⟩
theorem Inv.unwish (I:Inv (X.wish E) pins σ H s):Inv X pins σ H s:=⟨I.ok.unwish,I.os,I.bare,I.base,I.loc,I.cell,I.free,I.freeC,I.pin,I.hok,I.len⟩
theorem SP.unwish {D:Ends} {f:Flow} (h:SP (X.wish E) pins D f s'):SP X pins D f s':=by
 cases f with
 | next=>obtain ⟨σ',H',I,q⟩:=h;exact ⟨σ',H',I.unwish,q⟩
 | brk=>obtain ⟨σ',H',I,q⟩:=h;exact ⟨σ',H',I.unwish,q⟩
 | cont=>obtain ⟨σ',H',I,q⟩:=h;exact ⟨σ',H',I.unwish,q⟩
 | ret u=>obtain ⟨v,σ',H',I,r,q⟩:=h;exact ⟨v,σ',H',I.unwish,r,q⟩
theorem PSs.nox {st:List Stmt} {t:TS} (h:PSs X.nox st t):PSs X st t:=fun pins s σ H D I hw=>
 wpAny_mono (h pins s σ H D (I.wish _) hw) (fun _ _ q=>q.unwish) fun _ _ z=>False.elim z
end
section
variable {X:Cx} {st:Stmt} {rest:List Stmt} {t u:TS} {e:Expr} {te:TE} {pos:Pos}
def tNext:TS:=fun D σ H=>D.nx σ H
def tSeq (t u:TS):TS:=fun D σ H=>t { D with nx:=u D } σ H
theorem zBM:PSs X [] tNext:=fun _ _ σ H _ I h=>wpAny_execs_nil ⟨σ,H,I,h⟩
theorem zAJ (h1:PS X st t) (h2:PSs X rest u):PSs X (st::rest) (tSeq t u):=by
 intro pins s σ H D I h
 refine wpAny_execs_cons (thn (h1 pins s σ H { D with nx:=u D } I h) fun f s1 q=>?_)
 cases f with
 | next=>
  obtain ⟨σ',H',I',q⟩:=q
  exact h2 pins s1 σ' H' D I' q
 | ret v=>exact q
 | brk=>exact q
 | cont=>exact q
theorem zAL (h1:PS X st t):PSs X [st] t:=by
 intro pins s σ H D I h
 refine wpAny_execs_cons (thn (h1 pins s σ H D I h) fun f s1 q=>?_)
 cases f with
 | next=>exact wpAny_execs_nil q
 | ret v=>exact q
 | brk=>exact q
 | cont=>exact q
theorem Inv.quiet {σ:St} {H:Hp} {s:Shared} (I:Inv X pins σ H s):interactive X.env=false:=by simp [interactive,I.ok.kind]
def tDrop (te:TE):TS:=fun D σ H=>te σ H fun _ H1=>D.nx σ H1
theorem zCA (he:PE X e te) (hs:swapsWith e none pos.line X.env=pure false:=by rfl):PS X (.Expr e pos) (tDrop te):=by
 intro pins s σ H D I h
 exact wpAny_Expr_any (thn (he pins s σ H _ I h) fun v s1 ⟨x,H1,I1,r1,q1⟩=>⟨σ,H1,I1,q1⟩) I.quiet hs
def tRet (te:TE):TS:=fun D σ H=>te σ H D.rt
theorem zBL (he:PE X e te):PS X (.Return (some e) pos) (tRet te):=by
 intro pins s σ H D I h
 exact wpAny_Return_some (thn (he pins s σ H _ I h) fun v s1 ⟨x,H1,I1,r1,q1⟩=>⟨x,σ,H1,I1,r1,q1⟩)
def tIfS (c:TT) (t u:TS):TS:=fun D σ H=>c σ H fun b H1=>if b=true then t D σ H1 else u D σ H1
theorem ps_if {a b:List Stmt} {tc:TT} (hc:PT X c tc) (ha:PSs X a t) (hb:PSs X b u):PS X (.If c a b pos) (tIfS tc t u):=by
 intro pins s σ H D I h
 refine wpAny_If (thn (hc pins s σ H _ I h) fun d s1 ⟨H1,I1,q1⟩=>?_)
 cases d with
 | true=>exact ha pins s1 σ H1 D I1 q1
 | false=>exact hb pins s1 σ H1 D I1 q1
end
abbrev TG:=V->St->Hp->(St->Hp->Prop)->Prop
abbrev TGs:=List V->St->Hp->(St->Hp->Prop)->Prop
def PG (X:Cx) (target:Expr) (t:TG):Prop:=
 ∀(pins:List (Addr×Obj)) (s:Shared) (σ:St) (H:Hp) (v:V) (u:Value) (Q:St->Hp->Prop),Inv X pins σ H s->RelV v u->t v σ H Q ->
  wpAny (model X.prog X.w) X.A (assign target X.env u) (fun _ s'=>∃σ' H',Inv X pins σ' H' s'/\Q σ' H') X.xe s
def PGs (X:Cx) (ts:List Expr) (t:TGs):Prop:=
 ∀(pins:List (Addr×Obj)) (s:Shared) (σ:St) (H:Hp) (vs:List V) (us:List Value) (Q:St->Hp->Prop),Inv X pins σ H s->Vals vs us->t vs σ H Q ->
  wpAny (model X.prog X.w) X.A (assignInOrder ((assignEach ts X.env).map (·.2)) us) (fun _ s'=>∃σ' H',Inv X pins σ' H' s'/\Q σ' H') X.xe s
abbrev TSet:=V->V->V->Hp->(Hp->Prop)->Prop
def PSet (X:Cx) (t:TSet):Prop:=
 ∀(pins:List (Addr×Obj)) (s:Shared) (σ:St) (H:Hp) (o i v:V) (ov iv u:Value) (Q:Hp->Prop),Inv X pins σ H s->RelV o ov->RelV i iv->RelV v u->t o i v H Q ->
  wpAny (model X.prog X.w) X.A (setItem ov iv u) (fun _ s'=>∃H',Inv X pins σ H' s'/\Q H') X.xe s
section
variable {X:Cx} {pos:Pos}
def gName (i:Nat):TG:=fun v σ H Q=>Q (σ.set i (some v)) H
theorem zB3 {i:Nat} (hN:X.N.Nodup) (hi:X.N[i]?=some x) (hx:Loc X.env.scope x) (hf:X.fn x=true\/X.env.scope.names.lookup x=some .local:=by first | exact .inl rfl | exact .inr rfl | assumption):PG X (.Name x pos) (gName i):=by
 intro pins s σ H v u Q I r h
 exact wpAny_assign_Name (store_ok I hN hi hx r (fun s' I'=>⟨_,H,I',h⟩) hf)
def gNil:TGs:=fun vs σ H Q=>vs=[]/\Q σ H
def gCons (t:TG) (u:TGs):TGs:=fun vs σ H Q=>∃v r,vs=v::r/\t v σ H fun σ' H'=>u r σ' H' Q
theorem zF1:PGs X [] gNil:=by
 intro pins s σ H vs us Q I r h
 obtain ⟨e,h⟩:=h
 subst e
 cases r
 exact assignInOrder_nil ⟨σ,H,I,h⟩
theorem zCL {t:TG} {u:TGs} (h1:PG X e t) (h2:PGs X es u)
  (hs:(assignEach (e::es) X.env).map (·.2)=assign e X.env::(assignEach es X.env).map (·.2):=by rfl):PGs X (e::es) (gCons t u):=by
 intro pins s σ H vs us Q I r h
 obtain ⟨v,vr,e1,h⟩:=h
 subst e1
 cases r with
 | cons r rr=>
  rw [hs]
  refine assignInOrder_cons (thn (h1 pins s σ H _ _ _ I r h) fun _ s1 ⟨σ1,H1,I1,q1⟩=>?_)
  exact h2 pins s1 σ1 H1 _ _ Q I1 rr q1
def gTup (K:Fg) (n:Nat) (t:TGs):TG:=fun v σ H Q=>∃a xs,v=.ref a/\SqT K H a xs/\xs.length=n/\t xs σ H Q
theorem zGT {k:Nat} {t:TGs} (hc:X.calm=true) (h:PGs X es t)
  (hn:(assignEach es X.env).length=n:=by rfl) (hst:(assignEach es X.env).findIdx? (·.1)=none:=by rfl):PG X (.Tuple es k pos) (gTup X.K n t):=by
 intro pins s σ H v u Q I r hw
 obtain ⟨a,xs,e1,hq,hl,hw⟩:=hw
 subst e1
 cases r
 obtain ⟨its,rv,ht,hz⟩:=I.tuple hq
 refine assign_Tuple_tuple (I.ok.hd hc) ht (by simp [hn,<-hl,rv.length]) hst fun h' hx=>?_
 have I1:Inv X pins σ H { s with heap:=h' }:=I.kept (t':=s.toks) fun b o e=>hx b o (Nat.ne_of_lt (Heap.lt_size e)) e
 exact h pins _ σ H xs _ Q I1 (by simpa using rv) hw
def gSub (to ti:TE) (t:TSet):TG:=fun v σ H Q=>to σ H fun o H1=>ti σ H1 fun i H2=>t o i v H2 fun H3=>Q σ H3
theorem pg_sub {o i:Expr} {to ti:TE} {t:TSet} (ho:PE X o to) (hi:PE X i ti) (hs:PSet X t)
  (ha:∀v,assign (.Subscript o i pos) X.env v=(do
   let ov <-holding [v] (eval o X.env)
   let iv <-holding [v,ov] (eval i X.env)
   standAt pos
   holding [v,ov,iv] (setItem ov iv v)
   release [v,ov,iv] []):=by intro _;rfl):PG X (.Subscript o i pos) (gSub to ti t):=by
 intro pins s σ H v u Q I r h
 rw [ha]
 refine wpAny_bind (wpAny_holding (thn (ho pins s σ H _ I h) fun ov s1 ⟨x,H1,I1,r1,q1⟩=>?_))
 refine wpAny_bind (wpAny_holding (thn (hi pins s1 σ H1 _ I1 q1) fun iv s2 ⟨y,H2,I2,r2,q2⟩=>?_))
 refine wpAny_bind (wpAny_standAt (wpAny_bind (wpAny_holding (thn (hs pins s2 σ H2 x y v ov iv u _ I2 r1 r2 r q2) fun _ s3 ⟨H3,I3,q3⟩=>?_))))
 exact wpAny_release ⟨σ,H3,I3,q3⟩
def tAsg (te:TE) (g:TG):TS:=fun D σ H=>te σ H fun x H1=>g x σ H1 D.nx
theorem ps_asg {te:TE} {g:TG} (he:PE X e te) (hg:PG X tg g) (hs:swapsWithSole [tg] e pos.line X.env=pure false:=by rfl) (hw:swappedStores [tg] e X.env=pure none:=by rfl)
  (h1:(assignEach [tg] X.env).map (·.2)=[assign tg X.env]:=by rfl):PS X (.Assign [tg] e pos) (tAsg te g):=by
 intro pins s σ H D I h
 refine wpAny_Assign_stores (thn (he pins s σ H _ I h) fun v s1 ⟨x,H1,I1,r1,q1⟩=>?_) hs hw
 rw [h1]
 exact thn (hg pins s1 σ H1 x v _ I1 r1 q1) fun _ s2 q=>q
theorem zDF {i:Nat} {te:TE} {pos':Pos} (hN:X.N.Nodup) (hi:X.N[i]?=some x) (hx:Loc X.env.scope x) (he:PE X e te) (hs:swapsWith e (some (.Name x pos')) pos.line X.env=pure false:=by rfl) (hf:X.fn x=true\/X.env.scope.names.lookup x=some .local:=by first | exact .inl rfl | exact .inr rfl | assumption) :
  PS X (.Assign [.Name x pos'] e pos) (tAsg te (gName i)):=by
 intro pins s σ H D I h
 refine wpAny_Assign_Name (thn (he pins s σ H _ I h) fun v s1 ⟨y,H1,I1,r1,q1⟩=>?_) hs
 exact store_ok I1 hN hi hx r1 (fun s2 I2=>⟨_,H1,I2,q1⟩) hf
end
section
variable {X:Cx} {pos:Pos}
def zEQ (c:TT) (tb:TS):TS:=fun D σ H=>∃W:Nat->St->Hp->Prop,(∃m,W m σ H)/\∀m σ H,W m σ H ->
 c σ H fun b H1=>if b=true then ∃N:St->Hp->Prop,(∀σ' H',N σ' H'->∃m',m'<m/\W m' σ' H')/\tb { D with nx:=N,ct:=N,bk:=D.nx } σ H1 else D.nx σ H1
theorem zE3 {body:List Stmt} {tc:TT} {tb:TS} (hp:PassesOwn (model X.prog X.w) X.A X.env X.xe) (hc:PT X c tc) (hb:PSs X body tb):PS X (.While c body [] pos) (zEQ tc tb):=by
 intro pins s σ H D I h
 obtain ⟨W,⟨m0,w0⟩,turn⟩:=h
 refine wpAny_While (codeAny_whileLoop (fun n s'=>∃σ' H',Inv X pins σ' H' s'/\W n σ' H') ?_ m0 ⟨σ,H,I,w0⟩)
 rintro n s1 ⟨σ1,H1,I1,w1⟩
 refine wpAny_passesOwn hp (thn (hc pins s1 σ1 H1 _ I1 (turn n σ1 H1 w1)) fun b s2 ⟨H2,I2,q2⟩=>?_)
 cases b with
 | true=>
  obtain ⟨N,hN,q2⟩:=q2
  rw [if_pos rfl]
  refine wpAny_passesOwn hp (thn (hb pins s2 σ1 H2 _ I2 q2) fun f s3 q3=>?_)
  cases f with
  | next=>
   obtain ⟨σ3,H3,I3,n3⟩:=q3
   obtain ⟨m',hm,w3⟩:=hN σ3 H3 n3
   exact ⟨m',hm,σ3,H3,I3,w3⟩
  | cont=>
   obtain ⟨σ3,H3,I3,n3⟩:=q3
   obtain ⟨m',hm,w3⟩:=hN σ3 H3 n3
   exact ⟨m',hm,σ3,H3,I3,w3⟩
  | brk=>exact q3
  | ret v=>exact q3
 | false=>
  rw [if_neg Bool.false_ne_true]
  exact wpAny_execs_nil ⟨σ1,H2,I2,q2⟩
end
structure It where
 go:Nat->Hp->Prop
 yld:Nat->Hp->V->Hp->Prop
 stop:Nat->Hp->Prop
def FpOk (X:Cx) (pins:List (Addr×Obj)) (H:Hp) (b:Addr):Prop:=
 H b=none/\b≠X.env.locals/\b∉X.fs/\(b∈X.ex\/X.s₀.heap.objs.size<=b)/\(∀x c,X.env.cells.lookup x=some c->c≠b)/\∀p∈X.pn++pins,p.1≠b
theorem Inv.fpOk {X:Cx} {σ:St} {H H':Hp} {s:Shared} (I:Inv X pins σ H s) (hb:s.heap.objs.size<=b) (hn:H' b=none):FpOk X pins H' b:=by
 refine ⟨hn,Nat.ne_of_gt (Nat.lt_of_lt_of_le I.lt hb),I.nofs hb,.inr (Nat.le_trans I.sz hb),fun x c e z=>?_,fun p hp z=>?_⟩
 ·obtain ⟨v,q⟩:=I.cell x c e
  exact absurd (Nat.lt_of_lt_of_le q.lt (by rw [z];exact hb)) (Nat.lt_irrefl _)
 ·exact absurd (Nat.lt_of_lt_of_le (Heap.lt_size (I.pin p hp).1) (by rw [z];exact hb)) (Nat.lt_irrefl _)
structure Turn (P:Program) (w:World) (K:Fg) (tg:Expr) (J:It) (fp:List Addr) (it:Addr) (tn:Nat->Heap->Prop):Prop where
 mem:it∈fp
 obj:∀i h,tn i h->∀b∈fp,∃o,h.get? b=some o/\∀v,o.data≠.cell v
 keep:∀i h h',tn i h->(∀b∈fp,∀o,h.get? b=some o->h'.get? b=some o)->tn i h'
 item:∀(X:Cx),X.prog=P->X.w=w->X.K=K->X.calm=true->∀(i:Nat) (pins:List (Addr×Obj)) (s:Shared) (σ:St) (H:Hp) (E:Value->Shared->Prop),Inv X pins σ H s->(∀b∈fp,FpOk X pins H b)->tn i s.heap->J.go i H ->
  wpAny (model P w) X.A (pyNext (.ref it)) (fun r s1=>∃u,r=some u /\
   wpAny (model P w) X.A (letOwnedTupleGo tg (.ref it) u) (fun _ s2=>∃x H',Inv X pins σ H' s2/\RelV x u/\J.yld i H x H'/\tn (i+1) s2.heap/\∀b∈fp,H' b=none) E s1) E s
 done:∀(X:Cx),X.prog=P->X.w=w->X.K=K->X.calm=true->∀(i:Nat) (pins:List (Addr×Obj)) (s:Shared) (σ:St) (H:Hp) (E:Value->Shared->Prop),Inv X pins σ H s->(∀b∈fp,FpOk X pins H b)->tn i s.heap->J.stop i H ->
  wpAny (model P w) X.A (pyNext (.ref it)) (fun r s1=>r=none/\Inv X pins σ H s1) E s
 self:∀(A:Around) (i:Nat) (s:Shared) (Q:Value->Shared->Prop) (E:Value->Shared->Prop),tn i s.heap->Q (.ref it) s->wpAny (model P w) A (pyIter (.ref it)) Q E s
abbrev TI:=St->Hp->(It->Hp->Prop)->Prop
def PIE (X:Cx) (pins:List (Addr×Obj)) (σ:St) (tg:Expr) (R:It->Hp->Prop) (itv:Value) (s2:Shared):Prop:=
 ∃(it:Addr) (fp:List Addr) (tn:Nat->Heap->Prop) (J:It) (H':Hp),itv=.ref it/\Inv X pins σ H' s2/\Turn X.prog X.w X.K tg J fp it tn/\tn 0 s2.heap/\(∀b∈fp,FpOk X pins H' b)/\R J H'
def PI (X:Cx) (tg iter:Expr) (wi:TI):Prop:=
 ∀(pins:List (Addr×Obj)) (s:Shared) (σ:St) (H:Hp) (R:It->Hp->Prop),Inv X pins σ H s->wi σ H R ->
  wpAny (model X.prog X.w) X.A (eval iter X.env) (fun v s1=>wpAny (model X.prog X.w) X.A (pyIter v) (PIE X pins σ tg R) X.xe s1) X.xe s
theorem go_of {E:Value->Shared->Prop} {s:Shared} {n:String} {vs:Array Value} {Q:Unit->Shared->Prop} (ho:s.heap.get? it=some o) (hc:o.cls=.type n) (hd:o.data=.fields vs)
  (hn:["enumerate", "zip", "dict_itemiterator", "dict_reverseitemiterator", "odict_iterator", "itertools.zip_longest", "itertools.pairwise"].contains n=false) (hQ:Q () s):wpAny M A (letOwnedTupleGo tg (.ref it) u) Q E s:=by
 unfold letOwnedTupleGo
 cases tg<;>first
  | exact wpAny_pure hQ
  | (cases u<;>first
      | exact wpAny_pure hQ
      | (refine wpAny_bind (wpAny_load ho ?_)
         rw [hc,hd]
         show wpAny M A (if (["enumerate", "zip", "dict_itemiterator", "dict_reverseitemiterator", "odict_iterator", "itertools.zip_longest", "itertools.pairwise"].contains n&&vs[0]?==some (rawInt _))=true then _ else _) Q E s
         rw [if_neg (by intro h;rw [hn,Bool.false_and] at h;cases h)]
         exact wpAny_pure hQ))
def Itl (K:Fg) (a:Addr):It:=
 ⟨fun i H=>∃xs x,SqL K H a xs/\xs[i]?=some x,fun i H x H'=>H'=H/\∀xs,SqL K H a xs->xs[i]?=some x,fun i H=>∃xs,SqL K H a xs/\xs.length<=i⟩
def Itt (K:Fg) (a:Addr):It:=
 ⟨fun i H=>∃xs x,SqT K H a xs/\xs[i]?=some x,fun i H x H'=>H'=H/\∀xs,SqT K H a xs->xs[i]?=some x,fun i H=>∃xs,SqT K H a xs/\xs.length<=i⟩
def Itr (lo:Int) (n:Nat):It:=⟨fun i _=>i<n,fun i H x H'=>H'=H/\x=.int (lo+i),fun i _=>n<=i⟩
theorem turn_list {P:Program} {w:World} (a it:Addr):Turn P w K tg (Itl K a) [it] it (fun i h=>h.IsListIter it a i) where
 mem:=by simp
 obj:=fun i h st b hb=>by
  have e:b=it:=by simpa using hb
  subst e
  obtain ⟨o,e,c,d⟩:=st
  exact ⟨o,e,fun v z=>by rw [d] at z;cases z⟩
 keep:=fun i h h' st k=>st.at fun o e=>k it (by simp) o e
 item:=by
  intro X hP hw hK hc i pins s σ H E I hf st hg
  subst hP hw hK
  obtain ⟨xs,x,hq,hx⟩:=hg
  obtain ⟨its,rv,p,hz⟩:=I.list hq
  obtain ⟨u,hu,ru⟩:=rv.get hx
  obtain ⟨f0,f1,f2,f3,f4,f5⟩:=hf it (by simp)
  refine wpAny_pyNext_list_item st p.isList (x:=u) (by simpa using hu) fun h' st' sb=>?_
  have I1:Inv X pins σ H { s with heap:=h' }:=I.turned (t':=s.toks) (fun b o hb e=>(sb.2 b hb).trans e) f0 f1 f3 f4 f5
  obtain ⟨o,e,c,d⟩:=id st'
  exact ⟨u,rfl,go_of (s:={ s with heap:=h' }) e c d (by decide) ⟨x,H,I1,ru,⟨rfl,fun ys hy=>by rw [I.list_inj hy hq];exact hx⟩,st',fun b hb=>(hf b hb).1⟩⟩
 done:=by
  intro X hP hw hK hc i pins s σ H E I hf st hg
  subst hP hw hK
  obtain ⟨xs,hq,hx⟩:=hg
  obtain ⟨its,rv,p,hz⟩:=I.list hq
  obtain ⟨f0,f1,f2,f3,f4,f5⟩:=hf it (by simp)
  have hl:=rv.length
  exact wpAny_pyNext_list_end (I.ok.hd hc) st p.isList (by simp;omega) fun h' eb=>⟨rfl,I.turned (t':=s.toks) (fun b o hb e=>eb b o hb e) f0 f1 f3 f4 f5⟩
 self:=fun _ _ _ _ _ st h=>wpAny_pyIter_listiter st h
theorem turn_tuple {P:Program} {w:World} (a it:Addr):Turn P w K tg (Itt K a) [it] it (fun i h=>h.IsTupleIter it a i) where
 mem:=by simp
 obj:=fun i h st b hb=>by
  have e:b=it:=by simpa using hb
  subst e
  obtain ⟨o,e,c,d⟩:=st
  exact ⟨o,e,fun v z=>by rw [d] at z;cases z⟩
 keep:=fun i h h' st k=>st.at fun o e=>k it (by simp) o e
 item:=by
  intro X hP hw hK hc i pins s σ H E I hf st hg
  subst hP hw hK
  obtain ⟨xs,x,hq,hx⟩:=hg
  obtain ⟨its,rv,p,hz⟩:=I.tuple hq
  obtain ⟨u,hu,ru⟩:=rv.get hx
  obtain ⟨f0,f1,f2,f3,f4,f5⟩:=hf it (by simp)
  refine wpAny_pyNext_tuple_item st (show s.heap.IsTuple a its.toArray from p) (x:=u) (by simpa using hu) fun h' st' sb=>?_
  have I1:Inv X pins σ H { s with heap:=h' }:=I.turned (t':=s.toks) (fun b o hb e=>(sb.2 b hb).trans e) f0 f1 f3 f4 f5
  obtain ⟨o,e,c,d⟩:=id st'
  exact ⟨u,rfl,go_of (s:={ s with heap:=h' }) e c d (by decide) ⟨x,H,I1,ru,⟨rfl,fun ys hy=>by rw [I.tuple_inj hy hq];exact hx⟩,st',fun b hb=>(hf b hb).1⟩⟩
 done:=by
  intro X hP hw hK hc i pins s σ H E I hf st hg
  subst hP hw hK
  obtain ⟨xs,hq,hx⟩:=hg
  obtain ⟨its,rv,p,hz⟩:=I.tuple hq
  obtain ⟨f0,f1,f2,f3,f4,f5⟩:=hf it (by simp)
  have hl:=rv.length
  exact wpAny_pyNext_tuple_end (I.ok.hd hc) st (show s.heap.IsTuple a its.toArray from p) (by simp;omega) fun h' eb=>⟨rfl,I.turned (t':=s.toks) (fun b o hb e=>eb b o hb e) f0 f1 f3 f4 f5⟩
 self:=fun _ _ _ _ _ st h=>wpAny_pyIter_tupleiter st h
theorem turn_range {P:Program} {w:World} (it:Addr) (lo:Int) (n:Nat):Turn P w K tg (Itr lo n) [it] it (fun i h=>IsRangeIter h it (lo+(i:Nat)*1) ((n:Int)-(i:Nat)) 1) where
 mem:=by simp
 obj:=fun i h st b hb=>by
  have e:b=it:=by simpa using hb
  subst e
  exact ⟨_,st,fun v z=>by
   have z':Data.fields _=Data.cell v:=z
   cases z'⟩
 keep:=fun i h h' st k=>k it (by simp) _ st
 item:=by
  intro X hP hw hK hc i pins s σ H E I hf st hg
  subst hP hw hK
  obtain ⟨f0,f1,f2,f3,f4,f5⟩:=hf it (by simp)
  have W:=Walks.range (prog:=X.prog) (w:=X.w) (I.ok.hd hc) it lo 1 n
  refine W.item i s _ _ hg st fun v h' tk hv st' kk=>?_
  obtain ⟨t,rfl⟩:=hv
  have I1:Inv X pins σ H { s with heap:=h',toks:=tk }:=I.turned (fun b o hb e=>kk b o (by simpa using hb) e) f0 f1 f3 f4 f5
  refine ⟨_,rfl,go_of (s:={ s with heap:=h',toks:=tk }) (n := "range_iterator") st' rfl rfl (by decide) ⟨.int (lo+i),H,I1,⟨t,?_⟩,⟨rfl,rfl⟩,st',fun b hb=>(hf b hb).1⟩⟩
  rw [Int.mul_one]
 done:=by
  intro X hP hw hK hc i pins s σ H E I hf st hg
  subst hP hw hK
  obtain ⟨f0,f1,f2,f3,f4,f5⟩:=hf it (by simp)
  exact wpAny_pyNext_range_end (I.ok.hd hc) st (by have:n<=i:=hg;omega) fun h' eb=>⟨rfl,I.turned (t':=s.toks) (fun b o hb e=>eb b o hb e) f0 f1 f3 f4 f5⟩
 self:=fun _ _ _ _ _ st h=>wpAny_pyIter_rangeiter st h
section
variable {X:Cx} {tg:Expr}
def iList (K:Fg) (tl:TE):TI:=fun σ H R=>tl σ H fun x H1=>∃a,x=.ref a/\(∃xs,SqL K H1 a xs)/\R (Itl K a) H1
def iTup (K:Fg) (tl:TE):TI:=fun σ H R=>tl σ H fun x H1=>∃a,x=.ref a/\(∃xs,SqT K H1 a xs)/\R (Itt K a) H1
theorem zB2 {tl:TE} (hl:PE X l tl):PI X tg l (iList X.K tl):=by
 intro pins s σ H R I h
 refine thn (hl pins s σ H _ I h) fun v s1 ⟨x,H1,I1,r1,q1⟩=>?_
 obtain ⟨a,e,⟨xs,hq⟩,q⟩:=q1
 subst e
 cases r1
 obtain ⟨its,rv,p,hz⟩:=I1.list hq
 refine wpAny_pyIter_list p.isList ?_
 refine ⟨s1.heap.objs.size,[s1.heap.objs.size],_,_,H1,rfl,I1.kept (t':=s1.toks) fun b o e=>Heap.get?_push_of_some _ e,turn_list a _,⟨_,Heap.get?_push_size _ rfl,rfl,rfl⟩,fun b hb=>?_,q⟩
 have e:b=s1.heap.objs.size:=by simpa using hb
 subst e
 exact I1.fpOk (Nat.le_refl _) (I1.hok.fresh (Nat.le_refl _))
theorem pi_tup {tl:TE} (hl:PE X l tl):PI X tg l (iTup X.K tl):=by
 intro pins s σ H R I h
 refine thn (hl pins s σ H _ I h) fun v s1 ⟨x,H1,I1,r1,q1⟩=>?_
 obtain ⟨a,e,⟨xs,hq⟩,q⟩:=q1
 subst e
 cases r1
 obtain ⟨its,rv,p,hz⟩:=I1.tuple hq
 refine wpAny_pyIter_tuple (show s1.heap.IsTuple a its.toArray from p) ?_
 refine ⟨s1.heap.objs.size,[s1.heap.objs.size],_,_,H1,rfl,I1.kept (t':=s1.toks) fun b o e=>Heap.get?_push_of_some _ e,turn_tuple a _,⟨_,Heap.get?_push_size _ rfl,rfl,rfl⟩,fun b hb=>?_,q⟩
 have e:b=s1.heap.objs.size:=by simpa using hb
 subst e
 exact I1.fpOk (Nat.le_refl _) (I1.hok.fresh (Nat.le_refl _))
theorem range_it {σ:St} {H:Hp} {s:Shared} {R:It->Hp->Prop} {E:Value->Shared->Prop} {hi:Int} {t u v:Tok} {tk:Nat} (I:Inv X pins σ H s) (h1:-(2 ^ 62)<=lo) (h2:lo<2 ^ 62) (h3:-(2 ^ 62)<=hi) (h4:hi<2 ^ 62)
  (q:R (Itr lo (hi-lo).toNat) H):wpAny (model X.prog X.w) X.A (pyIter (.ref s.heap.objs.size)) (PIE X pins σ tg R) E { s with heap:=s.heap.push { cls:=.type "range",data:=.fields #[.int lo t,.int hi u,.int 1 v] },toks:=tk }:=by
 refine wpAny_pyIter_range (IsRange.new ..) (small_one h1 h2 h3 h4) ?_
 have I1:Inv X pins σ H { s with heap:=s.heap.push { cls:=.type "range",data:=.fields #[.int lo t,.int hi u,.int 1 v] },toks:=tk }:=I.kept fun b o e=>Heap.get?_push_of_some _ e
 refine ⟨(s.heap.push { cls:=.type "range",data:=.fields #[.int lo t,.int hi u,.int 1 v] }).objs.size,[(s.heap.push { cls:=.type "range",data:=.fields #[.int lo t,.int hi u,.int 1 v] }).objs.size],_,_,H,rfl,
  I1.kept (t':=tk) fun b o e=>Heap.get?_push_of_some _ e,turn_range _ lo (hi-lo).toNat,?_,fun b hb=>?_,q⟩
 ·have e1:lo+((0:Nat):Int)*1=lo:=by simp
  have e2:(((hi-lo).toNat:Nat):Int)-((0:Nat):Int)=Builtin.Range.rangeSize lo hi 1:=by rw [rangeSize_one];split<;>omega
  show IsRangeIter _ _ (lo+((0:Nat):Int)*1) ((((hi-lo).toNat:Nat):Int)-((0:Nat):Int)) 1
  rw [e1,e2]
  exact Heap.get?_push_size _ rfl
 ·have e:b=(s.heap.push { cls:=.type "range",data:=.fields #[.int lo t,.int hi u,.int 1 v] }).objs.size:=by simpa using hb
  subst e
  exact I1.fpOk (Nat.le_refl _) (I1.hok.fresh (Nat.le_refl _))
def iRng1 (ta:TA):TI:=fun σ H R=>ta σ H fun vs H1=>∃j:Int,vs=[.int j]/\-(2 ^ 62)<=j/\j<2 ^ 62/\R (Itr 0 j.toNat) H1
def iRng2 (ta:TA):TI:=fun σ H R=>ta σ H fun vs H1=>∃i j:Int,vs=[.int i,.int j]/\(-(2 ^ 62)<=i/\i<2 ^ 62/\-(2 ^ 62)<=j/\j<2 ^ 62)/\R (Itr i (j-i).toNat) H1
theorem zDG {a:Expr} {ta:TA} {p:Pos} (hg:Gl X "range") (hm:X.mg "range"=none) (ha:PA X [a] ta) (hs:starEach [a] X.env=[(false,eval a X.env)]:=by rfl):PI X tg (.Call (.Name "range" p) [a] [] pos) (iRng1 ta):=by
 intro pins s σ H R I h
 refine Call_ (zET I hg hm boot_range (PyProof.Rows.callWith_type1 (thn (ha pos pins s σ H _ I h) fun us s1 ⟨vs,H1,I1,r1,q1⟩=>?_) hs rfl))
 obtain ⟨j,e,q1,q2,q⟩:=q1
 subst e
 cases r1 with
 | cons r rr=>
  cases rr
  obtain ⟨t,rfl⟩:=r
  exact call_range_1 (range_it I1 (by omega) (by omega) q1 q2 (by simpa using q))
theorem pi_range2 {a b:Expr} {ta:TA} {p:Pos} (hg:Gl X "range") (hm:X.mg "range"=none) (ha:PA X [a,b] ta) (hs:starEach [a,b] X.env=[(false,eval a X.env),(false,eval b X.env)]:=by rfl) (hs2:starEach [b] X.env=[(false,eval b X.env)]:=by rfl) :
  PI X tg (.Call (.Name "range" p) [a,b] [] pos) (iRng2 ta):=by
 intro pins s σ H R I h
 refine Call_ (zET I hg hm boot_range (PyProof.Rows.callWith_type1 (thn (ha pos pins s σ H _ I h) fun us s1 ⟨vs,H1,I1,r1,q1⟩=>?_) (by rw [hs,hs2]) (by rw [hs2];rfl)))
 obtain ⟨i,j,e,⟨q1,q2,q3,q4⟩,q⟩:=q1
 subst e
 cases r1 with
 | cons r rr=>
  cases rr with
  | cons r' rr=>
   cases rr
   obtain ⟨t,rfl⟩:=r
   obtain ⟨t',rfl⟩:=r'
   exact call_range_2 (range_it I1 q1 q2 q3 q4 q)
def tFor (wi:TI) (g:TG) (tb:TS):TS:=fun D σ H=>wi σ H fun J H1=>∃W:Nat->Nat->St->Hp->Prop,(∃m,W 0 m σ H1)/\∀i m σ H,W i m σ H ->
 (J.stop i H/\D.nx σ H)\/(J.go i H/\∃N:St->Hp->Prop,(∀σ' H',N σ' H'->∃m',m'<m/\W (i+1) m' σ' H')/\∀x H',J.yld i H x H'->g x σ H' fun σ2 H2=>tb { D with nx:=N,ct:=N,bk:=D.nx } σ2 H2)
def zFN (fp:List Addr) (h:Heap):List (Addr×Obj):=fp.filterMap fun b=>(h.get? b).map fun o=>(b,o)
theorem zC0 {h:Heap} (hb:b∈fp) (e:h.get? b=some o):(b,o)∈zFN fp h:=List.mem_filterMap.mpr ⟨b,hb,by rw [e];rfl⟩
theorem of_pinsAt {h:Heap} {p:Addr×Obj} (hp:p∈zFN fp h):p.1∈fp/\h.get? p.1=some p.2:=by
 obtain ⟨b,hb,e⟩:=List.mem_filterMap.mp hp
 cases q:h.get? b with
 | none=>rw [q] at e;cases e
 | some o=>
  rw [q] at e
  have e':(b,o)=p:=Option.some.inj e
  subst e'
  exact ⟨hb,q⟩
theorem Inv.pinned {σ:St} {H:Hp} {s:Shared} (I:Inv X pins σ H s) (hf:∀b∈fp,FpOk X pins H b) (ho:∀b∈fp,∃o,s.heap.get? b=some o/\∀v,o.data≠.cell v):Inv X (pins++zFN fp s.heap) σ H s:=
 I.pins_of fun p hp=>(List.mem_append.mp hp).elim (fun z=>I.pin p (mem_append_right _ z)) fun z=>by
  obtain ⟨hb,e⟩:=of_pinsAt z
  obtain ⟨f0,f1,f2,_⟩:=hf p.1 hb
  obtain ⟨o,e',d⟩:=ho p.1 hb
  rw [e] at e';cases e'
  exact ⟨e,f0,f1,f2,d⟩
theorem Inv.unpinned {pl:List (Addr×Obj)} {σ:St} {H:Hp} {s:Shared} (I:Inv X (pins++pl) σ H s):Inv X pins σ H s:=I.pins_of fun p hp=>I.pin p (mem_append_right _ (mem_append_left _ hp))
theorem zB1 {iter:Expr} {body:List Stmt} {wi:TI} {g:TG} {tb:TS} (hp:PassesOwn (model X.prog X.w) X.A X.env X.xe) (hc:X.calm=true) (hi:PI X tg iter wi) (hg:PG X tg g) (hb:PSs X body tb)
  (hs:∀x,foldedSetIterable iter X.env x=pure x:=by intro _;rfl):PS X (.For tg iter body [] pos) (tFor wi g tb):=by
 intro pins s σ H D I h
 refine wpAny_For (thn (hi pins s σ H _ I h) fun v s1 h1=>thn h1 fun itv s2 h2=>?_) hs
 obtain ⟨it,fp,tn,J,H2,e,I2,T,st2,f2,W,⟨m0,w0⟩,turn⟩:=h2
 subst e
 have stat:∀{H':Hp},(∀b∈fp,H' b=none)->∀b∈fp,FpOk X pins H' b:=fun hn b hb=>⟨hn b hb,(f2 b hb).2⟩
 refine codeAny_forLoop_any (fun n s'=>∃i σ' H',Inv X pins σ' H' s'/\tn i s'.heap/\(∀b∈fp,H' b=none)/\W i n σ' H') ?_ m0 ⟨0,σ,H2,I2,st2,fun b hb=>(f2 b hb).1,w0⟩
 rintro n s3 ⟨i,σ3,H3,I3,st3,fr3,w3⟩
 rcases turn i n σ3 H3 w3 with ⟨stop,qn⟩ | ⟨go,N,hN,step⟩
 ·refine wpAny_passesOwn hp (thn (T.done X rfl rfl rfl hc i pins s3 σ3 H3 X.xe I3 (stat fr3) st3 stop) fun r s4 ⟨hr,I4⟩=>?_)
  subst hr
  exact wpAny_execs_nil ⟨σ3,H3,I4,qn⟩
 ·refine wpAny_passesOwn hp (thn (T.item X rfl rfl rfl hc i pins s3 σ3 H3 X.xe I3 (stat fr3) st3 go) fun r s4 ⟨u,hr,h4⟩=>?_)
  subst hr
  refine wpAny_passesOwn hp (thn h4 fun _ s5 ⟨x,H5,I5,r5,y5,st5,fr5⟩=>?_)
  have I5':=I5.pinned (stat fr5) (T.obj _ _ st5)
  refine wpAny_passesOwn hp (thn (hg _ s5 σ3 H5 x u _ I5' r5 (step x H5 y5)) fun _ s6 ⟨σ6,H6,I6,q6⟩=>?_)
  refine wpAny_passesOwn hp (thn (hb _ s6 σ6 H6 _ I6 q6) fun f s7 q7=>?_)
  have again:∀{σ7:St} {H7:Hp},Inv X (pins++zFN fp s5.heap) σ7 H7 s7->N σ7 H7->∃m,m<n/\∃i σ' H',Inv X pins σ' H' s7/\tn i s7.heap/\(∀b∈fp,H' b=none)/\W i m σ' H':=fun {σ7 H7} I7 n7=>by
   obtain ⟨m',hm,w7⟩:=hN σ7 H7 n7
   refine ⟨m',hm,i+1,σ7,H7,I7.unpinned,T.keep _ _ _ st5 fun b hb o e=>(I7.pin (b,o) (mem_append_right _ (mem_append_right _ (zC0 hb e)))).1,fun b hb=>?_,w7⟩
   obtain ⟨o,e,d⟩:=T.obj _ _ st5 b hb
   exact (I7.pin (b,o) (mem_append_right _ (mem_append_right _ (zC0 hb e)))).2.1
  cases f with
  | next=>obtain ⟨σ7,H7,I7,n7⟩:=q7;exact again I7 n7
  | cont=>obtain ⟨σ7,H7,I7,n7⟩:=q7;exact again I7 n7
  | brk=>obtain ⟨σ7,H7,I7,q7⟩:=q7;exact ⟨σ7,H7,I7.unpinned,q7⟩
  | ret v=>obtain ⟨x7,σ7,H7,I7,r7,q7⟩:=q7;exact ⟨x7,σ7,H7,I7.unpinned,r7,q7⟩
end
theorem zB9 {xs:List V} {g:TG} {tb:TS} {D:Ends} {σ:St} {H:Hp} (Pv:Nat->St->Hp->Prop) (h0:Pv 0 σ H) (hl:∀i σ H,i<=xs.length->Pv i σ H->SqL K H a xs)
  (hs:∀i x σ H,xs[i]?=some x->Pv i σ H->g x σ H fun σ2 H2=>tb { D with nx:=Pv (i+1),ct:=Pv (i+1),bk:=D.nx } σ2 H2) (hd:∀σ H,Pv xs.length σ H->D.nx σ H) :
  ∃W:Nat->Nat->St->Hp->Prop,(∃m,W 0 m σ H)/\∀i m σ H,W i m σ H ->
   ((Itl K a).stop i H/\D.nx σ H)\/((Itl K a).go i H/\∃N:St->Hp->Prop,(∀σ' H',N σ' H'->∃m',m'<m/\W (i+1) m' σ' H')/\∀x H',(Itl K a).yld i H x H'->g x σ H' fun σ2 H2=>tb { D with nx:=N,ct:=N,bk:=D.nx } σ2 H2):=by
 refine ⟨fun i m σ H=>m=xs.length-i/\i<=xs.length/\Pv i σ H,⟨xs.length,by simp,Nat.zero_le _,h0⟩,?_⟩
 rintro i m σ H ⟨rfl,hi,p⟩
 have q:=hl i σ H hi p
 by_cases hlt:i<xs.length
 ·refine .inr ⟨⟨xs,xs[i],q,by simp [hlt]⟩,Pv (i+1),fun σ' H' p'=>⟨xs.length-(i+1),by omega,rfl,hlt,p'⟩,fun x H' y=>?_⟩
  obtain ⟨e,y⟩:=y
  subst e
  exact hs i x σ _ (y xs q) p
 ·have e:i=xs.length:=by omega
  subst e
  exact .inl ⟨⟨xs,q,Nat.le_refl _⟩,hd σ H p⟩
theorem for_tup {xs:List V} {g:TG} {tb:TS} {D:Ends} {σ:St} {H:Hp} (Pv:Nat->St->Hp->Prop) (h0:Pv 0 σ H) (hl:∀i σ H,i<=xs.length->Pv i σ H->SqT K H a xs)
  (hs:∀i x σ H,xs[i]?=some x->Pv i σ H->g x σ H fun σ2 H2=>tb { D with nx:=Pv (i+1),ct:=Pv (i+1),bk:=D.nx } σ2 H2) (hd:∀σ H,Pv xs.length σ H->D.nx σ H) :
  ∃W:Nat->Nat->St->Hp->Prop,(∃m,W 0 m σ H)/\∀i m σ H,W i m σ H ->
   ((Itt K a).stop i H/\D.nx σ H)\/((Itt K a).go i H/\∃N:St->Hp->Prop,(∀σ' H',N σ' H'->∃m',m'<m/\W (i+1) m' σ' H')/\∀x H',(Itt K a).yld i H x H'->g x σ H' fun σ2 H2=>tb { D with nx:=N,ct:=N,bk:=D.nx } σ2 H2):=by
 refine ⟨fun i m σ H=>m=xs.length-i/\i<=xs.length/\Pv i σ H,⟨xs.length,by simp,Nat.zero_le _,h0⟩,?_⟩
 rintro i m σ H ⟨rfl,hi,p⟩
 have q:=hl i σ H hi p
 by_cases hlt:i<xs.length
 ·refine .inr ⟨⟨xs,xs[i],q,by simp [hlt]⟩,Pv (i+1),fun σ' H' p'=>⟨xs.length-(i+1),by omega,rfl,hlt,p'⟩,fun x H' y=>?_⟩
  obtain ⟨e,y⟩:=y
  subst e
  exact hs i x σ _ (y xs q) p
 ·have e:i=xs.length:=by omega
  subst e
  exact .inl ⟨⟨xs,q,Nat.le_refl _⟩,hd σ H p⟩
theorem zDJ {g:TG} {tb:TS} {D:Ends} {σ:St} {H:Hp} (Pv:Nat->St->Hp->Prop) (h0:Pv 0 σ H)
  (hs:∀i σ H,i<n->Pv i σ H->g (.int (lo+i)) σ H fun σ2 H2=>tb { D with nx:=Pv (i+1),ct:=Pv (i+1),bk:=D.nx } σ2 H2) (hd:∀σ H,Pv n σ H->D.nx σ H) :
  ∃W:Nat->Nat->St->Hp->Prop,(∃m,W 0 m σ H)/\∀i m σ H,W i m σ H ->
   ((Itr lo n).stop i H/\D.nx σ H)\/((Itr lo n).go i H/\∃N:St->Hp->Prop,(∀σ' H',N σ' H'->∃m',m'<m/\W (i+1) m' σ' H')/\∀x H',(Itr lo n).yld i H x H'->g x σ H' fun σ2 H2=>tb { D with nx:=N,ct:=N,bk:=D.nx } σ2 H2):=by
 refine ⟨fun i m σ H=>m=n-i/\i<=n/\Pv i σ H,⟨n,by simp,Nat.zero_le _,h0⟩,?_⟩
 rintro i m σ H ⟨rfl,hi,p⟩
 by_cases hlt:i<n
 ·refine .inr ⟨hlt,Pv (i+1),fun σ' H' p'=>⟨n-(i+1),by omega,rfl,hlt,p'⟩,fun x H' y=>?_⟩
  obtain ⟨e,y⟩:=y
  subst e y
  exact hs i σ _ hlt p
 ·have e:i=n:=by omega
  subst e
  exact .inl ⟨Nat.le_refl _,hd σ H p⟩
abbrev R2:=V->V->Hp->VK->Prop
def OpR (X:Cx) (f:Value->Value->Sem Value) (r:R2):Prop:=
 ∀(pins:List (Addr×Obj)) (s:Shared) (σ:St) (H:Hp) (x y:V) (v u:Value) (Q:VK),Inv X pins σ H s->RelV x v->RelV y u->r x y H Q ->
  wpAny (model X.prog X.w) X.A (f v u) (EP X pins σ Q) X.xe s
def UnR (X:Cx) (f:Value->Sem Value) (r:V->Hp->VK->Prop):Prop:=
 ∀(pins:List (Addr×Obj)) (s:Shared) (σ:St) (H:Hp) (x:V) (v:Value) (Q:VK),Inv X pins σ H s->RelV x v->r x H Q ->
  wpAny (model X.prog X.w) X.A (f v) (EP X pins σ Q) X.xe s
def CallR (X:Cx) (f:Value) (r:List V->Hp->VK->Prop):Prop:=
 ∀(pins:List (Addr×Obj)) (s:Shared) (σ:St) (H:Hp) (xs:List V) (us:List Value) (Q:VK),Inv X pins σ H s->Vals xs us->r xs H Q ->
  wpAny (model X.prog X.w) X.A (call f us) (EP X pins σ Q) X.xe s
def TruR (X:Cx) (r:V->Hp->(Bool->Hp->Prop)->Prop):Prop:=
 ∀(pins:List (Addr×Obj)) (s:Shared) (σ:St) (H:Hp) (x:V) (v:Value) (Q:Bool->Hp->Prop),Inv X pins σ H s->RelV x v->r x H Q ->
  wpAny (model X.prog X.w) X.A (truthy v) (TP X pins σ Q) X.xe s
def tOp (r:R2) (ta tb:TE):TE:=fun σ H Q=>ta σ H fun x H1=>tb σ H1 fun y H2=>r x y H2 Q
def tUn (r:V->Hp->VK->Prop) (ta:TE):TE:=fun σ H Q=>ta σ H fun x H1=>r x H1 Q
def rI (C:Int->Int->Prop) (g:Int->Int->V):R2:=fun x y H Q=>∃i j,x=.int i/\y=.int j/\C i j/\Q (g i j) H
def rI0 (g:Int->Int->V):R2:=fun x y H Q=>∃i j,x=.int i/\y=.int j/\Q (g i j) H
section
variable {X:Cx} {a b c:Expr} {ta tb tc:TE} {pos:Pos}
theorem binT (ha:PE X a ta) (hb:PE X b tb) {s:Shared} {σ:St} {H:Hp} {R:V->V->Hp->Prop} (I:Inv X pins σ H s)
  (h:ta σ H fun x H1=>tb σ H1 fun y H2=>R x y H2) {Q:Value->Shared->Prop} {f:Value->Value->Sem Value}
  (hf:∀v u s2 x y H2,Inv X pins σ H2 s2->RelV x v->RelV y u->R x y H2->wpAny (model X.prog X.w) X.A (f v u) Q X.xe s2) :
  wpAny (model X.prog X.w) X.A (eval a X.env) (fun v s₁=>wpAny (model X.prog X.w) X.A (eval b X.env) (fun u s₂=>wpAny (model X.prog X.w) X.A (f v u) Q X.xe s₂) X.xe s₁) X.xe s:=by
 refine thn (ha pins s σ H _ I h) fun v s1 ⟨x,H1,I1,r1,q1⟩=>?_
 refine thn (hb pins s1 σ H1 _ I1 q1) fun u s2 ⟨y,H2,I2,r2,q2⟩=>?_
 exact hf v u s2 x y H2 I2 r1 r2 q2
theorem pe_op {op:Operator} {r:R2} (ho:OpR X (binaryOp op) r) (ha:PE X a ta) (hb:PE X b tb):PE X (.BinOp a op b pos) (tOp r ta tb):=by
 intro pins s σ H Q I h
 exact wpAny_BinOp (binT ha hb I h fun v u s2 x y H2 I2 rx ry q=>ho pins s2 σ H2 x y v u Q I2 rx ry q)
theorem pe_un {op:UnaryOp} {r:V->Hp->VK->Prop} (ho:UnR X (unaryOp op) r) (ha:PE X a ta):PE X (.UnaryOp op a pos) (tUn r ta):=by
 intro pins s σ H Q I h
 exact UnaryOp_ (thn (ha pins s σ H _ I h) fun v s1 ⟨x,H1,I1,r1,q1⟩=>ho pins s1 σ H1 x v Q I1 r1 q1)
theorem opI {f:Value->Value->Sem Value} {C:Int->Int->Prop}
  (rule:∀(i j:Int) (t u:Tok) (s:Shared) (Q:Value->Shared->Prop) (E:Value->Shared->Prop),C i j->Q (.int (g i j) s.toks) { s with toks:=s.toks+1 }->wpAny (model X.prog X.w) X.A (f (.int i t) (.int j u)) Q E s) :
  OpR X f (rI C fun i j=>.int (g i j)):=by
 intro pins s σ H x y v u Q I rx ry h
 obtain ⟨i,j,rfl,rfl,hc,q⟩:=h
 obtain ⟨t,rfl⟩:=rx
 obtain ⟨t',rfl⟩:=ry
 exact rule i j t t' s _ _ hc ⟨.int (g i j),H,I.tok _,⟨_,rfl⟩,q⟩
theorem opI0 {f:Value->Value->Sem Value}
  (rule:∀(i j:Int) (t u:Tok) (s:Shared) (Q:Value->Shared->Prop) (E:Value->Shared->Prop),Q (.int (g i j) s.toks) { s with toks:=s.toks+1 }->wpAny (model X.prog X.w) X.A (f (.int i t) (.int j u)) Q E s) :
  OpR X f (rI0 fun i j=>.int (g i j)):=by
 intro pins s σ H x y v u Q I rx ry h
 obtain ⟨i,j,rfl,rfl,q⟩:=h
 obtain ⟨t,rfl⟩:=rx
 obtain ⟨t',rfl⟩:=ry
 exact rule i j t t' s _ _ ⟨.int (g i j),H,I.tok _,⟨_,rfl⟩,q⟩
theorem opB0 {f:Value->Value->Sem Value} {g:Int->Int->Bool}
  (rule:∀(i j:Int) (t u:Tok) (s:Shared) (Q:Value->Shared->Prop) (E:Value->Shared->Prop),Q (.bool (g i j)) s->wpAny (model X.prog X.w) X.A (f (.int i t) (.int j u)) Q E s) :
  OpR X f (rI0 fun i j=>.bl (g i j)):=by
 intro pins s σ H x y v u Q I rx ry h
 obtain ⟨i,j,rfl,rfl,q⟩:=h
 obtain ⟨t,rfl⟩:=rx
 obtain ⟨t',rfl⟩:=ry
 exact rule i j t t' s _ _ ⟨.bl (g i j),H,I,rfl,q⟩
def CDiv (i j:Int):Prop:=0<j/\j<1073741824
def CPow (i j:Int):Prop:=0<=j/\j<=1000000/\i.natAbs<2 ^ 64
def CMul (i j:Int):Prop:=(-(2 ^ 64)<i/\i<2 ^ 64)\/(-(2 ^ 64)<j/\j<2 ^ 64)
theorem CMul.ok {i j:Int} (h:CMul i j):IntMulOk i j:=by
 rcases h with ⟨h1,h2⟩ | ⟨h1,h2⟩
 ·exact .of_left (intBits_le_64 h1 h2)
 ·exact .of_right (intBits_le_64 h1 h2)
theorem op_add:OpR X (binaryOp .Add) (rI0 fun i j=>.int (i+j)):=opI0 fun _ _ _ _ _ _ _ q=>add_int q
theorem op_sub:OpR X (binaryOp .Sub) (rI0 fun i j=>.int (i-j)):=opI0 fun _ _ _ _ _ _ _ q=>sub_int q
theorem op_mul:OpR X (binaryOp .Mult) (rI CMul fun i j=>.int (i*j)):=opI fun _ _ _ _ _ _ _ hc q=>mul_int q hc.ok
theorem op_fdiv:OpR X (binaryOp .FloorDiv) (rI CDiv fun i j=>.int (i / j)):=opI fun i j _ _ _ _ _ hc q=>by
 have h1:(0:Int)<j:=hc.1
 have h2:j<1073741824:=hc.2
 exact floordiv_int (by omega) (by rw [Int.fdiv_eq_ediv_of_nonneg i (by omega)];exact q) (.inl (PyProof.noPylong_small (by omega)))
theorem op_mod:OpR X (binaryOp .Mod) (rI (fun _ j=>0<j) fun i j=>.int (i % j)):=opI fun i j _ _ _ _ _ hc q=>by
 have h1:(0:Int)<j:=hc
 exact mod_int' (by omega) (by rw [Int.fmod_eq_emod_of_nonneg i (by omega)];exact q)
theorem op_pow:OpR X (binaryOp .Pow) (rI CPow fun i j=>.int (i ^ j.toNat)):=opI fun _ _ _ _ _ _ _ hc q=>pow_int_small hc.1 hc.2.1 hc.2.2 q
end
section
variable {X:Cx} {a b c:Expr} {ta tb tc:TE} {pos:Pos}
theorem zGJ {σ:St} {H:Hp} {s:Shared} {Q:VK} {k k':Bool} (I:Inv X pins σ H s) (q:Q (.bl k) H) (e:k=k'):EP X pins σ Q (.bool k') s:=by
 subst e
 exact ⟨.bl k,H,I,rfl,q⟩
theorem op_lt:OpR X (compareOp .Lt) (rI0 fun i j=>.bl (decide (i<j))):=opB0 fun _ _ _ _ _ _ _ q=>lt_int q
theorem op_le:OpR X (compareOp .LtE) (rI0 fun i j=>.bl (decide (i<=j))):=opB0 fun _ _ _ _ _ _ _ q=>le_int q
theorem op_gt:OpR X (compareOp .Gt) (rI0 fun i j=>.bl (decide (j<i))):=opB0 fun _ _ _ _ _ _ _ q=>gt_int q
theorem op_ge:OpR X (compareOp .GtE) (rI0 fun i j=>.bl (decide (j<=i))):=opB0 fun _ _ _ _ _ _ _ q=>ge_int q
theorem op_lt_str:OpR X (compareOp .Lt) (fun x y H Q=>∃i j,x=.str i/\y=.str j/\Q (.bl (decide (i.cps.toList<j.cps.toList))) H):=by
 intro pins s σ H x y v u Q I rx ry h
 obtain ⟨i,j,rfl,rfl,q⟩:=h
 obtain ⟨t,rfl⟩:=rx
 obtain ⟨t',rfl⟩:=ry
 exact lt_str (zGJ I q rfl)
theorem op_isN:OpR X (compareOp .Is) (fun x y H Q=>y=.non/\Q (.bl (decide (x=.non))) H):=by
 intro pins s σ H x y v u Q I rx ry h
 obtain ⟨rfl,q⟩:=h
 cases ry
 refine is_none_gen (zGJ I q ?_)
 cases x<;>first
  | (cases rx;rfl)
  | (obtain ⟨t,rfl⟩:=rx;rfl)
theorem op_notN:OpR X (compareOp .IsNot) (fun x y H Q=>y=.non/\Q (.bl (!decide (x=.non))) H):=by
 intro pins s σ H x y v u Q I rx ry h
 obtain ⟨rfl,q⟩:=h
 cases ry
 refine isnot_none_gen (zGJ I q ?_)
 cases x<;>first
  | (cases rx;rfl)
  | (obtain ⟨t,rfl⟩:=rx;rfl)
theorem OpR.or {f:Value->Value->Sem Value} {r r':R2} (h:OpR X f r) (h':OpR X f r'):OpR X f (fun x y H Q=>r x y H Q\/r' x y H Q):=by
 intro pins s σ H x y v u Q I rx ry q
 rcases q with q | q
 ·exact h pins s σ H x y v u Q I rx ry q
 ·exact h' pins s σ H x y v u Q I rx ry q
theorem zF2 {op:CmpOp} {r:R2} (ho:OpR X (compareOp op) r) (ha:PE X a ta) (hb:PE X b tb) (hm:behindInMarks op b=false):PE X (.Compare a [op] [b] pos) (tOp r ta tb):=by
 intro pins s σ H Q I h
 exact wpAny_Compare1 (binT ha hb I h fun v u s2 x y H2 I2 rx ry q=>ho pins s2 σ H2 x y v u Q I2 rx ry q) hm
def tTest (t:TE):TT:=fun σ H Q=>t σ H fun x H'=>∃k,x=.bl k/\Q k H'
theorem pt_cmpR {op:CmpOp} {r:R2} (ho:OpR X (compareOp op) r) (ha:PE X a ta) (hb:PE X b tb) (hm:behindInMarks op b=false):PT X (.Compare a [op] [b] pos) (tTest (tOp r ta tb)):=by
 intro pins s σ H Q I h
 refine wpAny_isTrue_Compare1 (thn (ha pins s σ H _ I h) fun v s1 ⟨x,H1,I1,r1,q1⟩=>thn (hb pins s1 σ H1 _ I1 q1) fun u s2 ⟨y,H2,I2,r2,q2⟩=>
  thn (ho pins s2 σ H2 x y v u _ I2 r1 r2 q2) fun c s3 ⟨z,H3,I3,r3,k,e,q3⟩=>?_) hm
 subst e
 cases r3
 exact wpAny_truthy_bool ⟨H3,I3,q3⟩
def zGQ (r r':R2) (ta tb tc:TE):TE:=fun σ H Q=>ta σ H fun x H1=>tb σ H1 fun y H2=>r x y H2 fun z H3=>∃k,z=.bl k /\
 (if k=true then tc σ H3 fun w' H4=>r' y w' H4 Q else Q (.bl false) H3)
theorem pe_chain {op:CmpOp} {r r':R2} (ho:OpR X (compareOp op) r) (ho':OpR X (compareOp op') r') (ha:PE X a ta) (hb:PE X b tb) (hc:PE X c tc)
  (hm:lastMarks [op,op'] [b,c]=false:=by with_unfolding_all rfl):PE X (.Compare a [op,op'] [b,c] pos) (zGQ r r' ta tb tc):=by
 intro pins s σ H Q I h
 refine Compare_chain (thn (ha pins s σ H _ I h) fun v s1 ⟨x,H1,I1,r1,q1⟩=>chain_link (thn (hb pins s1 σ H1 _ I1 q1) fun u s2 ⟨y,H2,I2,r2,q2⟩=>
  thn (ho pins s2 σ H2 x y v u _ I2 r1 r2 q2) fun d s3 ⟨z,H3,I3,r3,k,e,q3⟩=>?_)) hm
 subst e
 cases r3
 refine wpAny_truthy_bool ?_
 cases k with
 | false=>exact ite_ff ⟨.bl false,H3,I3,rfl,q3⟩
 | true=>exact ite_tt (chain_last (thn (hc pins s3 σ H3 _ I3 q3) fun w' s4 ⟨z',H4,I4,r4,q4⟩=>ho' pins s4 σ H4 y z' u w' Q I4 r2 r4 q4))
theorem pt_chain {op:CmpOp} {r r':R2} (ho:OpR X (compareOp op) r) (ho':OpR X (compareOp op') r') (ha:PE X a ta) (hb:PE X b tb) (hc:PE X c tc)
  (hm:lastMarks [op,op'] [b,c]=false:=by with_unfolding_all rfl):PT X (.Compare a [op,op'] [b,c] pos) (tTest (zGQ r r' ta tb tc)):=by
 intro pins s σ H Q I h
 refine isTrue_chain (thn (ha pins s σ H _ I h) fun v s1 ⟨x,H1,I1,r1,q1⟩=>test_link (thn (hb pins s1 σ H1 _ I1 q1) fun u s2 ⟨y,H2,I2,r2,q2⟩=>
  thn (ho pins s2 σ H2 x y v u _ I2 r1 r2 q2) fun d s3 ⟨z,H3,I3,r3,k,e,q3⟩=>?_)) hm
 subst e
 cases r3
 refine wpAny_truthy_bool ?_
 cases k with
 | false=>
  obtain ⟨k',e',q'⟩:=q3
  cases e'
  exact ite_ff ⟨H3,I3,q'⟩
 | true=>
  refine ite_tt (test_last (thn (hc pins s3 σ H3 _ I3 q3) fun w' s4 ⟨z',H4,I4,r4,q4⟩=>thn (ho' pins s4 σ H4 y z' u w' _ I4 r2 r4 q4) fun d' s5 ⟨z2,H5,I5,r5,k2,e2,q5⟩=>?_))
  subst e2
  cases r5
  exact wpAny_truthy_bool ⟨H5,I5,q5⟩
def TruV (K:Fg) (x:V) (H:Hp) (k:Bool):Prop:=
 match x with
 | .non=>k=false
 | .bl b=>k=b
 | .int i=>k=(i != 0)
 | .str y=>y.length<=sizeLine/\k=((y.length:Int) != 0)
 | .byt y=>y.size<=sizeLine/\k=((y.size:Int) != 0)
 | .ref p=>(∃xs,SqL K H p xs/\k=!xs.isEmpty)\/(∃xs,SqT K H p xs/\k=!xs.isEmpty)\/∃kvs,H p=some (.dK kvs)/\k=!kvs.isEmpty
 | _=>False
theorem isEmpty_kv {κ:Type} {kvs:List (κ×V)} {vs:List (κ×Value)} (r:KV kvs vs):(!vs.isEmpty)=!kvs.isEmpty:=by
 cases r<;>rfl
theorem isEmpty_of {xs:List V} {its:List Value} (r:Vals xs its):(!its.toArray.isEmpty)=!xs.isEmpty:=by
 cases r<;>simp
theorem zEG:(sizeLine:Nat)<2 ^ 63:=by rw [sizeLine_eq];decide
theorem tru_ok:TruR X (fun x H Q=>∃k,TruV X.K x H k/\Q k H):=by
 intro pins s σ H x v Q I rx h
 obtain ⟨k,e,q⟩:=h
 have hl:=zEG
 have hs:sizeLine=16777216:=sizeLine_eq
 cases x with
 | non=>
  cases rx
  have e':k=false:=e
  subst e'
  exact truthy_none ⟨H,I,q⟩
 | bl b=>
  cases rx
  have e':k=b:=e
  subst e'
  exact wpAny_truthy_bool ⟨H,I,q⟩
 | int i=>
  obtain ⟨t,rfl⟩:=rx
  have e':k=(i != 0):=e
  subst e'
  exact PySem.P.truthy_int ⟨H,I,q⟩
 | str y=>
  obtain ⟨t,rfl⟩:=rx
  obtain ⟨hy,e'⟩:y.length<=sizeLine/\k=((y.length:Int) != 0):=e
  subst e'
  exact PySem.P.truthy_str (by omega) ⟨H,I.tok _,q⟩
 | byt y=>
  obtain ⟨t,rfl⟩:=rx
  obtain ⟨hy,e'⟩:y.size<=sizeLine/\k=((y.size:Int) != 0):=e
  subst e'
  exact PySem.W.truthy_bytes (by omega) ⟨H,I.tok _,q⟩
 | ref p=>
  cases rx
  have e':(∃xs,SqL X.K H p xs/\k=!xs.isEmpty)\/(∃xs,SqT X.K H p xs/\k=!xs.isEmpty)\/∃kvs,H p=some (.dK kvs)/\k=!kvs.isEmpty:=e
  rcases e' with ⟨xs,hx,e'⟩ | ⟨xs,hx,e'⟩ | ⟨kvs,hx,e'⟩
  ·subst e'
   obtain ⟨its,r,pl,hz⟩:=I.list hx
   have hlen:=r.length
   exact wpAny_truthy_list pl.isList (by simp only [size_toArray];omega) ⟨H,I.tok _,by rw [isEmpty_of r];exact q⟩
  ·subst e'
   obtain ⟨its,r,pl,hz⟩:=I.tuple hx
   have hlen:=r.length
   exact truthy_tuple pl (by simp only [size_toArray];omega) ⟨H,I.tok _,by rw [isEmpty_of r];exact q⟩
  ·subst e'
   obtain ⟨hz,hS,vs,r,m⟩:kvs.length<=sizeLine/\(p==sysModules)=false/\∃vs,KV kvs vs/\s.heap.DictOf (zBC X.prog X.w) p vs:=I.hok p _ hx
   have hlen:kvs.length=vs.length:=Paired.length r
   exact wpAny_truthy_dict hS m (by omega) ⟨H,I.tok _,by rw [isEmpty_kv r];exact q⟩
 | _=>exact (show False from e).elim
theorem zE2 (ha:PE X a ta) (he:∀whole,isTrue a X.env whole=(do let v <-whole;standAt a.pos;holding [v] (truthy v))) :
  PT X a (fun σ H Q=>ta σ H fun x H'=>∃k,TruV X.K x H' k/\Q k H'):=by
 intro pins s σ H Q I h
 exact isTrue_plain (thn (ha pins s σ H _ I h) fun v s1 ⟨x,H1,I1,r1,q1⟩=>tru_ok pins s1 σ H1 x v Q I1 r1 q1) (he _)
theorem vals1 {x:V} (r:Vals [x] us):∃u,us=[u]/\RelV x u:=by
 cases r with
 | cons r1 r2=>cases r2;exact ⟨_,rfl,r1⟩
theorem vals2 {x y:V} (r:Vals [x,y] us):∃u w',us=[u,w']/\RelV x u/\RelV y w':=by
 cases r with
 | cons r1 r2=>
  cases r2 with
  | cons r3 r4=>cases r4;exact ⟨_,_,rfl,r1,r3⟩
theorem call_max2 (hc:X.calm=true):CallR X (.builtin "max") (fun xs H Q=>∃i j,xs=[.int i,.int j]/\Q (.int (if j>i then j else i)) H):=by
 intro pins s σ H xs us Q I r h
 obtain ⟨i,j,rfl,q⟩:=h
 obtain ⟨u,w',rfl,⟨t,rfl⟩,⟨t',rfl⟩⟩:=vals2 r
 refine max_two_ints (I.ok.hd hc) fun h' tk k=>⟨_,H,I.kept k,?_,q⟩
 by_cases hj:j>i
 ·rw [if_pos hj,if_pos hj];exact ⟨_,rfl⟩
 ·rw [if_neg hj,if_neg hj];exact ⟨_,rfl⟩
theorem call_int1:CallR X (.type "int") (fun xs H Q=>(∃i,xs=[.int i]/\Q (.int i) H)\/∃k,xs=[.bl k]/\Q (.int (if k then 1 else 0)) H):=by
 intro pins s σ H xs us Q I r h
 rcases h with ⟨i,rfl,q⟩ | ⟨k,rfl,q⟩
 ·obtain ⟨u,rfl,t,rfl⟩:=vals1 r
  exact call_int_int ⟨.int i,H,I,⟨_,rfl⟩,q⟩
 ·obtain ⟨u,rfl,r1⟩:=vals1 r
  cases r1
  exact call_int_bool ⟨.int (if k then 1 else 0),H,I.tok _,⟨_,rfl⟩,q⟩
end
structure ObjM (h:Heap) (x dx C:Addr) (mA:Str->Option Value):Prop where
 obj:h.get? x=some (PySem.W.instObj C dx)
 ns:h.Ns1 dx mA
 ne:dx≠x
theorem lookIn_ns {h:Heap} (n:h.Ns1 dx mA):∃od,h.get? dx=some od/\∀name,PySem.W.lookIn name od=some (mA name):=by
 obtain ⟨o,es,ep,ho,hd,hk,_,hm⟩:=n
 refine ⟨o,ho,fun name=>?_⟩
 have e:=hm name
 unfold nsFind findBy at e
 rw [<-Array.find?_toList] at e
 unfold PySem.W.lookIn
 rw [hd]
 dsimp only
 split
 ·rename_i y q
  rw [q] at e
  exact congrArg some e
 ·rename_i q
  rw [q] at e
  have a:es.toList.any (·.refKey)=false:=by
   rw [List.any_eq_false]
   intro y hy
   obtain ⟨z,t,hkey⟩:=hk y (Array.mem_toList_iff.mp hy)
   simp [DictEntry.refKey,hkey]
  have a':¬es.toList.any (·.refKey)=true:=by rw [a];exact Bool.false_ne_true
  rw [if_neg a']
  exact congrArg some e
theorem ObjM.look {h:Heap} {x C:Addr} (I:ObjM h x dx C mA):∃od,PySem.W.InstAt h x (PySem.W.instObj C dx) C (some od)/\∀name,PySem.W.lookIn name od=some (mA name):=
 let ⟨od,ho,hl⟩:=lookIn_ns I.ns
 ⟨od,⟨I.obj,rfl,rfl,ho⟩,hl⟩
theorem RelO.some_of {v:V} {o:Option Value} (r:RelO (some v) o):∃u,o=some u/\RelV v u:=by
 cases o with
 | none=>exact (show False from r).elim
 | some u=>exact ⟨u,rfl,r⟩
section
variable {P:Program} {w:World} {H H':Hp} {h h':Heap} {a C dx:Addr} {fs fs':List (Str×V)}
theorem ins_get (hok:HOk P w H h) (e:H a=some (.ins C dx fs)):∃mA,ObjM h a dx C mA/\(∀f,RelO (fs.lookup f) (mA f))/\PySem.Within mA (fs.map (·.1))/\fs.length<=1000/\H dx=some (.own a):=by
 obtain ⟨d,z,ne,ob,mA,n,r,q⟩:=(show ObjOk P w H h a (.ins C dx fs) from hok a _ e)
 exact ⟨mA,⟨ob,n,ne⟩,r,q,z,d⟩
end
structure Cls (K:Fg) (C:Addr):Prop where
 pg:PySem.W.plainGet K C Str.empty=true
 hd:PySem.W.hasDictIn K C=true
 po:PySem.W.plainOver K C=true
 sa:PySem.W.findIn K (.ref C) "__setattr__"=some (some (.builtin "object.__setattr__"))
theorem Cls.get {C:Addr} (c:Cls K C) (f:Str):PySem.W.plainGet K C f=true:=c.pg
section
variable {X:Cx} {pins:List (Addr×Obj)} {σ:St} {H:Hp} {s:Shared} {A:Around} {E:Value->Shared->Prop} {Q:Value->Shared->Prop} {c:Value} {b:Bool}
inductive TyOf (K:Fg) (H:Hp):V->Value->Prop where
 | non:TyOf K H .non (.type "NoneType")
 | bl (x:Bool):TyOf K H (.bl x) (.type "bool")
 | int (i:Int):TyOf K H (.int i) (.type "int")
 | str (x:Str):TyOf K H (.str x) (.type "str")
 | flt (x:UInt64):TyOf K H (.flt x) (.type "float")
 | lst {a:Addr} {xs:List V} (e:H a=some (.lst xs)):TyOf K H (.ref a) (.type "list")
 | frz {a:Addr} {o:Obj} {xs:List V} (e:H a=some (.frz o (.lst xs))):TyOf K H (.ref a) (.type "list")
 | tup {a:Addr} {xs:List V} (e:H a=some (.tup xs)):TyOf K H (.ref a) (.type "tuple")
 | dK {a:Addr} {kvs:List (Key×V)} (e:H a=some (.dK kvs)):TyOf K H (.ref a) (.type "dict")
 | dT {a:Addr} {kvs:List (List Key×V)} (e:H a=some (.dT kvs)):TyOf K H (.ref a) (.type "dict")
 | ins {a C dx:Addr} {fs:List (Str×V)} (e:H a=some (.ins C dx fs)) (cl:Cls K C) (ha:PySem.W.findIn K (.ref C) "__class__"=some (some (.builtin "object.__class__")))
   (hn:PySem.W.specialIn K (.builtin "object.__class__") "__get__"=some (some (.builtin "getset_descriptor.__get__"))) (htk:PySem.W.takesIn K (.builtin "object.__class__")=some true)
   (hm:PySem.W.mroIn K C (.type "object")=some true):TyOf K H (.ref a) (.ref C)
theorem zB5 {x:V} {t:Value} (I:Inv X pins σ H s) (rx:RelV x u) (ty:TyOf X.K H x t) (e:PySem.W.kitOne X.K t c=some b) (h:∀tk,Q (.bool b) { s with toks:=tk }) :
  wpAny (model X.prog X.w) A (call (.builtin "isinstance") [u,c]) Q E s:=by
 cases ty with
 | non=>cases (show u=Value.none from rx);exact PySem.W.kia_one PySem.W.kitx_none I.kIn True.intro e nofun h
 | bl y=>cases (show u=Value.bool y from rx);exact PySem.W.kia_one PySem.W.kitx_bool I.kIn True.intro e nofun h
 | int i=>obtain ⟨t,q⟩:=(show ∃t,u=Value.int i t from rx);cases q;exact PySem.W.kia_one PySem.W.kitx_int I.kIn True.intro e nofun h
 | str y=>obtain ⟨t,q⟩:=(show ∃t,u=Value.str y t from rx);cases q;exact PySem.W.kia_one PySem.W.kitx_str I.kIn True.intro e nofun h
 | flt y=>obtain ⟨t,q⟩:=(show ∃t,u=Value.float y t from rx);cases q;exact PySem.W.kia_one PySem.W.kitx_float I.kIn True.intro e nofun h
 | @lst a xs ea=>
  cases (show u=Value.ref a from rx)
  obtain ⟨_,_,n,_,h1⟩:=(show ObjOk X.prog X.w H s.heap a (.lst xs) from I.hok a _ ea)
  exact PySem.W.kia_one PySem.W.kitx_list I.kIn ⟨_,h1,rfl⟩ e nofun h
 | @frz a ob xs ea=>
  cases (show u=Value.ref a from rx)
  obtain ⟨_,_,_,n,_,h1⟩:=(show ObjOk X.prog X.w H s.heap a (.frz ob (.lst xs)) from I.hok a _ ea)
  exact PySem.W.kia_one PySem.W.kitx_list I.kIn ⟨_,h1,rfl⟩ e nofun h
 | @tup a xs ea=>
  cases (show u=Value.ref a from rx)
  obtain ⟨_,_,_,p⟩:=(show ObjOk X.prog X.w H s.heap a (.tup xs) from I.hok a _ ea)
  obtain ⟨o,h1,h2,_⟩:=p
  exact PySem.W.kia_one PySem.W.kitx_tuple I.kIn ⟨o,h1,h2⟩ e nofun h
 | @dK a kvs ea=>
  cases (show u=Value.ref a from rx)
  obtain ⟨_,_,vs,_,p⟩:=(show ObjOk X.prog X.w H s.heap a (.dK kvs) from I.hok a _ ea)
  obtain ⟨o,es,ep,h1,h2,_⟩:=p
  exact PySem.W.kia_one PySem.W.kitx_dict I.kIn ⟨o,h1,h2.1⟩ e nofun h
 | @dT a kvs ea=>
  cases (show u=Value.ref a from rx)
  obtain ⟨_,_,xs,_,o,es,ep,h1,h2,_⟩:=(show ObjOk X.prog X.w H s.heap a (.dT kvs) from I.hok a _ ea)
  exact PySem.W.kia_one PySem.W.kitx_dict I.kIn ⟨o,h1,h2.1⟩ e nofun h
 | @ins a C dx fs ea cl ha hn htk hm=>
  cases (show u=Value.ref a from rx)
  obtain ⟨mA,O,_⟩:=ins_get I.hok ea
  obtain ⟨od,J,_⟩:=O.look
  exact PySem.W.kia_one (PySem.W.kitx_own (cl.get _) cl.hd ha hn htk hm) I.kIn J e nofun h
end
structure Room (k:Nat) (A:Around):Prop where
 hd:A.handled=none
 dp:A.depth+3*k+5<recursionLimit
 un:A.units+16*k+200<cLine
 gd:A.guards=some []
theorem Room.mono {j k:Nat} (r:Room k A) (h:j<=k):Room j A:=⟨r.hd,by have:=r.dp;omega,by have:=r.un;omega,r.gd⟩
theorem Room.deeper {k:Nat} (r:Room (k+1) A) (env:Env):Room k (A.deeper env):=
 ⟨r.hd,by have:=r.dp;show A.depth+1+3*k+5<_;omega,by have:=r.un;show A.units+3+16*k+200<_;omega,r.gd⟩
theorem Room.depth {k:Nat} (r:Room k A):A.depth<recursionLimit:=by have:=r.dp;omega
theorem Room.units {k:Nat} (r:Room k A):A.units+64<cLine:=by have:=r.un;omega
def tNil:TA:=fun _ H Q=>Q [] H
def tCons (ta:TE) (tr:TA):TA:=fun σ H Q=>ta σ H fun x H1=>tr σ H1 fun xs H2=>Q (x::xs) H2
section
variable {X:Cx} {e:Expr} {es:List Expr} {te:TE} {t:TA} {pos:Pos}
theorem zAS:PA X [] tNil:=fun _ _ _ _ H Q I h=>Calls.spliced_nil ⟨[],H,I,.nil,h⟩
theorem zAE (ha:PE X e te) (hr:PA X es t) (hs:starEach (e::es) X.env=(false,eval e X.env)::starEach es X.env:=by rfl):PA X (e::es) (tCons te t):=by
 intro pos pins s σ H Q I h
 rw [hs]
 show wpAny _ _ (spliced ((false,eval e X.env)::backTo pos (starEach es X.env))) _ _ s
 refine Calls.spliced_cons (thn (ha pins s σ H _ I h) fun u s1 ⟨x,H1,I1,r1,q1⟩=>?_)
 exact thn (hr pos pins s1 σ H1 _ I1 q1) fun us s2 ⟨xs,H2,I2,r2,q2⟩=>⟨x::xs,H2,I2,.cons r1 r2,q2⟩
def tTup (t:TA):TE:=fun σ H Q=>t σ H fun xs H1=>xs.length<=sizeLine/\∀p,H1 p=none->Q (.ref p) (upd H1 p (.tup xs))
def tLst (t:TA):TE:=fun σ H Q=>t σ H fun xs H1=>xs.length<=sizeLine/\∀p,H1 p=none->Q (.ref p) (upd H1 p (.lst xs))
theorem zCQ {x1} (h:PA X es t):PE X (.Tuple es x1 pos) (tTup t):=by
 intro pins s σ H Q I hq
 refine wpAny_Tuple_spliced (thn (h pos pins s σ H _ I hq) fun us s1 ⟨xs,H1,I1,r,z,q⟩=>⟨by rw [<-r.length];exact z,?_⟩)
 have hf:H1 s1.heap.objs.size=none:=I1.hok.fresh (Nat.le_refl _)
 refine ⟨.ref s1.heap.objs.size,upd H1 s1.heap.objs.size (.tup xs),I1.laid (t':=s1.toks) (fun b u e=>Heap.get?_push_of_some _ e) (Nat.le_refl _) ?_,rfl,q _ hf⟩
 exact ⟨z,us,r,⟨_,Heap.get?_push_size _ rfl,rfl,_,rfl⟩⟩
theorem zGF (h:PA X es t):PE X (.List es pos) (tLst t):=by
 intro pins s σ H Q I hq
 refine wpAny_List_spliced (thn (h pos pins s σ H _ I hq) fun us s1 ⟨xs,H1,I1,r,z,q⟩=>⟨by rw [<-r.length];exact z,?_⟩)
 have hf:H1 s1.heap.objs.size=none:=I1.hok.fresh (Nat.le_refl _)
 refine ⟨.ref s1.heap.objs.size,upd H1 s1.heap.objs.size (.lst xs),I1.laid (t':=s1.toks) (fun b u e=>Heap.get?_push_of_some _ e) (Nat.le_refl _) ?_,rfl,q _ hf⟩
 exact ⟨z,us,0,r,Heap.get?_push_size _ rfl⟩
end
abbrev Sp:=List V->Hp->VK->XK->Prop
abbrev CXT:=List Env->Hp->Shared->XK->Value->Shared->Prop
structure Env0 (P:Program) (w:World) (K:Fg) (mg:Str->Option Value) (base:Heap) (A:Around) (outer:List Env) (s:Shared) (H:Hp):Prop where
 frames:A.frames=some outer
 mod:Mod K mg base
 bs:∀b o,base.get? b=some o->s.heap.get? b=some o/\H b=none
 bsz:base.objs.size<=s.heap.objs.size
 funs:s.heap.FunFrames base outer
 frf:∀b∈frs outer,H b=none
 hok:HOk P w H s.heap
 bare:AllBare s.gens
def CE (outer:List Env) (P:Program) (w:World) (H:Hp) (s:Shared) (Q:VK) (u:Value) (s':Shared):Prop:=
 ∃v H',s'.os=s.os/\AllBare s'.gens/\Un (frs outer) [] H H' s.heap s'.heap/\HOk P w H' s'.heap/\RelV v u/\Q v H'
def CR (CX:CXT) (outer:List Env) (P:Program) (w:World) (H:Hp) (s:Shared) (Q:VK) (E:XK) (r:Result) (s':Shared):Prop:=
 match r with
 | .ok (.ret u)=>CE outer P w H s Q u s'
 | .ok _=>False
 | .error e=>CX outer H s E e s'
structure FnOk (P:Program) (w:World) (K:Fg) (mg:Str->Option Value) (base:Heap) (CX:CXT) (k:Nat) (f:Addr) (fd:FuncData) (ps:List Str) (sp:Sp):Prop where
 len:∀vs H Q E,sp vs H Q E->vs.length=ps.length
 run:∀(A:Around) (outer:List Env) (s:Shared) (H:Hp) (args:Args) (us:List Value) (vs:List V) (Q:VK) (E:XK),Room k A->Env0 P w K mg base A outer s H->BindsTo s fd args (ps.zip us)->Vals vs us->sp vs H Q E ->
  codeAny (model P w) A (.call (.ref f) args) (CR CX outer P w H s Q E) s
section
variable {X:Cx} {pins:List (Addr×Obj)} {σ:St} {H:Hp} {s s':Shared}
theorem Inv.env0 (I:Inv X pins σ H s):Env0 X.prog X.w X.K X.mg X.base X.A X.stack s H:=
 ⟨I.ok.frames,I.ok.mod,I.bs,Nat.le_trans I.ok.bsz I.sz,I.stack,I.stkFree,I.hok,I.bare⟩
theorem Inv.after {Q:VK} (I:Inv X pins σ H s) (h:CE X.stack X.prog X.w H s Q u s'):EP X pins σ Q u s':=by
 obtain ⟨v,H',os,bare,un,hok,r,q⟩:=h
 obtain ⟨hh,g,d,t,os'⟩:=s'
 obtain rfl:os'=s.os:=os
 exact ⟨v,H',I.call (h':=hh) (g':=g) (d':=d) (t':=t) (ch:=[]) un hok bare (fun b z=>absurd z (by simp)),r,q⟩
end
def tCall (sp:Sp) (dvs:List V) (E:XK) (t:TA):TE:=fun σ H Q=>t σ H fun vs H1=>sp (vs++dvs) H1 Q E
def Binds (K:Fg) (fd:FuncData) (ps:List Str) (ds:List Value):Prop:=
 ∀(s:Shared) (us:List Value),K.In s.heap->(us++ds).length=ps.length->BindsTo s fd ⟨us,[]⟩ (ps.zip (us++ds))
theorem Binds.all {fd:FuncData} (h:∀us:List Value,us.length=ps.length->bindArgs fd ⟨us,[]⟩=pure (ps.zip us)):Binds K fd ps []:=fun s us _ hl=>by
 rw [append_nil] at hl ⊢
 exact .of_eq (h us hl)
def zG2 (CX:CXT) (X:Cx) (E:XK):Prop:=∀(pins:List (Addr×Obj)) (σ:St) (H:Hp) (s:Shared) (e:Value) (s':Shared),Inv X pins σ H s->CX X.stack H s E e s'->X.xe e s'
section
variable {X:Cx} {CX:CXT} {k:Nat} {f C:Addr} {fd:FuncData} {ps:List Str} {sp:Sp} {dvs:List V} {ds:List Value} {E:XK} {x m:Str} {p pos apos:Pos} {e o:Expr} {es:List Expr} {ta:TE} {t:TA}
theorem run_fn {σ:St} {H:Hp} {s:Shared} {Q:VK} {vs:List V} (F:FnOk X.prog X.w X.K X.mg X.base CX k f fd ps sp) (hr:Room k X.A) (hb:Binds X.K fd ps ds) (hd:Vals dvs ds) (hx:zG2 CX X E)
  (I:Inv X pins σ H s) (r:Vals vs us) (h:sp (vs++dvs) H Q E):wpAny (model X.prog X.w) X.A (call (.ref f) us) (EP X pins σ Q) X.xe s:=by
 have r2:Vals (vs++dvs) (us++ds):=r.append hd
 have hl:(us++ds).length=ps.length:=by rw [<-r2.length];exact F.len _ _ _ _ h
 refine wpAny_call (codeAny_mono (F.run X.A X.stack s H ⟨us,[]⟩ (us++ds) (vs++dvs) Q E hr I.env0 (hb s us I.kIn hl) r2 h) fun r s' hq=>?_)
 cases r with
 | error e=>exact hx pins σ H s e s' I hq
 | ok fl=>
  cases fl with
  | ret u=>exact I.after hq
  | next=>exact False.elim hq
  | brk=>exact False.elim hq
  | cont=>exact False.elim hq
theorem zEF (F:FnOk X.prog X.w X.K X.mg X.base CX k f fd ps sp) (hr:Room k X.A) (hg:Gl X x) (hm:X.mg x=some (.ref f)) (hk:PySem.W.keepIn X.K (.ref f)=true) (hb:Binds X.K fd ps ds) (hd:Vals dvs ds) (hx:zG2 CX X E)
  (ha:PA X (e::es) t) (hdb:(x==("__debug__":Str))=false:=by decide) (he:starEach (e::es) X.env=(false,eval e X.env)::starEach es X.env:=by rfl) (hpl:(backTo pos (starEach es X.env)).any (·.1)=false:=by rfl) :
  PE X (.Call (.Name x p) (e::es) [] pos) (tCall sp dvs E t):=by
 intro pins s σ H Q I h
 refine wpAny_Call_Name_kw (ld_glob I hg hm ?_ hdb)
 refine PySem.W.callWith_K (h₀:=X.base) I.ok.mod.kin hk (thn (ha pos pins s σ H _ I h) fun us s1 ⟨vs,H1,I1,r,q⟩=>⟨I1.kIn,?_⟩) he hpl
 exact run_fn F hr hb hd hx I1 r q
end
structure FnScope (N P:List Str) (sc:Scope):Prop where
 kind:sc.kind=.function
 co:sc.isCoroutine=false
 gen:sc.isGenerator=false
 nd:N.Nodup
 pre:N.take P.length=P
 par:∀x∈P,sc.names.lookup x=some .local\/sc.names.lookup x=some .cell
 nofree:∀y∈sc.names,y.2≠.free
theorem bindL_out {kindOf:Str->Option NameKind} {x:Str}:∀{binds:List (Str×Value)} {m:Str->Option Value},(∀v,(x,v)∉binds)->bindL kindOf binds m x=m x
 | [],_,_=>rfl
 | (n,v)::r,m,h=>by
  unfold bindL
  rw [bindL_out fun w hw=>h w (mem_cons_of_mem _ hw)]
  split
  ·have:x≠n:=by rintro rfl;exact h v mem_cons_self
   simp [this]
  ·rfl
theorem bindC_out {kindOf:Str->Option NameKind} {x:Str}:∀{binds:List (Str×Value)} {m:Str->Option Value},(∀v,(x,v)∉binds)->bindC kindOf binds m x=m x
 | [],_,_=>rfl
 | (n,v)::r,m,h=>by
  unfold bindC
  rw [bindC_out fun w hw=>h w (mem_cons_of_mem _ hw)]
  split
  ·rfl
  ·have:x≠n:=by rintro rfl;exact h v mem_cons_self
   simp [this]
theorem bindL_get {kindOf:Str->Option NameKind} {x:Str} {v:Value}:∀{P:List Str} {vs:List Value} {i:Nat} {m:Str->Option Value},P.Nodup->P[i]?=some x->vs[i]?=some v->kindOf x=some .local ->
  bindL kindOf (P.zip vs) m x=some v
 | [],_,_,_,_,h,_,_=>by simp at h
 | _::_,[],_,_,_,_,h,_=>by simp at h
 | p::P,w::vs,0,m,nd,h1,h2,hk=>by
  simp at h1 h2;subst h1;subst h2
  show bindL kindOf ((p,w)::P.zip vs) m p=_
  unfold bindL
  rw [bindL_out fun v hv=>(List.nodup_cons.mp nd).1 (List.of_mem_zip hv).1,if_pos hk]
  simp
 | p::P,w::vs,i+1,m,nd,h1,h2,hk=>by
  show bindL kindOf ((p,w)::P.zip vs) m x=_
  unfold bindL
  exact bindL_get (i:=i) (List.nodup_cons.mp nd).2 (by simpa using h1) (by simpa using h2) hk
theorem bindC_get {kindOf:Str->Option NameKind} {x:Str} {v:Value}:∀{P:List Str} {vs:List Value} {i:Nat} {m:Str->Option Value},P.Nodup->P[i]?=some x->vs[i]?=some v->kindOf x≠some .local ->
  bindC kindOf (P.zip vs) m x=some v
 | [],_,_,_,_,h,_,_=>by simp at h
 | _::_,[],_,_,_,_,h,_=>by simp at h
 | p::P,w::vs,0,m,nd,h1,h2,hk=>by
  simp at h1 h2;subst h1;subst h2
  show bindC kindOf ((p,w)::P.zip vs) m p=_
  unfold bindC
  rw [bindC_out fun v hv=>(List.nodup_cons.mp nd).1 (List.of_mem_zip hv).1,if_neg hk]
  simp
 | p::P,w::vs,i+1,m,nd,h1,h2,hk=>by
  show bindC kindOf ((p,w)::P.zip vs) m x=_
  unfold bindC
  exact bindC_get (i:=i) (List.nodup_cons.mp nd).2 (by simpa using h1) (by simpa using h2) hk
def start (N:List Str) (vs:List V):St:=vs.map some++List.replicate (N.length-vs.length) none
def cxOf (CX:CXT) (P:Program) (w:World) (K:Fg) (mg:Str->Option Value) (base:Heap) (N:List Str) (qual:Str) (scope:Scope) (f:Addr) (cd:Value) (A:Around) (outer:List Env) (s:Shared) (H:Hp) (E:XK):Cx where
 prog:=P
 w:=w
 K:=K
 mg:=mg
 base:=base
 A:=A.deeper (envOfC qual scope s.heap.objs.size f cd)
 N:=N
 s₀:=s
 H₀:=H
 env:=envOfC qual scope s.heap.objs.size f cd
 outer:=outer
 stack:=envOfC qual scope s.heap.objs.size f cd::outer
 ex:=[]
 calm:=true
 fn:=fun _=>true
 pn:=[]
 xe:=fun e s'=>wpAny (model P w) (A.deeper (envOfC qual scope s.heap.objs.size f cd)) (leaving (envOfC qual scope s.heap.objs.size f cd) e) (fun _ s''=>CX outer H s E e s'') (fun e' s''=>CX outer H s E e' s'') s'
theorem cell_has {sc:Scope} (h:sc.names.lookup x=some .cell):∃c,(cellsFrom n sc.names []).lookup x=some c:=by
 have q:=PySem.W.cellsFrom_some sc.names n [] (.inl h)
 exact Option.isSome_iff_exists.mp q
theorem inv_start {CX:CXT} {P:Program} {w:World} {f:Addr} {cd:Value} {outer:List Env} {s s1:Shared} {H:Hp} {E:XK} {vs:List V}
  (S:FnScope N ps scope) (hd:A.handled=none) (e0:Env0 P w K mg base A outer s H) (hl:vs.length=ps.length) (r:Vals vs us)
  (x:InCallC s s.heap.objs.size (bindL (envOfC qual scope s.heap.objs.size f cd).kindOf (ps.zip us) fun _=>none) (cellsFrom (s.heap.objs.size+1) scope.names []) (bindC (envOfC qual scope s.heap.objs.size f cd).kindOf (ps.zip us) fun _=>none) s1) :
  Inv (cxOf CX P w K mg base N qual scope f cd A outer s H E) [] (start N vs) H s1:=by
 have hpl:ps.length<=N.length:=by have:=congrArg List.length S.pre;rw [length_take] at this;omega
 obtain ⟨h1,tk,rfl,hk⟩:=x.done
 have noA:∀b:Addr,b∉(cxOf CX P w K mg base N qual scope f cd A outer s H E).ex:=fun b z=>absurd (show b∈([]:List Addr) from z) (by simp)
 refine ⟨⟨e0.mod,S.kind,rfl,rfl,Nat.le_refl _,fun y z c h1 h2=>?_,fun y hy=>?_,fun y c _ h=>?_,fun _=>hd,Around.frames_deeper e0.frames,.inr ⟨rfl,rfl⟩,fun b z=>absurd z (noA b),e0.bs,e0.bsz,fun b _ _=>noA b,fun b z=>absurd z (noA b),e0.funs,e0.frf⟩,
  rfl,e0.bare,Un.kept hk,⟨_,x.toInCall.ns,fun i y v h1 h2 h3=>?_⟩,fun y c h=>⟨_,x.cell y c h⟩,e0.hok.fresh (Nat.le_refl _),fun y c h=>?_,fun p hp=>absurd (show p∈([]:List (Addr×Obj)) from hp) (by simp),e0.hok.kept hk,?_⟩
 ·exact name_of_addr x.apart (PySem.mem_of_lookup h1) (PySem.mem_of_lookup h2)
 ·have hy:scope.names.lookup y=some .cell\/scope.names.lookup y=some .free:=hy
  rcases hy with hy | hy
  ·exact cell_has hy
  ·exact absurd rfl (S.nofree _ (PySem.mem_of_lookup hy))
 ·exact Nat.le_of_lt (x.above y c (PySem.mem_of_lookup h))
 ·have hi:i<vs.length:=by
   unfold start at h2
   by_cases hi:i<vs.length
   ·exact hi
   ·rw [getElem?_append_right (by simpa using hi)] at h2
    rw [getElem?_replicate] at h2
    split at h2<;>cases h2
  have ha:vs[i]?=some v:=by
   unfold start at h2
   rw [getElem?_append_left (by simpa using hi),getElem?_map] at h2
   cases e:vs[i]? with
   | none=>rw [e] at h2;cases h2
   | some a=>rw [e] at h2;cases h2;rfl
  obtain ⟨u,hu,rv⟩:=r.get ha
  have hp:ps[i]?=some y:=by
   rw [<-S.pre,List.getElem?_take_of_lt (by omega)];exact h1
  have ndP:ps.Nodup:=by rw [<-S.pre];exact S.nd.sublist (List.take_sublist _ _)
  refine ⟨u,rv,?_⟩
  rcases S.par y (mem_of_getElem? hp) with k | k
  ·exact .inl ⟨k,bindL_get ndP hp hu k⟩
  ·obtain ⟨c,e⟩:=cell_has (n:=s.heap.objs.size+1) k
   refine .inr ⟨.inl k,c,e,?_⟩
   have q:=x.cell y c e
   rw [bindC_get ndP hp hu (by show scope.names.lookup y≠_;rw [k];decide)] at q
   exact q
 ·exact e0.hok.fresh (Nat.le_of_lt (x.above y c (PySem.mem_of_lookup h)))
 ·unfold start
  show _=N.length
  rw [length_append,length_map,List.length_replicate]
  omega
theorem fn_of {CX:CXT} {P:Program} {w:World} {k:Nat} {f:Addr} {name:Str} {params:Arguments} {body:List Stmt} {dV kV doc pm cdv ct oc:Value} {an od:Option Addr}
  {osl:Array (Option Value)} {sp:Sp} (lk:K.lookup f=some ⟨oc,od,.func (PySem.W.fnOf name qual params body scope dV kV doc pm an cdv ct),osl⟩) (hcd:PySem.W.codeIn K cdv qual=true) (S:FnScope N ps scope)
  (len:∀vs H Q E,sp vs H Q E->vs.length=ps.length)
  (hbody:∀(A:Around) (outer:List Env) (s:Shared) (H:Hp) (vs:List V) (Q:VK) (E:XK),Room k (A.deeper (envOfC qual scope s.heap.objs.size f cdv))->sp vs H Q E ->
   ∃t,PSs (cxOf CX P w K mg base N qual scope f cdv A outer s H E) body t/\t { nx:=fun _ H'=>Q .non H',rt:=Q } (start N vs) H) :
  FnOk P w K mg base CX (k+1) f (PySem.W.fnOf name qual params body scope dV kV doc pm an cdv ct) ps sp:=by
 refine ⟨len,fun A outer s H args us vs Q E hr e0 hb r hsp=>?_⟩
 have hl:=len _ _ _ _ hsp
 have KX:K.In s.heap:=e0.mod.kin.keeps fun b o e=>(e0.bs b o e).1
 have lim:s.heap.NoLimit:=e0.mod.nolimit.keeps fun b o e=>(e0.bs b o e).1
 have hkind:∀y∈ps.zip us,scope.names.lookup y.1=some .local\/(scope.names.lookup y.1=some .cell/\((cellsFrom (s.heap.objs.size+1) scope.names []).lookup y.1).isSome=true):=fun ⟨n,v⟩ hy=>by
  rcases S.par n (List.of_mem_zip hy).1 with q | q
  ·exact .inl q
  ·exact .inr ⟨q,PySem.W.cellsFrom_some _ _ _ (.inl q)⟩
 refine codeAny_call_function hr.depth (KX _ _ lk) rfl S.co S.gen rfl (PySem.W.codeRec_of KX hcd) (hb _ _ _ _ ?_)
 refine wpAny_newFunctionEnv_cells S.kind hkind fun env he s1 x=>?_
 subst he
 refine ⟨lim.keeps x.toInCall.keep,codeAny_func ?_⟩
 obtain ⟨t,ht,hq⟩:=hbody A outer s H vs Q E (hr.deeper _) hsp
 have I:Inv (cxOf CX P w K mg base N qual scope f cdv A outer s H E) [] (start N vs) H s1:=inv_start S hr.hd e0 hl r x
 refine wpAny_mono (ht [] s1 (start N vs) H _ I hq) (fun fl s' hs=>?_) fun e s' hs=>hs
 have fin:∀{σ':St} {H':Hp} {v:V} {u:Value},Inv (cxOf CX P w K mg base N qual scope f cdv A outer s H E) [] σ' H' s'->RelV v u->Q v H'->CE outer P w H s Q u s':=
  fun {σ' H' v u} J rv q=>⟨v,H',J.os,J.bare,J.base,J.hok,rv,q⟩
 cases fl with
 | ret u=>
  obtain ⟨v,σ',H',J,rv,q⟩:=hs
  exact fin J rv q
 | next=>
  obtain ⟨σ',H',J,q⟩:=hs
  exact fin (v:=V.non) (u:=Value.none) J rfl q
 | brk=>
  obtain ⟨_,_,_,q⟩:=hs
  exact False.elim q
 | cont=>
  obtain ⟨_,_,_,q⟩:=hs
  exact False.elim q
section
variable {X:Cx} {x:Str} {p pos:Pos} {e:Expr} {es:List Expr} {t:TA} {id T:String} {r:List V->Hp->VK->Prop}
def tCB (r:List V->Hp->VK->Prop) (t:TA):TE:=fun σ H Q=>t σ H fun vs H1=>r vs H1 Q
theorem zCZ (hc:CallR X (.builtin id) r) (hg:Gl X x) (hm:X.mg x=none) (hv:bootBuiltins x=some (.builtin id)) (ha:PA X (e::es) t) (hn:x ≠ "__name__":=by decide) (hdb:(x==("__debug__":Str))=false:=by decide)
  (he:starEach (e::es) X.env=(false,eval e X.env)::starEach es X.env:=by rfl) (hpl:(backTo pos (starEach es X.env)).any (·.1)=false:=by rfl):PE X (.Call (.Name x p) (e::es) [] pos) (tCB r t):=by
 intro pins s σ H Q I h
 refine wpAny_Call_Name_kw (zET I hg hm hv ?_ hn hdb)
 exact PyProof.Rows.callWith_builtin1 (thn (ha pos pins s σ H _ I h) fun us s1 ⟨vs,H1,I1,r1,q1⟩=>hc pins s1 σ H1 vs us Q I1 r1 q1) he hpl
theorem zDH (hc:CallR X (.type T) r) (hg:Gl X x) (hm:X.mg x=none) (hv:bootBuiltins x=some (.type T)) (ha:PA X (e::es) t) (hn:x ≠ "__name__":=by decide) (hdb:(x==("__debug__":Str))=false:=by decide)
  (he:starEach (e::es) X.env=(false,eval e X.env)::starEach es X.env:=by rfl) (hpl:(backTo pos (starEach es X.env)).any (·.1)=false:=by rfl):PE X (.Call (.Name x p) (e::es) [] pos) (tCB r t):=by
 intro pins s σ H Q I h
 refine wpAny_Call_Name_kw (zET I hg hm hv ?_ hn hdb)
 exact PyProof.Rows.callWith_type1 (thn (ha pos pins s σ H _ I h) fun us s1 ⟨vs,H1,I1,r1,q1⟩=>hc pins s1 σ H1 vs us Q I1 r1 q1) he hpl
end
end L2
namespace HT
open PySem PyProof.Rows
variable {sl:Addr} {vl vu:Value} {lo hi:Option Int}
section
variable {prog:Program} {w:World} {A:Around} {E:Value->Shared->Prop} {s:Shared}
def sIx (n d:Nat):Option Int->Nat
 | none=>d
 | some v=>if v<0 then (v+(n:Int)).toNat else min v.toNat n
theorem sIx_none (n d:Nat):sIx n d none=d:=rfl
theorem sIx_nat (n d k:Nat):sIx n d (some (k:Int))=min k n:=by
 show (if (k:Int)<0 then ((k:Int)+(n:Int)).toNat else min (k:Int).toNat n)=min k n
 rw [if_neg (by omega),Int.toNat_natCast]
theorem sIx_le (n d:Nat) (hd:d<=n) (o:Option Int):sIx n d o<=n:=by
 cases o with
 | none=>exact hd
 | some v=>
  show (if v<0 then (v+(n:Int)).toNat else min v.toNat n)<=n
  by_cases hv:v<0
  ·rw [if_pos hv];omega
  ·rw [if_neg hv];exact Nat.min_le_right _ _
theorem clip_eq (v:Int) (n d:Nat):(if v<0 then max (v+(n:Int)) 0 else min v (n:Int))=((sIx n d (some v):Nat):Int):=by
 show (if v<0 then max (v+(n:Int)) 0 else min v (n:Int))=(((if v<0 then (v+(n:Int)).toNat else min v.toNat n):Nat):Int)
 by_cases hv:v<0
 ·simp only [if_pos hv];omega
 ·simp only [if_neg hv];omega
theorem adjust_gen (lo hi:Option Int) (n:Nat):Builtin.Slice.sliceAdjust lo hi 1 (n:Int)=(((sIx n 0 lo:Nat):Int),((sIx n n hi:Nat):Int)):=by
 have h1:¬((1:Int)<0):=by omega
 unfold Builtin.Slice.sliceAdjust
 simp only [h1,if_false]
 refine Prod.ext ?_ ?_
 ·cases lo with
  | none=>rfl
  | some v=>exact clip_eq v n 0
 ·cases hi with
  | none=>rfl
  | some v=>exact clip_eq v n n
theorem places_gen (i j:Nat):Builtin.Slice.slicePlaces (i:Int) (j:Int) 1=j-i:=by
 unfold Builtin.Slice.slicePlaces
 have h1:(1:Int)>0:=by omega
 simp only [h1,if_true,Int.ediv_one]
 split<;>omega
theorem slicePart_ {v:Value} {o:Option Int} {Q:Option Int->Shared->Prop} (p:IsPart v o) (h:Q o s):wpAny (model prog w) A (Builtin.Slice.slicePartIndex v) Q E s:=by
 cases p with
 | none=>exact slicePart_none h
 | int i t=>exact slicePart_int h
theorem sliceApplied_gen {n:Nat} {Q:Int×Int×Nat->Shared->Prop} (hs:s.heap.IsSliceOf sl vl vu .none) (pl:IsPart vl lo) (pu:IsPart vu hi)
  (h:Q (((sIx n 0 lo:Nat):Int),1,sIx n n hi-sIx n 0 lo) s):wpAny (model prog w) A (Builtin.Slice.sliceApplied (.ref sl) (pure (n:Int))) Q E s:=by
 obtain ⟨os,hos,hcs,hds⟩:=id hs
 unfold Builtin.Slice.sliceApplied Builtin.Slice.sliceFields
 refine wpAny_bind (wpAny_bind (wpAny_field hos hds (x:=vl) rfl (wpAny_bind (wpAny_field hos hds (x:=vu) rfl (wpAny_bind (wpAny_field hos hds (x:=.none) rfl (wpAny_pure ?_)))))))
 refine wpAny_bind (slicePart_none ?_)
 show wpAny _ _ (if ((1:Int)==0)=true then _ else _) _ _ s
 rw [if_neg (by decide)]
 refine wpAny_bind (slicePart_ pl (wpAny_bind (slicePart_ pu (wpAny_bind (wpAny_pure ?_)))))
 show wpAny _ _ (match Builtin.Slice.sliceAdjust lo hi 1 (n:Int) with | (lo,hi)=>pure (lo,(1:Int),Builtin.Slice.slicePlaces lo hi 1)) _ _ s
 rw [adjust_gen lo hi n]
 show wpAny _ _ (pure (((sIx n 0 lo:Nat):Int),(1:Int),Builtin.Slice.slicePlaces ((sIx n 0 lo:Nat):Int) ((sIx n n hi:Nat):Int) 1)) _ _ s
 rw [places_gen]
 exact wpAny_pure h
theorem pick_gen (xs:Array Value) (i k:Nat):((List.range k).filterMap fun (m:Nat)=>xs[((i:Int)+(m:Int)*1).toNat]?).toArray=((xs.toList.drop i).take k).toArray:=by
 have e:(fun (m:Nat)=>xs[((i:Int)+(m:Int)*1).toNat]?)=fun m=>xs[i+m]?:=by
  funext m
  have:((i:Int)+(m:Int)*1).toNat=i+m:=by omega
  rw [this]
 rw [e]
 have:=pick_run xs i k
 rw [List.filterMap_map] at this
 have e2:((fun x=>xs[x]?)∘fun x=>i+x)=fun m=>xs[i+m]?:=rfl
 rw [e2] at this
 rw [this]
theorem getItem_tuple_cut {t:Addr} {items:Array Value} {Q:Value->Shared->Prop} (ht:IsTup s.heap t items) (hs:s.heap.IsSliceOf sl vl vu .none) (pl:IsPart vl lo) (pu:IsPart vu hi)
  (hw:¬(sIx items.size 0 lo=0/\sIx items.size items.size hi=items.size))
  (h:Q (.ref s.heap.objs.size) { s with heap:=s.heap.push { cls:=.type "tuple",data:=.seq ((items.toList.drop (sIx items.size 0 lo)).take (sIx items.size items.size hi-sIx items.size 0 lo)).toArray } })
  (hsz:items.size<=sizeLine):wpAny (model prog w) A (getItem (.ref t) (.ref sl)) Q E s:=by
 have htake:sizeOk (.seq ((items.toList.drop (sIx items.size 0 lo)).take (sIx items.size items.size hi-sIx items.size 0 lo)).toArray):=by
  show ((items.toList.drop (sIx items.size 0 lo)).take (sIx items.size items.size hi-sIx items.size 0 lo)).toArray.size<=sizeLine
  rw [size_toArray,length_take,length_drop,Array.length_toList]
  omega
 have hj:sIx items.size items.size hi<=items.size:=sIx_le _ _ (Nat.le_refl _) hi
 obtain ⟨os,hos,hcs,hds⟩:=id hs
 have hTs:s.TypeIs (.ref sl) "slice":=⟨os,hos,hcs⟩
 unfold getItem
 try with_reducible refine wpAny_holding ?_
 first | refine wpAny_bind (wpAny_pure ?_) | skip
 refine wpAny_bind (wpAny_sequenceKey ht.typeIs (by decide) ?_)
 refine wpAny_bind (wpAny_callSpecial?_slot (name:=Str.ofString "__getitem__") ht.typeIs PyProof.Rows.slot_tuple_getitem
  (wpAny_call_entry PyProof.Rows.slot_tuple_getitem ht.typeIs entry_tuple_getitem ?_ (args_tuple_getitem _ _)))
 show wpAny _ _ (Builtin.Tuple.tupleItemsOf (.ref t) >>= _) _ _ s
 refine wpAny_bind (tupleItemsOf_ ht ?_)
 refine wpAny_bind (wpAny_typeOf hTs ?_)
 rw [if_pos (by decide)]
 refine wpAny_bind (sliceApplied_gen hs pl pu ?_)
 have hno:¬((((sIx items.size 0 lo:Nat):Int)==0&&(1:Int)==1&&(sIx items.size items.size hi-sIx items.size 0 lo)==items.size)=true):=by
  intro q
  rw [Bool.and_eq_true,Bool.and_eq_true] at q
  have q1:((sIx items.size 0 lo:Nat):Int)=0:=eq_of_beq q.1.1
  have q2:sIx items.size items.size hi-sIx items.size 0 lo=items.size:=eq_of_beq q.2
  exact hw ⟨by omega,by omega⟩
 show wpAny _ _ (if (((sIx items.size 0 lo:Nat):Int)==0&&(1:Int)==1&&(sIx items.size items.size hi-sIx items.size 0 lo)==items.size)=true then _ else _) _ _ s
 rw [if_neg hno,pick_gen]
 first
  | exact wpAny_bind (m:=Builtin.Tuple.tupleExact _) (wpAny_newObj_type (wpAny_pure ⟨_,rfl,wpAny_pure h⟩) htake)
  | exact wpAny_bind (m:=Builtin.Tuple.tupleExact _) (wpAny_newObj_type (wpAny_bind (wpAny_pure (wpAny_pure ⟨_,rfl,wpAny_pure h⟩))) htake)
  | exact wpAny_bind (wpAny_bind (m:=Builtin.Tuple.tupleExact _) (wpAny_newObj_type (wpAny_pure (wpAny_pure ⟨_,rfl,wpAny_pure h⟩)) htake))
  | exact wpAny_bind (wpAny_bind (m:=Builtin.Tuple.tupleExact _) (wpAny_newObj_type (wpAny_pure ⟨_,rfl,wpAny_pure h⟩) htake))
end
end HT
namespace L2
open PySem PySem.Spec PyProof.Rows
variable {n:Nat} {α:Type} {pins:List (Addr×Obj)} {σ:St} {its its':List Value}
abbrev TO:=St->Hp->(Option Int->Hp->Prop)->Prop
def PO (X:Cx) (e:Option Expr) (t:TO):Prop:=
 ∀(pins:List (Addr×Obj)) (s:Shared) (σ:St) (H:Hp) (Q:Option Int->Hp->Prop),Inv X pins σ H s->t σ H Q ->
  wpAny (model X.prog X.w) X.A (evalPart e X.env) (fun u s'=>∃o H',Inv X pins σ H' s'/\IsPart u o/\Q o H') X.xe s
def tNoPart:TO:=fun _ H Q=>Q none H
def tPart (t:TE):TO:=fun σ H Q=>t σ H fun x H1=>∃i,x=.int i/\Q (some i) H1
section
variable {X:Cx} {e:Expr} {te:TE} {lo hi:Option Expr} {tl th:TO} {pos p2:Pos}
theorem po_none:PO X none tNoPart:=by
 intro pins s σ H Q I h
 rw [evalPart_none]
 exact wpAny_pure ⟨none,H,I,.none,h⟩
theorem po_some (h:PE X e te):PO X (some e) (tPart te):=by
 intro pins s σ H Q I hw
 rw [evalPart_some]
 refine thn (h pins s σ H _ I hw) fun u s1 ⟨x,H1,I1,r1,q1⟩=>?_
 obtain ⟨i,rfl,q⟩:=q1
 obtain ⟨t,rfl⟩:=r1
 exact ⟨some i,H1,I1,.int i t,q⟩
def SlR (X:Cx) (r:V->Option Int->Option Int->Hp->VK->Prop):Prop:=
 ∀(pins:List (Addr×Obj)) (s:Shared) (σ:St) (H:Hp) (x:V) (v vl vu:Value) (lo hi:Option Int) (sl:Addr) (Q:VK),Inv X pins σ H s->RelV x v->s.heap.IsSliceOf sl vl vu .none->IsPart vl lo->IsPart vu hi->r x lo hi H Q ->
  ∃T id,typeLookup (.type T) "__getitem__"=pure (some (.builtin id))/\s.TypeIs v T/\wpAny (model X.prog X.w) X.A (getItem v (.ref sl)) (EP X pins σ Q) X.xe s
def tSl (r:V->Option Int->Option Int->Hp->VK->Prop) (te:TE) (tl th:TO):TE:=fun σ H Q=>te σ H fun x H1=>tl σ H1 fun l H2=>th σ H2 fun u H3=>r x l u H3 Q
theorem pe_slice {r:V->Option Int->Option Int->Hp->VK->Prop} (hr:SlR X r) (he:PE X e te) (hl:PO X lo tl) (hu:PO X hi th):PE X (.Subscript e (.Slice lo hi none p2) pos) (tSl r te tl th):=by
 intro pins s σ H Q I h
 refine Subscript_ (thn (he pins s σ H _ I h) fun v s1 ⟨x,H1,I1,r1,q1⟩=>?_)
 refine wpAny_Slice (thn (hl pins s1 σ H1 _ I1 q1) fun vl s2 ⟨l,H2,I2,pl,q2⟩=>thn (hu pins s2 σ H2 _ I2 q2) fun vu s3 ⟨u,H3,I3,pu,q3⟩=>?_)
 rw [evalPart_none]
 refine wpAny_pure ?_
 have I4:Inv X pins σ H3 { s3 with heap:=s3.heap.push { cls:=.type "slice",data:=.fields #[vl,vu,.none] } }:=I3.kept (t':=s3.toks) fun b ob q=>Heap.get?_push_of_some _ q
 obtain ⟨T,id,hT,ht,hg⟩:=hr pins { s3 with heap:=s3.heap.push { cls:=.type "slice",data:=.fields #[vl,vu,.none] } } σ H3 x v vl vu l u s3.heap.objs.size Q I4 r1 (Heap.IsSliceOf.new ..) pl pu q3
 show wpAny (model X.prog X.w) X.A (subscriptTail e (.Slice lo hi none p2) v (.ref s3.heap.objs.size)) (EP X pins σ Q) X.xe { s3 with heap:=s3.heap.push { cls:=.type "slice",data:=.fields #[vl,vu,.none] } }
 exact tail_any (ops:=[.ref s3.heap.objs.size,v]) ht hT hg (by with_unfolding_all rfl)
def cutV (xs:List V) (lo hi:Option Int):List V:=(xs.drop (HT.sIx xs.length 0 lo)).take (HT.sIx xs.length xs.length hi-HT.sIx xs.length 0 lo)
theorem cutV_length (xs:List V) (lo hi:Option Int):(cutV xs lo hi).length<=xs.length:=by
 unfold cutV
 rw [length_take,length_drop]
 omega
def rSlT (K:Fg):V->Option Int->Option Int->Hp->VK->Prop:=fun x lo hi H Q=>∃a xs,x=.ref a/\SqT K H a xs /\
 ¬(HT.sIx xs.length 0 lo=0/\HT.sIx xs.length xs.length hi=xs.length)/\∀p,H p=none->Q (.ref p) (upd H p (.tup (cutV xs lo hi)))
theorem sl_tup:SlR X (rSlT X.K):=by
 intro pins s σ H x v vl vu lo hi sl Q I rx hs pl pu h
 obtain ⟨a,xs,rfl,hx,hw,q⟩:=h
 cases rx
 obtain ⟨its,r,ht,hz⟩:=I.tuple hx
 have hlen:its.toArray.size=xs.length:=by rw [size_toArray];exact r.length.symm
 refine ⟨"tuple",_,PyProof.Rows.slot_tuple_getitem.lookup,ht.typeIs,?_⟩
 refine HT.getItem_tuple_cut ht hs pl pu (by rw [hlen];exact hw) ?_ (by rw [hlen];exact hz)
 rw [hlen]
 refine ⟨.ref s.heap.objs.size,_,I.laid (t':=s.toks) (o:=.tup (cutV xs lo hi)) (fun b ob q=>Heap.get?_push_of_some _ q) (Nat.le_refl _) ?_,rfl,q _ (I.hok.fresh (Nat.le_refl _))⟩
 exact ⟨Nat.le_trans (cutV_length xs lo hi) hz,_,(r.drop (HT.sIx xs.length 0 lo)).take (HT.sIx xs.length xs.length hi-HT.sIx xs.length 0 lo),IsTup.new _ _⟩
end
def ixN (n:Nat) (i:Int):Option Nat:=if 0<=i then (if i<n then some i.toNat else none) else if -(n:Int)<=i then some (i+n).toNat else none
def atI {α:Type} (xs:List α) (i:Int):Option α:=(ixN xs.length i).bind fun j=>xs[j]?
theorem ixN_seq {i:Int} {j:Nat} (h:ixN n i=some j):seqIndex? i n=some j/\j<n/\-(n:Int)<=i/\i<n:=by
 unfold ixN at h
 by_cases h0:0<=i
 ·rw [if_pos h0] at h
  by_cases h1:i<n
  ·rw [if_pos h1] at h
   have e:i.toNat=j:=Option.some.inj h
   exact ⟨by rw [seqIndex_of h0 h1,e],by omega,by omega,h1⟩
  ·rw [if_neg h1] at h;cases h
 ·rw [if_neg h0] at h
  by_cases h1:-(n:Int)<=i
  ·rw [if_pos h1] at h
   have e:(i+n).toNat=j:=Option.some.inj h
   exact ⟨by rw [seqIndex_neg (by omega) h1,e],by omega,h1,by omega⟩
  ·rw [if_neg h1] at h;cases h
theorem zF8 {xs:List α} {i:Int} {v:α} (h:atI xs i=some v):∃j,seqIndex? i xs.length=some j/\xs[j]?=some v/\j<xs.length/\-(xs.length:Int)<=i/\i<xs.length:=by
 unfold atI at h
 cases e:ixN xs.length i with
 | none=>rw [e] at h;cases h
 | some j=>
  rw [e] at h
  obtain ⟨h1,h2,h3,h4⟩:=ixN_seq e
  exact ⟨j,h1,h,h2,h3,h4⟩
def zFJ (b:Expr):Prop:=∀o i,subscripted b false o i=operate [o,i] (getItem o i)
def IxR (X:Cx) (r:R2):Prop:=
 ∀(value slice:Expr) (pins:List (Addr×Obj)) (s:Shared) (σ:St) (H:Hp) (x y:V) (v u:Value) (Q:VK),Inv X pins σ H s->RelV x v->RelV y u->r x y H Q ->
  subscripted slice false v u=operate [v,u] (getItem v u)->wpAny (model X.prog X.w) X.A (subscriptTail value slice v u) (EP X pins σ Q) X.xe s
def MtR (X:Cx) (id:String) (r:V->List V->Hp->VK->Prop):Prop:=
 ∀(pins:List (Addr×Obj)) (s:Shared) (σ:St) (H:Hp) (x:V) (xs:List V) (v:Value) (us:List Value) (Q:VK),Inv X pins σ H s->RelV x v->Vals xs us->r x xs H Q ->
  wpAny (model X.prog X.w) X.A (call (.builtin id) (v::us)) (EP X pins σ Q) X.xe s
section
variable {X:Cx} {a b:Expr} {ta tb:TE} {pos:Pos}
theorem IxR.or {r r':R2} (h:IxR X r) (h':IxR X r'):IxR X (fun x y H Q=>r x y H Q\/r' x y H Q):=by
 intro value slice pins s σ H x y v u Q I rx ry q hs
 rcases q with q | q
 ·exact h value slice pins s σ H x y v u Q I rx ry q hs
 ·exact h' value slice pins s σ H x y v u Q I rx ry q hs
theorem pe_ix {r:R2} (hr:IxR X r) (ha:PE X a ta) (hb:PE X b tb) (hs:zFJ b):PE X (.Subscript a b pos) (tOp r ta tb):=by
 intro pins s σ H Q I h
 exact Subscript_ (binT ha hb I h fun v u s2 x y H2 I2 rx ry q=>hr a b pins s2 σ H2 x y v u Q I2 rx ry q (hs _ _))
def rIxL (K:Fg):R2:=fun x y H Q=>∃p xs i v,x=.ref p/\y=.int i/\SqL K H p xs/\atI xs i=some v/\Q v H
def rIxT (K:Fg):R2:=fun x y H Q=>∃p xs i v,x=.ref p/\y=.int i/\SqT K H p xs/\atI xs i=some v/\Q v H
def rIxS:R2:=fun x y H Q=>∃z i c,x=.str z/\y=.int i/\z.length<=sizeLine/\atI z.cps.toList i=some c/\Q (.str ⟨#[c]⟩) H
theorem ix_list:IxR X (rIxL X.K):=by
 intro value slice pins s σ H x y v u Q I rx ry h hs
 obtain ⟨p,xs,i,z,rfl,rfl,hq,he,q⟩:=h
 cases rx
 obtain ⟨t,rfl⟩:=ry
 obtain ⟨its,r,pl,hz⟩:=I.list hq
 obtain ⟨j,h1,h2,h3,h4,h5⟩:=zF8 he
 obtain ⟨w,ew,rw'⟩:=r.get h2
 have hl:=r.length
 have hn:=zEG
 have fin:EP X pins σ Q w s:=⟨z,H,I,rw',q⟩
 by_cases h0:0<=i
 ·have hj:i.toNat=j:=by
   rw [seqIndex_of h0 h5] at h1
   exact Option.some.inj h1
  exact item_listR pl.isList h0 (by omega) (by rw [hj];simpa using ew) fin hs
 ·have hj:(i+(its.toArray.size:Int)).toNat=j:=by
   rw [seqIndex_neg (by omega) h4] at h1
   rw [size_toArray,<-hl]
   exact Option.some.inj h1
  exact subscriptTail_builtinR (x:=w) pl.isList.typeIs slot_list_getitem.lookup
   (wpAny_getItem_list_neg (Q:=fun r s'=>r=w/\EP X pins σ Q r s') pl.isList (by omega) (by rw [size_toArray]<;>omega) (by omega) (by rw [hj];simpa using ew) ⟨rfl,fin⟩) hs
theorem ix_tup:IxR X (rIxT X.K):=by
 intro value slice pins s σ H x y v u Q I rx ry h hs
 obtain ⟨p,xs,i,z,rfl,rfl,hq,he,q⟩:=h
 cases rx
 obtain ⟨t,rfl⟩:=ry
 obtain ⟨its,r,pl,hz⟩:=I.tuple hq
 obtain ⟨j,h1,h2,h3,h4,h5⟩:=zF8 he
 obtain ⟨w,ew,rw'⟩:=r.get h2
 have hl:=r.length
 have hn:=zEG
 have fin:EP X pins σ Q w s:=⟨z,H,I,rw',q⟩
 exact subscriptTail_builtinR (x:=w) pl.typeIs slot_tuple_getitem.lookup
  (getItem_tuple (j:=j) (Q:=fun r s'=>r=w/\EP X pins σ Q r s') pl (by omega) (by omega) (by rw [size_toArray,<-hl];exact h1) (by simpa using ew) ⟨rfl,fin⟩) hs
theorem ix_str:IxR X rIxS:=by
 intro value slice pins s σ H x y v u Q I rx ry h hs
 obtain ⟨z,i,c,rfl,rfl,hz,he,q⟩:=h
 obtain ⟨t,rfl⟩:=rx
 obtain ⟨t',rfl⟩:=ry
 obtain ⟨j,h1,h2,h3,h4,h5⟩:=zF8 he
 have hl:z.cps.toList.length=z.length:=by simp [Str.length]
 rw [hl] at h1 h4 h5
 have hn:=zEG
 exact tail_any (typeIs_str s z t) slot_str_getitem.lookup (getItem_str (c:=c) (by
  have e1:decide (i < -(2 ^ 63:Int))=false:=decide_eq_false (by omega)
  have e2:decide (i≥2 ^ 63)=false:=decide_eq_false (by omega)
  rw [e1,e2,Bool.or_false]) (by rw [h1];simpa using h2) ⟨.str ⟨#[c]⟩,H,I.tok _,⟨_,rfl⟩,q⟩) hs
def rIx (K:Fg):R2:=fun x y H Q=>rIxL K x y H Q\/rIxT K x y H Q\/rIxS x y H Q
theorem zDI:IxR X (rIx X.K):=ix_list.or (ix_tup.or ix_str)
theorem mapSeq_set (its:List Value) (n j:Nat) (u:Value):Obj.mapSeq (·.setIfInBounds j u) { cls:=.type "list",data:=.seq its.toArray n }={ cls:=.type "list",data:=.seq (its.set j u).toArray n }:=by
 simp [Obj.mapSeq]
theorem Inv.lst {pins:List (Addr×Obj)} {σ:St} {H:Hp} {s:Shared} {p:Addr} {xs:List V} (I:Inv X pins σ H s) (h:H p=some (.lst xs)) :
  ∃(its:List Value) (n:Nat),Vals xs its/\s.heap.get? p=some { cls:=.type "list",data:=.seq its.toArray n }/\xs.length<=sizeLine:=by
 obtain ⟨z,its,n,r,e⟩:=I.hok p _ h
 exact ⟨its,n,r,e,z⟩
theorem Inv.lstUpd {H:Hp} {s:Shared} {p:Addr} {xs ys:List V} {n':Nat} {f:Obj->Obj} (I:Inv X pins σ H s) (h:H p=some (.lst xs))
  (ho:s.heap.get? p=some { cls:=.type "list",data:=.seq its.toArray n }) (hf:f { cls:=.type "list",data:=.seq its.toArray n }={ cls:=.type "list",data:=.seq its'.toArray n' }) (r:Vals ys its') (hz:ys.length<=sizeLine) (t:Nat) :
  Inv X pins σ (upd H p (.lst ys)) { s with heap:=s.heap.update p f,toks:=t }:=by
 have e:(s.heap.update p f).get? p=some { cls:=.type "list",data:=.seq its'.toArray n' }:=by
  rw [Heap.get?_update_self f ho (by rw [hf]<;>rfl),hf]
 refine I.write (x:=p) (e:=p) (by rw [h];trivial) (.inl rfl) (fun b u hb q=>(Heap.get?_update_other _ _ (Ne.symm hb)).trans q) ⟨_,e⟩ ?_
 exact ⟨hz,its',n',r,e⟩
def rSetL:V->V->V->Hp->(Hp->Prop)->Prop:=fun o i v H Q=>∃p xs k j,o=.ref p/\i=.int k/\H p=some (.lst xs)/\ixN xs.length k=some j/\Q (upd H p (.lst (xs.set j v)))
theorem set_list:PSet X rSetL:=by
 intro pins s σ H o i v ov iv u Q I ro ri rv h
 obtain ⟨p,xs,k,j,rfl,rfl,hp,hj,q⟩:=h
 cases ro
 obtain ⟨t,rfl⟩:=ri
 obtain ⟨its,n,r,ho,hz⟩:=I.lst hp
 obtain ⟨h1,h2,h3,h4⟩:=ixN_seq hj
 have hl:=r.length
 have hn:=zEG
 have I':Inv X pins σ (upd H p (.lst (xs.set j v))) { s with heap:=s.heap.update p (Obj.mapSeq (·.setIfInBounds j u)) }:=
  I.lstUpd hp ho (mapSeq_set its n j u) (r.set rv j) (by rw [length_set];exact hz) s.toks
 by_cases h0:0<=k
 ·have hk:k.toNat=j:=by
   rw [seqIndex_of h0 h4] at h1
   exact Option.some.inj h1
  exact PySem.W.ki_setAt ho h0 (by omega) (by rw [size_toArray,<-hl];exact h4) (by rw [hk];exact ⟨_,I',q⟩)
 ·have hk:(k+(its.toArray.size:Int)).toNat=j:=by
   rw [seqIndex_neg (by omega) h3] at h1
   rw [size_toArray,<-hl]
   exact Option.some.inj h1
  exact PySem.W.ki_setBack ho (by omega) (by rw [size_toArray,<-hl];exact h3) (by omega) (by rw [hk];exact ⟨_,I',q⟩)
theorem call_len_seq:CallR X (.builtin "len") (fun xs H Q=>∃p ys,xs=[.ref p]/\(SqL X.K H p ys\/SqT X.K H p ys)/\Q (.int ys.length) H):=by
 intro pins s σ H xs us Q I r h
 obtain ⟨p,ys,rfl,hq,q⟩:=h
 obtain ⟨u,rfl,rx⟩:=vals1 r
 cases rx
 have hn:=zEG
 rcases hq with hq | hq
 ·obtain ⟨its,r',pl,hz⟩:=I.list hq
  have hlen:=r'.length
  exact Calls.call_len_list pl.isList (by simp only [size_toArray]<;>omega) ⟨.int ys.length,H,I.tok _,⟨s.toks+1,by rw [size_toArray,hlen]⟩,q⟩
 ·obtain ⟨its,r',pl,hz⟩:=I.tuple hq
  have hlen:=r'.length
  exact len_tuple pl (by simp only [size_toArray]<;>omega) ⟨.int ys.length,H,I.tok _,⟨s.toks+1,by rw [size_toArray,hlen]⟩,q⟩
theorem call_len_str:CallR X (.builtin "len") (fun xs H Q=>∃z,xs=[.str z]/\z.length<=sizeLine/\Q (.int z.length) H):=by
 intro pins s σ H xs us Q I r h
 obtain ⟨z,rfl,hz,q⟩:=h
 obtain ⟨u,rfl,t,rfl⟩:=vals1 r
 have hn:=zEG
 exact len_str (by omega) ⟨.int z.length,H,I.tok _,⟨_,rfl⟩,q⟩
theorem CallR.or {f:Value} {r r':List V->Hp->VK->Prop} (h:CallR X f r) (h':CallR X f r'):CallR X f (fun xs H Q=>r xs H Q\/r' xs H Q):=by
 intro pins s σ H xs us Q I rs q
 rcases q with q | q
 ·exact h pins s σ H xs us Q I rs q
 ·exact h' pins s σ H xs us Q I rs q
theorem call_list_of:CallR X (.type "list") (fun xs H Q=>∃p ys,xs=[.ref p]/\(SqL X.K H p ys\/SqT X.K H p ys)/\∀l,H l=none->Q (.ref l) (upd H l (.lst ys))):=by
 intro pins s σ H xs us Q I r h
 obtain ⟨p,ys,rfl,hq,q⟩:=h
 obtain ⟨u,rfl,rx⟩:=vals1 r
 cases rx
 have fin:∀(its:List Value),Vals ys its->ys.length<=sizeLine->∀(h':Heap) (c':Nat),(∀b o',s.heap.get? b=some o'->h'.get? b=some o') ->
   h'.get? s.heap.objs.size=some { cls:=.type "list",dict:=none,data:=.seq its.toArray c',slots:=#[] }->EP X pins σ Q (.ref s.heap.objs.size) { s with heap:=h' }:=fun its r' hz h' c' kp e=>
  ⟨.ref s.heap.objs.size,_,I.laid (t':=s.toks) kp (Nat.le_refl _) (show ObjOk X.prog X.w _ h' _ (.lst ys) from ⟨hz,its,c',r',e⟩),rfl,q _ (I.hok.fresh (Nat.le_refl _))⟩
 rcases hq with hq | hq
 ·obtain ⟨its,r',pl,hz⟩:=I.list hq
  have hlen:=r'.length
  obtain ⟨o,ho,hc,n,hd⟩:=pl.isList
  exact call_list_seq p (.inl rfl) ho hc hd (fun h' c' kp e=>fin its r' hz h' c' kp e) (by simp only [size_toArray]<;>omega)
 ·obtain ⟨its,r',pl,hz⟩:=I.tuple hq
  have hlen:=r'.length
  obtain ⟨o,ho,hc,n,hd⟩:=pl
  exact call_list_seq p (.inr rfl) ho hc hd (fun h' c' kp e=>fin its r' hz h' c' kp e) (by simp only [size_toArray]<;>omega)
def tyV (K:Fg) (T:String) (x:V) (H:Hp):Prop:=match x with
 | .str _=>T = "str"
 | .int _=>T = "int"
 | .ref p=>(T = "list"/\∃xs,SqL K H p xs)\/(T = "tuple"/\∃o,K.lookup p=some o/\o.cls=.type "tuple"/\o.dict=none) \/
   (T = "dict"/\((∃kvs,H p=some (.dK kvs))\/∃kvs,H p=some (.dT kvs)))\/(T = "set"/\∃S n,H p=some (.set S n))
 | _=>False
theorem tyV_is {H:Hp} {s:Shared} {T:String} {x:V} {v:Value} (I:Inv X pins σ H s) (r:RelV x v) (ty:tyV X.K T x H) :
  s.TypeIs v T/\∀a,v=.ref a->∃ob,s.heap.get? a=some ob/\ob.dict=none:=by
 cases x with
 | str z=>
  obtain ⟨t,rfl⟩:=r
  cases (show T = "str" from ty)
  exact ⟨typeIs_str s z t,fun _ e=>nomatch e⟩
 | int i=>
  obtain ⟨t,rfl⟩:=r
  cases (show T = "int" from ty)
  exact ⟨typeIs_int s i t,fun _ e=>nomatch e⟩
 | ref p=>
  cases r
  rcases ty with ⟨rfl,xs,hq⟩ | ⟨rfl,o,hk,hc,hd⟩ | ⟨rfl,hk⟩ | ⟨rfl,S,n,hk⟩
  ·obtain ⟨its,_,pl,_⟩:=I.list hq
   refine ⟨pl.isList.typeIs,fun a e=>?_⟩
   cases e
   obtain ⟨o,n,e,c,hd,_⟩:=pl
   exact ⟨o,e,hd⟩
  ·refine ⟨⟨o,I.kIn p o hk,hc⟩,fun a e=>?_⟩
   cases e
   exact ⟨o,I.kIn _ o hk,hd⟩
  ·have z:∃o,s.heap.get? p=some o/\o.ExactDict:=by
    rcases hk with ⟨kvs,hk⟩ | ⟨kvs,hk⟩
    ·obtain ⟨_,_,_,_,o,_,_,e,ex,_⟩:=I.hok p _ hk
     exact ⟨o,e,ex⟩
    ·obtain ⟨_,_,_,_,o,_,_,e,ex,_⟩:=I.hok p _ hk
     exact ⟨o,e,ex⟩
   obtain ⟨o,e,ex⟩:=z
   refine ⟨⟨o,e,ex.1⟩,fun a e2=>?_⟩
   cases e2
   exact ⟨o,e,ex.2.1⟩
  ·obtain ⟨o,_,_,_,e,ex,_⟩:=I.hok p _ hk
   refine ⟨⟨o,e,ex.1⟩,fun a e2=>?_⟩
   cases e2
   exact ⟨o,e,ex.2.1⟩
 | _=>exact False.elim ty
def tBM0 (K:Fg) (T:String) (r:V->List V->Hp->VK->Prop) (to:TE):TE:=fun σ H Q=>to σ H fun x H1=>tyV K T x H1/\r x [] H1 Q
def tBM (K:Fg) (T:String) (r:V->List V->Hp->VK->Prop) (to:TE) (t:TA):TE:=fun σ H Q=>to σ H fun x H1=>tyV K T x H1/\t σ H1 fun xs H2=>r x xs H2 Q
variable {o e:Expr} {es:List Expr} {to:TE} {t:TA} {name:Str} {apos cpos:Pos} {T id:String} {r:V->List V->Hp->VK->Prop}
theorem pe_bm0 (pa:PlainAttrs T) (slot:Slot T name id) (hty:typeOf (.builtin id)=pure (.type "method_descriptor")) (hm:MtR X id r) (ho:PE X o to)
  (hbase:attributeBase o name X.env (eval o X.env)=eval o X.env:=by rfl) (hline:(apos.endLine==cpos.line)=true:=by rfl):PE X (.Call (.Attribute o name apos) [] [] cpos) (tBM0 X.K T r to):=by
 intro pins s σ H Q I h
 refine wpAny_Call_method0_late hbase hline (thn (ho pins s σ H _ I h) fun v s1 ⟨x,H1,I1,r1,ty,q1⟩=>?_)
 obtain ⟨h1,h2⟩:=tyV_is I1 r1 ty
 exact ⟨T,id,pa,slot,hty,h1,h2,Calls.callWith_builtin rfl (PySem.evalArgs_none (hm pins s1 σ H1 x [] v [] Q I1 r1 .nil q1))⟩
theorem pe_bm (pa:PlainAttrs T) (slot:Slot T name id) (hty:typeOf (.builtin id)=pure (.type "method_descriptor")) (hm:MtR X id r) (ho:PE X o to) (ha:PA X (e::es) t)
  (hbase:attributeBase o name X.env (eval o X.env)=eval o X.env:=by rfl)
  (hfew:((backTo cpos (starEach (e::es) X.env)).all (fun x=>!x.1)&&(backToKw cpos (keywordEach [] X.env)).all (fun x=>x.1.isSome)
   && decide ((e::es).length+([]:List Keyword).length+(if ([]:List Keyword).isEmpty then 0 else 1)<30))=true:=by rfl)
  (hline:(apos.endLine==cpos.line)=true:=by rfl) (hs:starEach (e::es) X.env=(false,eval e X.env)::starEach es X.env:=by rfl) (hplain:(backTo cpos (starEach es X.env)).any (·.1)=false:=by rfl) :
  PE X (.Call (.Attribute o name apos) (e::es) [] cpos) (tBM X.K T r to t):=by
 intro pins s σ H Q I h
 refine wpAny_Call_method_late hbase hfew hline rfl (thn (ho pins s σ H _ I h) fun v s1 ⟨x,H1,I1,r1,ty,q1⟩=>?_)
 obtain ⟨h1,h2⟩:=tyV_is I1 r1 ty
 refine ⟨T,id,pa,slot,hty,h1,h2,?_⟩
 have hA:=ha cpos pins s1 σ H1 _ I1 q1
 rw [hs] at hA ⊢
 refine Calls.callWith_builtin (by show (false||(backTo cpos (starEach es X.env)).any (·.1))=false;rw [hplain]<;>rfl) (Calls.evalArgs_plain ?_)
 exact thn hA fun us s2 ⟨vs,H2,I2,r2,q2⟩=>hm pins s2 σ H2 x vs v us Q I2 r1 r2 q2
end
def MtM (X:Cx) (id:String) (r:V->List V->Hp->VK->Prop):Prop:=
 ∀(pins:List (Addr×Obj)) (s:Shared) (σ:St) (H:Hp) (x:V) (xs:List V) (v:Value) (us:List Value) (Q:VK),Inv X pins σ H s->RelV x v->Vals xs us->r x xs H Q ->
  wpAny (model X.prog X.w) X.A (call (.builtin id) (v::us)) (EP X pins σ Q) X.xe s
theorem Vals.one:∀{x:V} {us:List Value},Vals [x] us->∃u,us=[u]/\RelV x u
 | _,_,.cons r .nil=>⟨_,rfl,r⟩
theorem Vals.zero:∀{us:List Value},Vals [] us->us=[]
 | _,.nil=>rfl
theorem Vals.dropLast {xs:List V} {us:List Value} (h:Vals xs us):Vals xs.dropLast us.dropLast:=by
 induction h with
 | nil=>exact .nil
 | cons r t ih=>
  cases t with
  | nil=>exact .nil
  | cons q t'=>exact .cons r ih
theorem Vals.eraseIdx:∀{xs:List V} {us:List Value} (i:Nat),Vals xs us->Vals (xs.eraseIdx i) (us.eraseIdx i)
 | _,_,_,.nil=>.nil
 | _,_,0,.cons _ t=>t
 | _,_,i+1,.cons r t=>.cons r (Vals.eraseIdx i t)
theorem erase_last (l:List α):l.eraseIdx (l.length-1)=l.dropLast:=by
 induction l with
 | nil=>rfl
 | cons a r ih=>
  cases r with
  | nil=>rfl
  | cons b r=>
   have e:(a::b::r).length-1=((b::r).length-1)+1:=by
    have h1:(a::b::r).length=r.length+2:=rfl
    have h2:(b::r).length=r.length+1:=rfl
    omega
   rw [e,List.eraseIdx_cons_succ,ih]
   all_goals rfl
theorem len_erase {α:Type}:∀(l:List α) (i:Nat),(l.eraseIdx i).length<=l.length
 | [],_=>Nat.le_refl _
 | _::_,0=>Nat.le_succ _
 | _::r,i+1=>Nat.succ_le_succ (len_erase r i)
section
variable {X:Cx} {pins:List (Addr×Obj)} {σ:St} {H:Hp} {s:Shared} {l b:Addr} {xs ys zs:List V}
theorem Inv.lset {f:Array Value->Array Value} {t':Nat} (I:Inv X pins σ H s) (hH:H l=some (.lst xs))
  (e:s.heap.get? l=some { cls:=.type "list",data:=.seq its.toArray n }) (hf:f its.toArray=its'.toArray) (hv:Vals ys its') (hz:ys.length<=sizeLine) :
  Inv X pins σ (upd H l (.lst ys)) { s with heap:=s.heap.update l (Obj.mapSeq f),toks:=t' }:=by
 have q:=PySem.IsL.update e f
 rw [hf] at q
 refine I.write (x:=l) (e:=l) (by rw [hH];exact trivial) (.inl rfl) (fun b' u hb hu=>(Heap.get?_update_other s.heap (Obj.mapSeq f) (Ne.symm hb)).trans hu) ⟨_,q⟩ ?_
 exact ⟨hz,its',_,hv,q⟩
theorem Inv.lstM (I:Inv X pins σ H s) (hH:H l=some (.lst xs)):xs.length<=sizeLine/\∃(its:List Value) (n:Nat),Vals xs its/\xs.length=its.length/\s.heap.get? l=some { cls:=.type "list",data:=.seq its.toArray n }:=by
 obtain ⟨z,its,n,r,e⟩:=I.hok l _ hH
 exact ⟨z,its,n,r,r.length,e⟩
end
section
variable {X:Cx}
def zDP:V->List V->Hp->VK->Prop:=fun x vs H Q=>∃l xs y,x=.ref l/\vs=[y]/\H l=some (.lst xs)/\xs.length<sizeLine/\Q .non (upd H l (.lst (xs++[y])))
theorem zCR:MtM X "list.append" zDP:=by
 intro pins s σ H x vs v us Q I rx rv h
 obtain ⟨l,xs,y,rfl,rfl,hH,hz,q⟩:=h
 cases rx
 obtain ⟨u,rfl,ru⟩:=rv.one
 obtain ⟨z,its,n,r,hl,e⟩:=I.lstM hH
 refine call_meets F.slot_list_append ⟨_,e,rfl⟩ F.entry_list_append (F.args_list_append_2 _ _) (PySem.list_append l its.toArray n u (by rw [size_toArray];omega)) ⟨e,?_⟩
 refine ⟨.non,_,I.lset (its':=its++[u]) hH e (by simp) (r.append (.cons ru .nil)) ?_,rfl,q⟩
 rw [length_append,length_singleton]
 omega
def rPop:V->List V->Hp->VK->Prop:=fun x vs H Q=>∃l xs y,x=.ref l/\vs=[]/\H l=some (.lst xs)/\xs[xs.length-1]?=some y/\Q y (upd H l (.lst xs.dropLast))
theorem mt_pop:MtM X "list.pop" rPop:=by
 intro pins s σ H x vs v us Q I rx rv h
 obtain ⟨l,xs,y,rfl,rfl,hH,hy,q⟩:=h
 cases rx
 have hus:=rv.zero
 subst hus
 obtain ⟨z,its,n,r,hl,e⟩:=I.lstM hH
 obtain ⟨u,hu,ru⟩:=r.get hy
 have hy':its.toArray[its.toArray.size-1]?=some u:=by
  show its.toArray[its.length-1]?=some u
  rw [<-Array.getElem?_toList,<-hl]
  exact hu
 refine call_meets F.slot_list_pop ⟨_,e,rfl⟩ F.entry_list_pop (F.args_list_pop_1 _) (MeetsSeq.list_pop_last l its.toArray n u hy' (by rw [size_toArray];omega)) ⟨e,?_⟩
 refine ⟨y,_,I.lset (its':=its.dropLast) hH e ?_ r.dropLast ?_,ru,q⟩
 ·show its.toArray.eraseIdxIfInBounds (its.toArray.size-1)=its.dropLast.toArray
  rw [size_toArray,List.eraseIdxIfInBounds_toArray,erase_last]
 ·rw [length_dropLast]
  omega
def zFL:V->List V->Hp->VK->Prop:=fun x vs H Q=>∃l xs i k y,x=.ref l/\vs=[.int i]/\H l=some (.lst xs)/\-(2 ^ 63)<=i/\i<2 ^ 63/\seqIndex? i xs.length=some k/\xs[k]?=some y/\Q y (upd H l (.lst (xs.eraseIdx k)))
theorem mt_popAt:MtM X "list.pop" zFL:=by
 intro pins s σ H x vs v us Q I rx rv h
 obtain ⟨l,xs,i,k,y,rfl,rfl,hH,h1,h2,hk,hy,q⟩:=h
 cases rx
 obtain ⟨u,rfl,ru⟩:=rv.one
 obtain ⟨t,rfl⟩:=ru
 obtain ⟨z,its,n,r,hl,e⟩:=I.lstM hH
 obtain ⟨w,hw,rw'⟩:=r.get hy
 refine call_meets F.slot_list_pop ⟨_,e,rfl⟩ F.entry_list_pop (F.args_list_pop_2 _ _)
  (MeetsSeq.list_pop_at l its.toArray n i t k w (fitsIndex_both h1 h2) (by rw [size_toArray,<-hl];exact hk) (by rw [<-Array.getElem?_toList];exact hw) (by rw [size_toArray];omega)) ⟨e,?_⟩
 refine ⟨y,_,I.lset (its':=its.eraseIdx k) hH e ?_ (r.eraseIdx k) ?_,rw',q⟩
 ·show its.toArray.eraseIdxIfInBounds k=(its.eraseIdx k).toArray
  rw [List.eraseIdxIfInBounds_toArray]
 ·have:=len_erase xs k
  omega
end
section
variable {prog:Program} {w:World} {A:Around} {E:Value->Shared->Prop} {s:Shared}
set_option maxRecDepth 100000 in
end
end L2
namespace Att
open PySem PySem.W PySem.Calls PyProof.Rows
variable {l:OpenLaw} {n:Nat}
theorem ints_of_wellAll {P:Params} {h:Heap}:∀(ns:List Int) (vs:List Value),WellAll P h vs (ns.map WData.int)->IntsAre vs ns:=by
 intro ns
 induction ns with
 | nil=>
  intro vs w
  rw [List.map_nil] at w
  cases w
  exact .nil
 | cons n ns ih=>
  intro vs w
  rw [map_cons] at w
  cases w with
  | cons a b=>
   cases a
   exact .cons _ _ (ih _ b)
theorem script_of (hn:l.most=some n) {P:Params} {h:Heap} {args:List WData} {vals:List Value}
  (hpre:l.row.toRowW.claim.pre args=true) (hwl:WellAll P h vals args) :
  ∃a vs ns,vals=[Value.ref a]/\args=[WData.list (ns.map WData.int)]/\h.get? a=some { cls:=.type "list",data:=.seq vs.toArray }/\IntsAre vs ns/\ns.length<=n:=by
 have hsh:WShape.hasAll [] args [.list .int]=true:=(pre_splitW hpre).1
 have hc:l.pre.holds [] { args:=args }=true:=(pre_splitW hpre).2
 obtain ⟨d,r,rfl,h1,h2⟩:=hasAllW_cons hsh
 obtain rfl:=hasAllW_nil h2
 obtain ⟨xs,rfl,h3⟩:=hasW_list h1
 obtain ⟨ns,rfl⟩:=items_int h3
 have hlen:ns.length<=n:=by
  unfold OpenLaw.pre at hc
  have h4:(WTm.not (.lt (.lit (.int (n:Int))) (.len (.arg 0)))).holds [] { args:=[.list (ns.map .int)] }=true:=by
   have h4:=(holds_andW hc).1
   rw [hn] at h4
   exact h4
  have h5:=condW_of h4 (w_not (w_lt w_lit (w_len_list (w_arg rfl))))
  rw [length_map] at h5
  refine Nat.le_of_not_lt fun q=>?_
  have q':(n:Int)<((ns.length:Nat):Int):=by omega
  first
   | (rw [decide_eq_true q'] at h5;exact absurd h5 (by decide))
   | (simp at h5;omega)
 cases hwl with
 | cons w1 w2=>
  cases w2
  cases w1 with
  | list ho hall=>exact ⟨_,_,ns,rfl,rfl,ho,ints_of_wellAll ns _ hall,hlen⟩
theorem post_true (l:OpenLaw) (args:List WData):l.row.toRowW.claim.post args (.bool true) args=true:=
 postW_of (r:=l.row.toRowW) (X:=(true==true))
  (show WShape.has [] (.bool true) .bool=true by first | rfl | decide | simp [WShape.has,WShape.arms,WShape.armsAll])
  (show (WTm.eq .res (.lit (.bool true))).value [] { args:=args,res:=some (.bool true),after:=args }=some (.bool (true==true)) from w_eq_bool (w_res rfl) w_lit) rfl
theorem attach_call {q:Program} {loose:List Str} {XP:(Str->Option Value)->Heap->Prop} {YP:World->Heap->Prop} {d:DefRec}
  (hn:l.most=some n) (hdf:d.params.defaults=[])
  (call:∀(w:World) (s₀ s₁:Shared) (mg mb:Str->Option Value) (fa:Addr) (o:Obj) (pm cd doc:Value) (a:Addr) (vs:List Value) (ns:List Int),
   Ground q loose [] XP w s₀ mg mb s₁.heap->YP w s₁.heap ->
   s₁.heap.get? fa=some o->o.data=.func (docDef d.name d.params d.body d.scope pm cd doc)->s₁.heap.CodeRec cd d.name->mg d.name=some (.ref fa) ->
   s₁.heap.get? a=some { cls:=.type "list",data:=.seq vs.toArray }->IntsAre vs ns->ns.length<=n->s₁.gens=#[] ->
   codeAny (model l.prog w) callerA (.call (.ref fa) ⟨[.ref a],[]⟩) (fun r s'=>r=.ok (.ret (.bool true))/\OldK s₁.heap s'.heap/\s'.os=s₁.os/\AllBare s'.gens) s₁) :
  WalkO q loose XP YP l.row.toRowW d [] (fun f vs=>PySem.call f vs):=by
 intro w s₀ s₁ mg mb G Y fa o pm cd doc dV kV ho hd hcd hD hmg hg args vals as hpre hlay hrd hwl hlo
 obtain rfl:dV=.none:=Dflts.none hD hdf
 obtain rfl:kV=.none:=Dflts.noKw hD
 obtain ⟨a,vs,ns,rfl,rfl,hobj,hints,hlen⟩:=script_of hn hpre hwl
 refine enter_call (codeAny_mono (call w s₀ s₁ mg mb fa o pm cd doc a vs ns G Y ho (fd_plain hd) hcd hmg hobj hints hlen hg) fun r s' hq=>?_)
 obtain ⟨rfl,h2,h3,h4⟩:=hq
 exact ⟨.inl ⟨.bool true,.bool true,[],rfl,fun _=>rfl,.bool true,post_true l _,fun _=>⟨List.Pairwise.nil,fun _ hm=>(nomatch hm)⟩⟩,h2,h3,h4⟩
end Att
namespace L2
open PySem PySem.Spec PyProof.Rows
variable {a:Addr} {fd:FuncData} {x qual:Str} {X:Cx} {ps:List Str} {A B:Prop} {H':Hp} {scope:Scope} {env:Env} {σ:St}
theorem vals_ints:∀{vs:List Value} {ns:List Int},IntsAre vs ns->Vals (ns.map V.int) vs
 | _,_,.nil=>.nil
 | _,_,.cons n t h=>.cons ⟨t,rfl⟩ (vals_ints h)
def Only (H:Hp):Prop:=∀b,H b=none\/∃o xs,H b=some (.frz o (.lst xs))
theorem law_call {P:Program} {w:World} {K:Fg} {mg mb:Str->Option Value} {CX:CXT} {k:Nat} {fa:Addr} {sp:Sp} {s₁:Shared} {vs:List Value} {ns:List Int}
  (KX:K.In s₁.heap) (hns:s₁.heap.Ns mainGlobals mg) (hb:s₁.heap.Ns builtinsNs mb) (hbb:∀x:Str,x ≠ "__name__"->mb x=bootBuiltins x) (hlim:s₁.heap.NoLimit) (hg:s₁.gens=#[])
  (ha:s₁.heap.get? a=some { cls:=.type "list",data:=.seq vs.toArray }) (hi:IntsAre vs ns) (hl:ns.length<=sizeLine) (hr:Room k callerA)
  (F:∀base:Heap,K.In base->base.Ns mainGlobals mg->FnOk P w K mg base CX k fa fd [x] sp) (hbind:∀(s:Shared) (u:Value),BindsTo s fd ⟨[u],[]⟩ [(x,u)])
  (hsp:∀H:Hp,Only H->SqL K H a (ns.map V.int)->sp [.ref a] H (fun v _=>v=.bl true) fun _ _ _=>False)
  (hCX:∀H e s',CX [] H s₁ (fun _ _ _=>False) e s'->False) :
  codeAny (model P w) callerA (.call (.ref fa) ⟨[.ref a],[]⟩) (fun r s'=>r=.ok (.ret (.bool true))/\OldK s₁.heap s'.heap/\s'.os=s₁.os/\AllBare s'.gens) s₁:=by
 have rv:=vals_ints hi
 have lenV:=hi.length
 have core:∀H:Hp,Only H->SqL K H a (ns.map V.int)->HOk P w H s₁.heap->(∀b,H b≠none->b=a)->(H a≠none->K.lookup a=none) ->
   codeAny (model P w) callerA (.call (.ref fa) ⟨[.ref a],[]⟩) (fun r s'=>r=.ok (.ret (.bool true))/\OldK s₁.heap s'.heap/\s'.os=s₁.os/\AllBare s'.gens) s₁:=by
  intro H hO hS hok hA hK
  have base_of:∀{b:Addr} {o:Obj},s₁.heap.get? b=some o->H b=none->(hidT s₁.heap H).get? b=some o:=fun e n=>hidT_get e n
  have noA:∀{b:Addr} {o:Obj} {es:Array DictEntry} {ep:Nat},s₁.heap.get? b=some o->o.data=.dict es ep->H b=none:=fun {b o es ep} e d=>by
   cases q:H b with
   | none=>rfl
   | some u=>
    have e':b=a:=hA b (by rw [q];simp)
    subst e'
    rw [ha] at e;cases e
    have d':Data.seq vs.toArray _=Data.dict es ep:=d
    cases d'
  have nsK:∀{b:Addr} {m:Str->Option Value},s₁.heap.Ns b m->(hidT s₁.heap H).Ns b m:=fun {b m} ⟨o,es,ep,e,d,r⟩=>⟨o,es,ep,base_of e (noA e d),d,r⟩
  have hKb:K.In (hidT s₁.heap H):=fun b o e=>base_of (KX b o e) (by
   cases q:H b with
   | none=>rfl
   | some u=>
    have e':b=a:=hA b (by rw [q];simp)
    subst e'
    rw [hK (by rw [q];simp)] at e;cases e)
  have hM:Mod K mg (hidT s₁.heap H):=⟨hKb,nsK hns,⟨mb,nsK hb,hbb⟩,let ⟨mc,h1,h2⟩:=hlim;⟨mc,nsK h1,h2⟩⟩
  have e0:Env0 P w K mg (hidT s₁.heap H) callerA [] s₁ H:=⟨rfl,hM,fun b o e=>of_hidT e,Nat.le_of_eq (hidT_size _ _),trivial,fun b hb=>absurd (show b∈([]:List Addr) from hb) (by simp),hok,.of_eq hg⟩
  refine codeAny_mono ((F _ hKb (nsK hns)).run callerA [] s₁ H ⟨[.ref a],[]⟩ [.ref a] [.ref a] _ _ hr e0 (hbind s₁ (.ref a)) (.cons rfl .nil) (hsp H hO hS)) fun r s' h=>?_
  cases r with
  | error e=>exact (hCX H e s' h).elim
  | ok fl=>
   cases fl with
   | next=>exact False.elim h
   | brk=>exact False.elim h
   | cont=>exact False.elim h
   | ret u=>
    obtain ⟨v,H',os,bare,un,hok',r',q⟩:=h
    have q':v=.bl true:=q
    subst q'
    obtain rfl:u=Value.bool true:=r'
    refine ⟨rfl,OldK.of_keep fun b o e=>?_,os,bare⟩
    cases q:H b with
    | none=>exact un.keep b o e q (by intro z;exact absurd (show b∈([]:List Addr) from z) (by simp)) (by simp)
    | some u=>
     rcases hO b with z | ⟨ob,xs,z⟩
     ·rw [q] at z;cases z
     ·have z2:=un.frzs b ob _ z
      obtain ⟨e1,_⟩:=hok b _ z
      obtain ⟨e2,_⟩:=hok' b _ z2
      rw [e] at e1;cases e1
      exact e2
 cases hk:K.lookup a with
 | some o=>
  have e:=KX a o hk
  rw [ha] at e
  cases e
  refine core (fun _=>none) (fun _=>.inl rfl) (.inr ⟨_,vs.toArray,_,hk,rfl,rfl,rfl,by rw [size_toArray,lenV];exact hl,by simpa using rv⟩) (fun b u z=>by have z':(none:Option HO)=some u:=z;cases z') (fun b z=>absurd rfl z) fun z=>absurd rfl z
 | none=>
  refine core (fun b=>if b=a then some (.frz { cls:=.type "list",data:=.seq vs.toArray } (.lst (ns.map V.int))) else none) (fun b=>?_) (.inl (.inr ⟨{ cls:=.type "list",data:=.seq vs.toArray },if_pos rfl⟩)) (fun b u z=>?_) (fun b z=>?_) fun _=>hk
  ·by_cases hb:b=a
   ·exact .inr ⟨_,_,if_pos hb⟩
   ·exact .inl (if_neg hb)
  ·by_cases hb:b=a
   ·have z':=(if_pos hb).symm.trans z
    cases z'
    subst hb
    exact ⟨ha,by rw [length_map];exact hl,vs,_,rv,ha⟩
   ·have z':=(if_neg hb).symm.trans z
    cases z'
  ·by_cases hb:b=a
   ·exact hb
   ·exact absurd (if_neg hb) z
theorem walk_of {l:PySem.W.OpenLaw} {n k:Nat} {q:Program} {loose:List Str} {XP:(Str->Option Value)->Heap->Prop} {YP:World->Heap->Prop} {d:DefRec} {K:Params->Fg} {CX:World->CXT} {sp:World->Sp}
  (hn:l.most=some n) (hn2:n<=sizeLine) (hdf:d.params.defaults=[]) (hr:Room k callerA)
  (hY:∀(w:World) (h:Heap),YP w h->(K w.params).In h)
  (F:∀(w:World) (mg:Str->Option Value) (fa:Addr) (h:Heap),(K w.params).In h->h.Ns mainGlobals mg->mg d.name=some (.ref fa) ->
   ∃fd:FuncData,(∀(s:Shared) (u:Value),BindsTo s fd ⟨[u],[]⟩ [(x,u)]) /\
    ∀base:Heap,(K w.params).In base->base.Ns mainGlobals mg->FnOk l.prog w (K w.params) mg base (CX w) k fa fd [x] (sp w))
  (hsp:∀(w:World) (H:Hp) (a:Addr) (ns:List Int),ns.length<=n->Only H->SqL (K w.params) H a (ns.map V.int)->sp w [.ref a] H (fun v _=>v=.bl true) fun _ _ _=>False)
  (hCX:∀(w:World) (H:Hp) (s:Shared) (e:Value) (s':Shared),CX w [] H s (fun _ _ _=>False) e s'->False) :
  PySem.W.WalkO q loose XP YP l.row.toRowW d [] (fun f vs=>PySem.call f vs):=by
 refine Att.attach_call hn hdf fun w s₀ s₁ mg mb fa o pm cd doc a vs ns G Y ho hd hcd hmg hobj hints hlen hg=>?_
 have KX:=hY w _ Y
 obtain ⟨fd,hb,hF⟩:=F w mg fa _ KX G.T.g hmg
 exact law_call KX G.T.g G.T.b G.T.builtins G.T.nolimit hg hobj hints (Nat.le_trans hlen hn2) hr hF hb (fun H hO hS=>hsp w H a ns hlen hO hS) fun H e s'=>hCX w H s₁ e s'
def zDU (s:Stmt):Arguments:=match s with
 | .FunctionDef _ a _ _ _ _ _ _ _ _=>a
 | _=>{ posonlyargs:=[],args:=[],vararg:=none,kwonlyargs:=[],kw_defaults:=[],kwarg:=none,defaults:=[] }
def zA2 (s:Stmt):List Stmt:=match s with
 | .FunctionDef _ _ b _ _ _ _ _ _ _=>b
 | _=>[]
def zAH (s:Stmt):Scope:=match s with
 | .FunctionDef _ _ _ _ _ _ sc _ _ _=>sc
 | _=>{ kind:=.function,names:=[],isGenerator:=false,isCoroutine:=false }
abbrev CX0:CXT:=fun _ _ _ _ _ _=>False
abbrev E0:XK:=fun _ _ _=>False
theorem pass0:zG2 CX0 X E0:=fun _ _ _ _ _ _ _ h=>h.elim
structure Fun (K:Fg) (x qual:Str) (st:Stmt) (f:Addr) (fd:FuncData):Prop where
 ex:∃(oc:Value) (od:Option Addr) (kV doc pm:Value) (an:Option Addr) (cdv ct:Value) (osl:Array (Option Value)),
  fd=PySem.W.fnOf x qual (zDU st) (zA2 st) (zAH st) .none kV doc pm an cdv ct/\K.lookup f=some ⟨oc,od,.func fd,osl⟩/\PySem.W.codeIn K cdv qual=true
 kp:PySem.W.keepIn K (.ref f)=true
section
variable {P:Program} {w:World} {K:Fg} {mg:Str->Option Value} {base:Heap}
theorem Fun.ok {st:Stmt} {f:Addr} {N:List Str} {k:Nat} {sp:Sp} (F:Fun K x qual st f fd) (S:FnScope N ps (zAH st)) (len:∀vs H Q E,sp vs H Q E->vs.length=ps.length)
  (hbody:∀(cdv:Value) (A:Around) (outer:List Env) (s:Shared) (H:Hp) (vs:List V) (Q:VK) (E:XK),Room k (A.deeper (envOfC qual (zAH st) s.heap.objs.size f cdv))->sp vs H Q E ->
   ∃t,PSs (cxOf CX0 P w K mg base N qual (zAH st) f cdv A outer s H E).nox (zA2 st) t/\t { nx:=fun _ H'=>Q .non H',rt:=Q } (start N vs) H):FnOk P w K mg base CX0 (k+1) f fd ps sp:=by
 obtain ⟨oc,od,kV,doc,pm,an,cdv,ct,osl,rfl,lk,hcd⟩:=F.ex
 refine fn_of lk hcd S len fun A outer s H vs Q E hr hsp=>?_
 obtain ⟨t,h,q⟩:=hbody cdv A outer s H vs Q E hr hsp
 exact ⟨t,h.nox,q⟩
theorem Fun.binds {st:Stmt} {f:Addr} (F:Fun K x qual st f fd)
  (h:∀(kV doc pm:Value) (an:Option Addr) (cdv ct:Value) (us:List Value),us.length=ps.length->bindArgs (PySem.W.fnOf x qual (zDU st) (zA2 st) (zAH st) .none kV doc pm an cdv ct) ⟨us,[]⟩=pure (ps.zip us)):Binds K fd ps []:=by
 obtain ⟨oc,od,kV,doc,pm,an,cdv,ct,osl,rfl,lk,hcd⟩:=F.ex
 exact .all (h kV doc pm an cdv ct)
theorem fun_mk {st:Stmt} {f:Addr} {oc:Value} {od an:Option Addr} {osl:Array (Option Value)} {kV doc pm cdv ct:Value} (l:K.lookup f=some ⟨oc,od,.func (PySem.W.fnOf x qual (zDU st) (zA2 st) (zAH st) .none kV doc pm an cdv ct),osl⟩)
  (c:PySem.W.codeIn K cdv qual=true) (k:PySem.W.keepIn K (.ref f)=true):Fun K x qual st f (PySem.W.fnOf x qual (zDU st) (zA2 st) (zAH st) .none kV doc pm an cdv ct):=⟨⟨oc,od,kV,doc,pm,an,cdv,ct,osl,rfl,l,c⟩,k⟩
end
theorem iteF (h:B):if false=true then A else B:=by
 rw [if_neg Bool.false_ne_true]
 exact h
theorem iteT (h:A):if true=true then A else B:=by
 rw [if_pos rfl]
 exact h
def Same (H H':Hp):Prop:=∀b o,H b=some o->H' b=some o
theorem Same.refl (H:Hp):Same H H:=fun _ _ h=>h
theorem Same.trans {H H1 H2:Hp} (a:Same H H1) (b:Same H1 H2):Same H H2:=fun c o h=>b c o (a c o h)
theorem Same.free {H:Hp} (e:Same H H') {l:Addr} (h:H' l=Option.none):H l=Option.none:=by
 cases q:H l with
 | none=>rfl
 | some o=>
  rw [e l o q] at h
  cases h
theorem Same.seq {K:Fg} {H:Hp} {xs:List V} (e:Same H H') (h:SqL K H a xs):SqL K H' a xs:=by
 rcases h with (h | ⟨o,h⟩) | h
 ·exact .inl (.inl (e _ _ h))
 ·exact .inl (.inr ⟨o,e _ _ h⟩)
 ·exact .inr h
section
variable {prog:Program} {w:World} {A:Around} {R:Result->Shared->Prop} {s:Shared}
abbrev NoX:Value->Shared->Prop:=fun _ _=>False
theorem compLoop_any {elt target iter:Expr} {ifs:List Expr} {pos:Pos} {it acc:Value} (I:Nat->Shared->Prop)
  (turn:∀n s,I n s->wpAny (model prog w) A (pyNext it) (fun r s₁=>match r with
   | none=>R (.ok .next) s₁
   | some v=>wpAny (model prog w) A (letOwnedTupleGo target it v) (fun _ s₁'=>wpAny (model prog w) A (assign target env v) (fun _ s₂=>
     wpAny (model prog w) A (forIn ifs true fun c r=>if r=true then do let ok <-isTrue c env (eval c env);pure (ForInStep.yield ok) else pure (ForInStep.yield r)) (fun ok s₃=>
      if ok=true then wpAny (model prog w) A (eval elt env) (fun x s₄=>
       wpAny (model prog w) A (call (.builtin "list.append") [acc,x]) (fun _ s₅=>∃m,m<n/\I m s₅) NoX s₄) NoX s₃
      else ∃m,m<n/\I m s₃) NoX s₂) NoX s₁') NoX s₁) NoX s)
  (n:Nat) (h:I n s) :
  codeAny (model prog w) A (.compLoop (.ListComp elt [⟨target,iter,ifs,0⟩] scope pos) 0 it acc env) R s:=by
 refine codeAny_loop rfl I (fun n s hI=>?_) n h
 show wpAny _ A ((compTurn (.ListComp elt [⟨target,iter,ifs,0⟩] scope pos) 0 it acc env).onRaise (fun x=>do noteFrame x env;theTreesLotGoes x)) _ _ s
 refine wpAny_noted ?_
 rw [compTurn_list]
 have F:∀{Z:Value->Shared->Prop},∀(e:Value) (s:Shared),NoX e s->Z e s:=fun _ _ x=>x.elim
 refine wpAny_bind (wpAny_standAt (wpAny_bind (wpAny_mono (turn n s hI) (fun r s₁ h₁=>?_) F)))
 cases r with
 | none=>exact wpAny_pure h₁
 | some v=>
  refine wpAny_bind (wpAny_mono h₁ (fun _ s₁' h₁'=>?_) F)
  refine wpAny_bind (wpAny_mono h₁' (fun _ s₂ h₂=>wpAny_bind (wpAny_mono h₂ (fun ok s₃ h₃=>?_) F)) F)
  cases ok with
  | false=>exact wpAny_pure ⟨rfl,h₃⟩
  | true=>
   exact wpAny_bind (wpAny_bind (wpAny_mono h₃ (fun x s₄ h₄=>wpAny_bind (wpAny_mono h₄ (fun _ s₅ h₅=>wpAny_pure (wpAny_pure ⟨rfl,h₅⟩)) F)) F))
end
def closL (env:Env):List (Str×NameKind)->List (Str×Addr)->List (Str×Addr)
 | [],acc=>acc
 | (n,k)::r,acc=>if k==.free then closL env r ((n,(env.cells.lookup n).getD 0)::acc) else closL env r acc
theorem zEN {env:Env}:∀(names:List (Str×NameKind)) (acc:List (Str×Addr)),(∀n,(n,NameKind.free)∈names->∃c,env.cells.lookup n=some c) ->
  (forIn names acc fun (x:Str×NameKind) (cs:List (Str×Addr))=>(match x with | (name,kind)=>if kind==.free then (do let a <-cellOf env name;pure (ForInStep.yield ((name,a)::cs))) else pure (ForInStep.yield cs):Sem (ForInStep (List (Str×Addr)))))=(pure (closL env names acc):Sem (List (Str×Addr)))
 | [],acc,_=>by rw [List.forIn_nil];rfl
 | (n,k)::r,acc,h=>by
  rw [List.forIn_cons]
  unfold closL
  by_cases hk:(k==.free)=true
  ·simp only [hk,if_true]
   have hk':k=.free:=by simpa using hk
   obtain ⟨c,hc⟩:=h n (by rw [hk'];exact mem_cons_self)
   have e:cellOf env n=pure c:=by unfold cellOf;rw [hc]
   rw [e,hc]
   exact zEN r ((n,c)::acc) fun n' hn=>h n' (mem_cons_of_mem _ hn)
  ·rw [if_neg hk]
   simp only [hk]
   exact zEN r acc fun n' hn=>h n' (mem_cons_of_mem _ hn)
theorem closureFor_L (h:∀n,(n,NameKind.free)∈scope.names->∃c,env.cells.lookup n=some c):closureFor scope env=pure (closL env scope.names []):=by
 have:=zEN (env:=env) scope.names [] h
 unfold closureFor
 rw [show (pure (closL env scope.names []):Sem (List (Str×Addr)))=(pure (closL env scope.names []) >>= fun x=>pure x) from rfl,<-this]
theorem zDV {env:Env} {x:Str} {c:Addr}:∀{names:List (Str×NameKind)} {acc:List (Str×Addr)},(∀n,(n,NameKind.free)∈names->∃c,env.cells.lookup n=some c)->(closL env names acc).lookup x=some c->env.cells.lookup x=some c\/acc.lookup x=some c
 | [],_,_,e=>.inr e
 | (n,k)::r,acc,h,e=>by
  unfold closL at e
  have h':∀n',(n',NameKind.free)∈r->∃c,env.cells.lookup n'=some c:=fun n' hn=>h n' (mem_cons_of_mem _ hn)
  by_cases hk:(k==.free)=true
  ·rw [if_pos hk] at e
   rcases zDV h' e with q | q
   ·exact .inl q
   ·rw [lookup_cons] at q
    have hk':k=.free:=by simpa using hk
    obtain ⟨c',hc⟩:=h n (by rw [hk'];exact mem_cons_self)
    cases hx:x==n with
    | true=>
     rw [hx,hc] at q
     cases q
     rw [eq_of_beq hx]
     exact .inl hc
    | false=>
     rw [hx] at q
     exact .inr q
  ·rw [if_neg hk] at e
   exact zDV h' e
theorem zBW {env:Env} {x:Str}:∀{names:List (Str×NameKind)} {acc:List (Str×Addr)},(x,NameKind.free)∈names\/(acc.lookup x).isSome=true->((closL env names acc).lookup x).isSome=true
 | [],_,h=>h.elim nofun id
 | (n,k)::r,acc,h=>by
  unfold closL
  by_cases hk:(k==.free)=true
  ·rw [if_pos hk]
   refine zBW (names:=r) ?_
   rcases h with h | h
   ·rcases List.mem_cons.mp h with e | h
    ·cases e
     exact .inr (by rw [lookup_cons];simp)
    ·exact .inl h
   ·right
    rw [lookup_cons]
    cases hx:x==n with
    | true=>rfl
    | false=>exact h
  ·rw [if_neg hk]
   refine zBW (names:=r) ?_
   rcases h with h | h
   ·rcases List.mem_cons.mp h with e | h
    ·cases e
     exact absurd rfl hk
    ·exact .inl h
   ·exact .inr h
theorem zBG {x:Str} {c:Addr}:∀{names:List (Str×NameKind)} {n:Nat} {acc:List (Str×Addr)},(cellsFrom n names acc).lookup x=some c->((x,NameKind.cell)∈names/\n<=c)\/acc.lookup x=some c
 | [],_,_,e=>.inr e
 | (y,k)::r,n,acc,e=>by
  unfold cellsFrom at e
  by_cases hk:(k==.cell)=true
  ·rw [if_pos hk] at e
   have hk':k=.cell:=by simpa using hk
   rcases zBG e with ⟨q,l⟩ | q
   ·exact .inl ⟨mem_cons_of_mem _ q,by omega⟩
   ·rw [lookup_cons] at q
    cases hx:x==y with
    | true=>
     rw [hx] at q
     cases q
     exact .inl ⟨by rw [eq_of_beq hx,hk'];exact mem_cons_self,Nat.le_refl _⟩
    | false=>
     rw [hx] at q
     exact .inr q
  ·rw [if_neg hk] at e
   rcases zBG e with ⟨q,l⟩ | q
   ·exact .inl ⟨mem_cons_of_mem _ q,l⟩
   ·exact .inr q
theorem zCN {x y:Str} {c:Addr}:∀{names:List (Str×NameKind)} {n:Nat} {acc:List (Str×Addr)},(∀z d,acc.lookup z=some d->d<n)->(∀x y d,acc.lookup x=some d->acc.lookup y=some d->x=y) ->
  (cellsFrom n names acc).lookup x=some c->(cellsFrom n names acc).lookup y=some c->x=y
 | [],_,_,_,hi,e,e'=>hi _ _ _ e e'
 | (z,k)::r,n,acc,hl,hi,e,e'=>by
  unfold cellsFrom at e e'
  by_cases hk:(k==.cell)=true
  ·rw [if_pos hk] at e e'
   refine zCN (names:=r) (n:=n+1) (acc:=(z,n)::acc) (fun a d q=>?_) (fun a b d q q'=>?_) e e'
   ·rw [lookup_cons] at q
    cases hx:a==z with
    | true=>rw [hx] at q;cases q;exact Nat.lt_succ_self _
    | false=>rw [hx] at q;exact Nat.lt_succ_of_lt (hl a d q)
   ·rw [lookup_cons] at q q'
    cases hx:a==z with
    | true=>
     rw [hx] at q
     cases q
     cases hy:b==z with
     | true=>rw [eq_of_beq hx,eq_of_beq hy]
     | false=>rw [hy] at q';exact absurd (hl b n q') (Nat.lt_irrefl _)
    | false=>
     rw [hx] at q
     cases hy:b==z with
     | true=>rw [hy] at q';cases q';exact absurd (hl a n q) (Nat.lt_irrefl _)
     | false=>rw [hy] at q';exact hi a b d q q'
  ·rw [if_neg hk] at e e'
   exact zCN hl hi e e'
theorem zEM {env:Env} {x:Str} {c:Addr}:∀{names:List (Str×NameKind)} {acc:List (Str×Addr)},(closL env names acc).lookup x=some c->(x,NameKind.free)∈names\/acc.lookup x=some c
 | [],_,e=>.inr e
 | (n,k)::r,acc,e=>by
  unfold closL at e
  by_cases hk:(k==.free)=true
  ·rw [if_pos hk] at e
   have hk':k=.free:=by simpa using hk
   rcases zEM e with q | q
   ·exact .inl (mem_cons_of_mem _ q)
   ·rw [lookup_cons] at q
    cases hx:x==n with
    | true=>rw [eq_of_beq hx,hk'];exact .inl mem_cons_self
    | false=>rw [hx] at q;exact .inr q
  ·rw [if_neg hk] at e
   rcases zEM e with q | q
   ·exact .inl (mem_cons_of_mem _ q)
   ·exact .inr q
theorem zBT {x:Str}:∀{names:List (Str×NameKind)} {n:Nat} {acc:List (Str×Addr)},(x,NameKind.cell)∈names\/(acc.lookup x).isSome=true->((cellsFrom n names acc).lookup x).isSome=true
 | [],_,_,h=>h.elim nofun id
 | (y,k)::r,n,acc,h=>by
  unfold cellsFrom
  by_cases hk:(k==.cell)=true
  ·rw [if_pos hk]
   refine zBT (names:=r) ?_
   rcases h with h | h
   ·rcases List.mem_cons.mp h with e | h
    ·cases e
     exact .inr (by rw [lookup_cons];simp)
    ·exact .inl h
   ·right
    rw [lookup_cons]
    cases hx:x==y with
    | true=>rfl
    | false=>exact h
  ·rw [if_neg hk]
   refine zBT (names:=r) ?_
   rcases h with h | h
   ·rcases List.mem_cons.mp h with e | h
    ·cases e
     exact absurd rfl hk
    ·exact .inl h
   ·exact .inr h
theorem zBU {x:Str}:∀{names:List (Str×NameKind)} {n:Nat} {acc:List (Str×Addr)},(x,NameKind.cell)∉names->(cellsFrom n names acc).lookup x=acc.lookup x
 | [],_,_,_=>rfl
 | (y,k)::r,n,acc,h=>by
  unfold cellsFrom
  have hr:(x,NameKind.cell)∉r:=fun z=>h (mem_cons_of_mem _ z)
  by_cases hk:(k==.cell)=true
  ·rw [if_pos hk,zBU hr,lookup_cons]
   have hk':k=.cell:=by simpa using hk
   cases hx:x==y with
   | true=>exact absurd (by rw [eq_of_beq hx,hk'];exact mem_cons_self) h
   | false=>rfl
  ·rw [if_neg hk]
   exact zBU hr
theorem zBS {x:Str} {c:Addr}:∀{names:List (Str×NameKind)} {n:Nat} {acc:List (Str×Addr)},(x,NameKind.cell)∈names->(cellsFrom n names acc).lookup x=some c->(cellsFrom n names []).lookup x=some c
 | [],_,_,h,_=>nomatch h
 | (y,k)::r,n,acc,h,e=>by
  unfold cellsFrom at e ⊢
  by_cases hk:(k==.cell)=true
  ·rw [if_pos hk] at e ⊢
   by_cases hr:(x,NameKind.cell)∈r
   ·have:∀{acc acc':List (Str×Addr)},(cellsFrom (n+1) r acc).lookup x=some c->(cellsFrom (n+1) r acc').lookup x=some c:=fun {a a'} q=>by
     have q0:=zBS hr q
     have hs:=zBT (n:=n+1) (acc:=a') (.inl hr)
     obtain ⟨c',hc'⟩:=Option.isSome_iff_exists.mp hs
     have q1:=zBS hr hc'
     rw [q0] at q1
     cases q1
     exact hc'
    exact this e
   ·rw [zBU hr] at e ⊢
    rw [lookup_cons] at e ⊢
    cases hx:x==y with
    | true=>rw [hx] at e;exact e
    | false=>
     rcases List.mem_cons.mp h with z | z
     ·cases z
      simp at hx
     ·exact absurd z hr
  ·rw [if_neg hk] at e ⊢
   rcases List.mem_cons.mp h with z | z
   ·cases z
    exact absurd rfl hk
   ·exact zBS z e
def blk (X:Cx) (scope:Scope) (cells:List (Str×Addr)) (C:Addr) (s₀:Shared) (H₀:Hp) (ex:List Addr):Cx where
 prog:=X.prog
 w:=X.w
 K:=X.K
 mg:=X.mg
 base:=X.base
 A:=X.A
 N:=X.N
 s₀:=s₀
 H₀:=H₀
 env:={ scope:=relabel scope X.env,locals:=C,globals:=X.env.globals,cells:=cells,qual:=X.env.qual,func:=none,code:=X.env.code,frame:=X.env.frame,builtins:=X.env.builtins }
 outer:=X.stack
 stack:=X.stack
 ex:=ex
 fn:=fun x=>scope.names.any fun y=>y.1==x&&y.2==.cell
 calm:=X.calm
 pn:=[]
 xe:=fun _ _=>False
structure CompSc (N:List Str) (is:List Nat) (osc scope:Scope):Prop where
 kind:scope.kind=.function
 free:∀n,(n,NameKind.free)∈scope.names->osc.names.lookup n=some .cell\/osc.names.lookup n=some .free
 own:∀(i:Nat) (x:Str),N[i]?=some x->(x,NameKind.local)∈scope.names\/(x,NameKind.cell)∈scope.names->i∈is
 loc:∀x∈scope.names,x.2=.local->scope.names.lookup x.1=some .local
 one:∀n,(n,NameKind.free)∈scope.names->(n,NameKind.cell)∉scope.names
def blank (is:List Nat) (σ:St):St:=σ.mapIdx fun i v=>if i∈is then none else v
theorem zDN (is:List Nat) (σ:St):(blank is σ).length=σ.length:=by unfold blank;simp
theorem zEO {is:List Nat} {i:Nat} {v:V} (h:(blank is σ)[i]?=some (some v)):i∉is/\σ[i]?=some (some v):=by
 unfold blank at h
 rw [List.getElem?_mapIdx] at h
 cases e:σ[i]? with
 | none=>rw [e] at h;cases h
 | some o=>
  rw [e] at h
  simp only [Option.map_some,Option.some.injEq] at h
  by_cases hi:i∈is
  ·rw [if_pos hi] at h;cases h
  ·rw [if_neg hi] at h;exact ⟨hi,by rw [h]⟩
def LeS (σ0 σ2:St):Prop:=σ2.length=σ0.length/\∀(i:Nat) v,σ0[i]?=some (some v)->σ2[i]?=some (some v)
theorem lookup_mem {k:NameKind} {l:List (Str×NameKind)} (h:l.lookup x=some k):(x,k)∈l:=PySem.mem_of_lookup h
theorem zBH {k:NameKind} (h:(relabel scope env).names.lookup x=some k) :
  (x,k)∈scope.names\/((x,NameKind.free)∈scope.names/\k=.cell):=by
 have h:=lookup_mem h
 unfold relabel at h
 obtain ⟨⟨n,k'⟩,hm,e⟩:=List.mem_map.mp h
 dsimp only at e
 by_cases hc:(k'==NameKind.free&&env.scope.kind==.function&&env.kindOf n==some .cell)=true
 ·rw [if_pos hc] at e
  cases e
  have:k'=.free:=by
   simp only [Bool.and_eq_true,beq_iff_eq] at hc
   exact hc.1.1
  exact .inr ⟨this▸hm,rfl⟩
 ·rw [if_neg hc] at e
  cases e
  exact .inl hm
def zAW (X:Cx) (scope:Scope) (C:Addr):List (Str×Addr):=cellsFrom (C+1) scope.names (closL X.env scope.names [])
section
variable {X:Cx} {pins:List (Addr×Obj)} {σ:St} {H:Hp} {s:Shared} {scope:Scope} {is:List Nat}
theorem Inv.freeCells (I:Inv X pins σ H s) (S:CompSc X.N is X.env.scope scope):∀n,(n,NameKind.free)∈scope.names->∃c,X.env.cells.lookup n=some c:=fun n hn=>
 I.ok.has n (S.free n hn)
theorem Inv.blkOld (I:Inv X pins σ H s) (S:CompSc X.N is X.env.scope scope) {c:Addr} (h:(closL X.env scope.names []).lookup x=some c):X.env.cells.lookup x=some c:=by
 rcases zDV (I.freeCells S) h with q | q
 ·exact q
 ·cases q
theorem Inv.block {fp:List Addr} {t':Nat} (I:Inv X pins σ H s) (S:CompSc X.N is X.env.scope scope) (hf:∀b∈fp,FpOk X pins H b) (hfs:∀b∈fp,b<s.heap.objs.size) :
  Inv (blk X scope (zAW X scope (s.heap.objs.size+1)) (s.heap.objs.size+1) s H fp) [] (blank is σ) (upd H s.heap.objs.size (.lst []))
   { s with heap:=pushCells ((s.heap.push { cls:=.type "list",data:=.seq ([]:List Value).toArray }).push { cls:=.type "dict",data:=.dict #[] }) scope.names,toks:=t' }:=by
 generalize hC:s.heap.objs.size+1=C
 have hDn:H s.heap.objs.size=none:=I.hok.fresh (Nat.le_refl _)
 have s1:(s.heap.push { cls:=.type "list",data:=.seq ([]:List Value).toArray }).objs.size=C:=by rw [Heap.size_push,hC]
 have kept:∀b o,s.heap.get? b=some o->(pushCells ((s.heap.push { cls:=.type "list",data:=.seq ([]:List Value).toArray }).push { cls:=.type "dict",data:=.dict #[] }) scope.names).get? b=some o:=
  fun b o e=>pushCells_keeps _ _ b o (Heap.get?_push_of_some _ (Heap.get?_push_of_some _ e))
 have cellsL:∀x c,(zAW X scope C).lookup x=some c->((x,NameKind.cell)∈scope.names/\C+1<=c)\/X.env.cells.lookup x=some c:=fun x c e=>by
  rcases zBG e with q | q
  ·exact .inl q
  ·exact .inr (I.blkOld S q)
 have oldLt:∀x c,X.env.cells.lookup x=some c->c<s.heap.objs.size:=fun x c e=>by
  obtain ⟨v,q⟩:=I.cell x c e
  exact q.lt
 have cok:CellsOk (pushCells ((s.heap.push { cls:=.type "list",data:=.seq ([]:List Value).toArray }).push { cls:=.type "dict",data:=.dict #[] }) scope.names) (C+1)
   (cellsFrom (C+1) scope.names []):=by
  have:=cellsFrom_ok scope.names ((s.heap.push { cls:=.type "list",data:=.seq ([]:List Value).toArray }).push { cls:=.type "dict",data:=.dict #[] }) (C+1) [] ⟨fun _ _ hm=>(nomatch hm),List.Pairwise.nil⟩ (by rw [Heap.size_push,s1];exact Nat.le_refl _)
  rw [Heap.size_push,s1] at this
  exact this
 have lt1:∀{b:Nat},b<s.heap.objs.size->b≠C:=fun {b} h e=>by subst e;rw [<-hC] at h;exact absurd (Nat.lt_of_succ_lt h) (Nat.lt_irrefl _)
 have hDle:s.heap.objs.size<=C:=by rw [<-hC];exact Nat.le_succ _
 have cellAt:∀x c,(zAW X scope C).lookup x=some c->(C<c/\(pushCells ((s.heap.push { cls:=.type "list",data:=.seq ([]:List Value).toArray }).push { cls:=.type "dict",data:=.dict #[] }) scope.names).IsCell c none)\/X.env.cells.lookup x=some c:=fun x c e=>by
  rcases cellsL x c e with ⟨q1,q2⟩ | q
  ·exact .inl ⟨q2,(cok.empty x c (PySem.mem_of_lookup (zBS q1 e))).1⟩
  ·exact .inr q
 refine ⟨⟨I.ok.mod,S.kind,I.ok.glob,I.ok.blt,hDle,?_,?_,?_,I.ok.hd,I.ok.frames,.inl rfl,?_,I.bs,Nat.le_trans I.ok.bsz I.sz,?_,?_,I.stack,I.stkFree⟩,rfl,I.bare,?_,?_,?_,?_,?_,fun p hp=>absurd (show p∈([]:List (Addr×Obj)) from hp) (by simp),?_,(zDN _ _).trans I.len⟩
 ·-- inj
  intro x y c hx hy
  refine zCN (fun z d q=>?_) (fun a b d q q'=>I.ok.inj a b d (I.blkOld S q) (I.blkOld S q')) hx hy
  exact Nat.lt_succ_of_lt (Nat.lt_of_lt_of_le (oldLt z d (I.blkOld S q)) hDle)
 ·-- has
  intro x hx
  have q:((zAW X scope C).lookup x).isSome=true:=by
   refine zBT ?_
   have hx:(relabel scope X.env).names.lookup x=some .cell\/(relabel scope X.env).names.lookup x=some .free:=hx
   rcases hx with hx | hx
   ·rcases zBH hx with z | ⟨z,_⟩
    ·exact .inl z
    ·exact .inr (zBW (.inl z))
   ·rcases zBH hx with z | ⟨z,_⟩
    ·exact .inr (zBW (.inl z))
    ·exact .inr (zBW (.inl z))
  exact Option.isSome_iff_exists.mp q
 ·-- cab
  intro x c hx e
  have hx:(scope.names.any fun y=>y.1==x&&y.2==NameKind.cell)=true:=hx
  obtain ⟨y,hy,hz⟩:=List.any_eq_true.mp hx
  simp only [Bool.and_eq_true,beq_iff_eq] at hz
  have hm:(x,NameKind.cell)∈scope.names:=by rw [<-hz.1,<-hz.2];exact hy
  rcases zBG e with ⟨_,q⟩ | q
  ·exact Nat.le_trans hDle (Nat.le_of_succ_le q)
  ·rcases zEM q with z | z
   ·exact absurd hm (S.one x z)
   ·cases z
 ·-- exf
  intro b hb
  obtain ⟨f0,f1,f2,f3,f4,f5⟩:=hf b hb
  refine ⟨lt1 (hfs b hb),fun x c e z=>?_⟩
  rcases cellsL x c e with ⟨_,q⟩ | q
  ·subst z
   exact absurd (Nat.lt_of_lt_of_le (hfs _ hb) hDle) (Nat.not_lt.mpr (Nat.le_of_succ_le q))
  ·exact f4 x c q z
 ·-- noex
  intro b o e hb
  obtain ⟨f0,f1,f2,f3,f4,f5⟩:=hf b hb
  rcases f3 with z | z
  ·exact I.ok.noex b o e z
  ·exact absurd (Nat.lt_of_lt_of_le (Heap.lt_size e) (Nat.le_trans I.ok.bsz z)) (Nat.lt_irrefl _)
 ·-- exfs
  intro b hb z
  obtain ⟨f0,f1,f2,f3,f4,f5⟩:=hf b hb
  rcases List.mem_cons.mp (I.stkSub b z) with e | e
  ·exact f1 e
  ·exact f2 e
 ·-- base
  exact Un.laid kept (Nat.le_refl _) hDn
 ·-- loc
  refine ⟨fun _=>none,?_,fun i x v e1 e2 e3=>?_⟩
  ·have:=(Heap.Ns.new (s.heap.push { cls:=.type "list",data:=.seq ([]:List Value).toArray }) (.type "dict")).keeps (pushCells_keeps scope.names _)
   rw [s1] at this
   exact this
  ·obtain ⟨hni,e2'⟩:=zEO e2
   obtain ⟨m,hn,hl⟩:=id I.loc
   have hfree:(x,NameKind.free)∈scope.names:=by
    have e3:(relabel scope X.env).names.lookup x=some .local\/(relabel scope X.env).names.lookup x=some .cell\/(relabel scope X.env).names.lookup x=some .free:=e3
    rcases e3 with z | z | z
    ·rcases zBH z with y | ⟨y,_⟩
     ·exact absurd (S.own i x e1 (.inl y)) hni
     ·exact y
    ·rcases zBH z with y | ⟨y,_⟩
     ·exact absurd (S.own i x e1 (.inr y)) hni
     ·exact y
    ·rcases zBH z with y | ⟨y,_⟩
     ·exact y
     ·exact y
   have hk:=S.free x hfree
   obtain ⟨u,r,l⟩:=hl i x v e1 e2' (.inr hk)
   refine ⟨u,r,?_⟩
   rcases l with ⟨k,_⟩ | ⟨k,c,e,z⟩
   ·have k:X.env.scope.names.lookup x=some .local:=k
    rcases hk with q | q<;>(rw [q] at k;cases k)
   ·refine .inr ⟨?_,c,?_,z.keeps kept⟩
    ·have e3:(relabel scope X.env).names.lookup x=some .local\/(relabel scope X.env).names.lookup x=some .cell\/(relabel scope X.env).names.lookup x=some .free:=e3
     rcases e3 with y | y | y
     ·rcases zBH y with y' | ⟨_,y'⟩
      ·exact absurd (S.own i x e1 (.inl y')) hni
      ·cases y'
     ·exact .inl y
     ·exact .inr y
    ·have q:=zBW (env:=X.env) (acc:=[]) (.inl hfree)
     obtain ⟨c',hc'⟩:=Option.isSome_iff_exists.mp q
     have:=I.blkOld S hc'
     rw [e] at this
     cases this
     show (zAW X scope C).lookup x=some c
     unfold zAW
     rw [zBU (S.one x hfree)]
     exact hc'
 ·-- cell
  intro x c e
  rcases cellAt x c e with ⟨_,q⟩ | q
  ·exact ⟨_,q⟩
  ·obtain ⟨v,z⟩:=I.cell x c q
   exact ⟨v,z.keeps kept⟩
 ·-- free
  show upd H s.heap.objs.size (.lst []) C=none
  rw [zAI (by rw [<-hC];exact Nat.ne_of_gt (Nat.lt_succ_self _))]
  exact I.hok.fresh hDle
 ·-- freeC
  intro x c e
  show upd H s.heap.objs.size (.lst []) c=none
  rcases cellAt x c e with ⟨q,_⟩ | q
  ·have hc:s.heap.objs.size<c:=Nat.lt_of_le_of_lt hDle q
   rw [zAI (Nat.ne_of_gt hc)]
   exact I.hok.fresh (Nat.le_of_lt hc)
  ·rw [zAI (Nat.ne_of_lt (oldLt x c q))]
   exact I.freeC x c q
 ·-- hok
  exact I.hok.laid kept (Nat.le_refl _) ⟨Nat.zero_le _,[],0,.nil,pushCells_keeps _ _ _ _ (Heap.get?_push_of_some _ (Heap.get?_push_size _ rfl))⟩
end
section
variable {M:Model} {A:Around} {E:Value->Shared->Prop} {s:Shared}
theorem newEnv_around {globals:Addr} {cl:List (Str×Addr)} {Q:Env->Shared->Prop}
  (hQ:Q (newEnv scope s.heap.objs.size globals (cellsFrom (s.heap.objs.size+1) scope.names cl) qual none .none (some env) builtinsNs) { s with heap:=pushCells (s.heap.push { cls:=.type "dict",data:=.dict #[] }) scope.names }) :
  wpAny M A (newFunctionEnv scope globals cl [] qual none .none (some env)) Q E s:=by
 simp only [newFunctionEnv,Option.isSome_some,if_true]
 refine wpAny_bind (wpAny_alloc ?_)
 refine wpAny_bind (wpAny_layCells _ (fun name kind cells=>by cases hkc:kind==NameKind.cell<;>simp [hkc]) _ _ _ _ ?_)
 rw [show ({ s with heap:=s.heap.push { cls:=.type "dict",data:=.dict #[] } }:Shared).heap.objs.size=s.heap.objs.size+1 from Heap.size_push ..]
 rw [List.forIn_nil]
 exact wpAny_bind (wpAny_pure (wpAny_pure hQ))
end
def PF (X:Cx) (ifs:List Expr) (t:TT):Prop:=
 ∀(pins:List (Addr×Obj)) (s:Shared) (σ:St) (H:Hp) (Q:Bool->Hp->Prop),Inv X pins σ H s->t σ H Q ->
  wpAny (model X.prog X.w) X.A (forIn ifs true fun c r=>if r=true then do let ok <-isTrue c X.env (eval c X.env);pure (ForInStep.yield ok) else pure (ForInStep.yield r)) (TP X pins σ Q) X.xe s
def tTrue:TT:=fun _ H Q=>Q true H
theorem zGU:PF X [] tTrue:=fun pins s σ H Q I h=>wpAny_tests_nil ⟨H,I,h⟩
theorem pf_one {c:Expr} {t:TT} (h:PT X c t):PF X [c] t:=fun pins s σ H Q I q=>wpAny_tests_one (h pins s σ H Q I q)
def tComp (is:List Nat) (wi:TI) (g:TG) (tc:TT) (te:TE):TE:=fun σ H Q=>wi σ H fun J H1=>∀D,H1 D=none->∃W:Nat->Nat->List V->Hp->Prop,(∃m,W 0 m [] (upd H1 D (.lst [])))/\∀k m ys H,W k m ys H ->
 H D=some (.lst ys)/\((J.stop k H/\Q (.ref D) H)\/(J.go k H/\ys.length<sizeLine/\∀x H',J.yld k H x H'->g x (blank is σ) H' fun σ2 H2=>LeS (blank is σ) σ2/\tc σ2 H2 fun b H3=>
  if b=true then te σ2 H3 fun v H4=>H4 D=some (.lst ys)/\∃m',m'<m/\W (k+1) m' (ys++[v]) (upd H4 D (.lst (ys++[v]))) else ∃m',m'<m/\W (k+1) m' ys H3))
section
variable {X:Cx} {scope:Scope} {is:List Nat} {tg iter elt:Expr} {ifs:List Expr} {wi:TI} {g:TG} {tc:TT} {te:TE} {pos:Pos}
theorem comp_core {pins:List (Addr×Obj)} {s:Shared} {H:Hp} {Q:VK} {RR:Value->Addr->Result->Shared->Prop} (S:CompSc X.N is X.env.scope scope) (hcalm:X.calm=true) (hi:PI X tg iter wi)
  (hg:∀cells C s₀ H₀ ex,PG (blk X scope cells C s₀ H₀ ex) tg g) (hc:∀cells C s₀ H₀ ex,PF (blk X scope cells C s₀ H₀ ex) ifs tc) (he:∀cells C s₀ H₀ ex,PE (blk X scope cells C s₀ H₀ ex) elt te)
  (I:Inv X pins σ H s) (h:tComp is wi g tc te σ H Q)
  (hRR:∀D C s' H' m,Inv X pins σ H' s'->s'.heap.Ns C m->Q (.ref D) H'->H' C=none->C≠X.env.locals->X.s₀.heap.objs.size<=C->(∀x c,X.env.cells.lookup x=some c->c≠C)->(∀p∈X.pn++pins,p.1≠C)->RR (.ref D) C (.ok .next) s') :
  wpAny (model X.prog X.w) X.A (eval iter X.env) (fun x s₁=>wpAny (model X.prog X.w) X.A (pyIter x) (fun it s₂=>wpAny (model X.prog X.w) X.A (newList []) (fun acc s₃=>
   wpAny (model X.prog X.w) X.A (newFunctionEnv scope X.env.globals (closL X.env scope.names []) [] X.env.qual none .none (some X.env)) (fun cenv s₄=>
    codeAny (model X.prog X.w) X.A (.compStart (.ListComp elt [⟨tg,iter,ifs,0⟩] scope pos) 0 it acc { cenv with scope:=relabel scope X.env }) (RR acc cenv.locals) s₄) X.xe s₃) X.xe s₂) X.xe s₁) X.xe s:=by
 refine thn (hi pins s σ H _ I h) fun v s1 h1=>thn h1 fun itv s2 h2=>?_
 obtain ⟨it,fp,tn,J,H2,e,I2,T,st2,f2,hW⟩:=h2
 subst e
 obtain ⟨W,⟨m0,w0⟩,turn⟩:=hW s2.heap.objs.size (I2.hok.fresh (Nat.le_refl _))
 refine wpAny_newObj_type (newEnv_around ?_)
 have s1:(s2.heap.push { cls:=.type "list",dict:=none,data:=.seq ([]:List Value).toArray }).objs.size=s2.heap.objs.size+1:=by rw [Heap.size_push]
 dsimp only
 rw [s1]
 have hfs:∀b∈fp,b<s2.heap.objs.size:=fun b hb=>by
  obtain ⟨o,e,_⟩:=T.obj 0 _ st2 b hb
  exact Heap.lt_size e
 have I4:=I2.block (t':=s2.toks) S f2 hfs
 generalize hCC:s2.heap.objs.size+1=C at I4 ⊢
 have hDC:s2.heap.objs.size<C:=by rw [<-hCC];exact Nat.lt_succ_self _
 have Hg:=hg (zAW X scope C) C s2 H2 fp
 have Hc:=hc (zAW X scope C) C s2 H2 fp
 have He:=he (zAW X scope C) C s2 H2 fp
 have Ha:=zCR (X:=blk X scope (zAW X scope C) C s2 H2 fp)
 have hYcell:∀x c,(blk X scope (zAW X scope C) C s2 H2 fp).env.cells.lookup x=some c->s2.heap.objs.size<=c\/X.env.cells.lookup x=some c:=fun x c e=>by
  have e:(cellsFrom (C+1) scope.names (closL X.env scope.names [])).lookup x=some c:=e
  rcases zBG e with ⟨_,q⟩ | q
  ·exact .inl (Nat.le_trans (Nat.le_of_lt hDC) (Nat.le_of_succ_le q))
  ·exact .inr (I2.blkOld S q)
 have FY:∀{H':Hp},(∀b∈fp,H' b=none)->∀b∈fp,FpOk (blk X scope (zAW X scope C) C s2 H2 fp) [] H' b:=fun {H'} hn b hb=>by
  obtain ⟨f0,f1,f3,f4,f5,f6⟩:=f2 b hb
  refine ⟨hn b hb,Nat.ne_of_lt (Nat.lt_trans (hfs b hb) hDC),fun z=>?_,.inl hb,fun x c e z=>?_,fun p hp=>absurd (show p∈([]:List (Addr×Obj)) from hp) (by simp)⟩
  ·rcases List.mem_cons.mp (I2.stkSub b z) with e | e
   ·exact f1 e
   ·exact f3 e
  ·rcases hYcell x c e with q | q
   ·rw [z] at q
    exact absurd (Nat.lt_of_lt_of_le (hfs b hb) q) (Nat.lt_irrefl _)
   ·exact f5 x c q z
 have hCx:∀x c,X.env.cells.lookup x=some c->c≠C:=fun x c e z=>by
  obtain ⟨v,q⟩:=I2.cell x c e
  have:=q.lt
  rw [z] at this
  exact absurd (Nat.lt_trans this hDC) (Nat.lt_irrefl _)
 have hCp:∀p∈X.pn++pins,p.1≠C:=fun p hp z=>by
  have:=Heap.lt_size (I2.pin p hp).1
  rw [z] at this
  exact absurd (Nat.lt_trans this hDC) (Nat.lt_irrefl _)
 have out:∀{σ':St} {H':Hp} {s':Shared},Inv (blk X scope (zAW X scope C) C s2 H2 fp) [] σ' H' s'->Inv X pins σ H' s':=fun {σ' H' s'} J=>
  I2.call' (ch:=fp) J.os J.base J.hok J.bare fun b hb=>by
   obtain ⟨f0,f1,f3,f4,f5,f6⟩:=f2 b hb
   exact ⟨f4,f1,f5,f6⟩
 have loop:∀s₃:Shared,s₃={ s2 with heap:=pushCells ((s2.heap.push { cls:=.type "list",data:=.seq ([]:List Value).toArray }).push { cls:=.type "dict",data:=.dict #[] }) scope.names } ->
   codeAny (model X.prog X.w) X.A (.compLoop (.ListComp elt [⟨tg,iter,ifs,0⟩] scope pos) 0 (.ref it) (.ref s2.heap.objs.size) (blk X scope (zAW X scope C) C s2 H2 fp).env) (RR (.ref s2.heap.objs.size) C) s₃:=by
  rintro s₃ rfl
  refine compLoop_any (fun n s'=>∃k ys H',Inv (blk X scope (zAW X scope C) C s2 H2 fp) [] (blank is σ) H' s'/\tn k s'.heap/\(∀b∈fp,H' b=none)/\W k n ys H') ?_ m0
   ⟨0,[],_,I4,T.keep 0 _ _ st2 fun b _ o e=>pushCells_keeps _ _ b o (Heap.get?_push_of_some _ (Heap.get?_push_of_some _ e)),fun b hb=>by rw [zAI (Nat.ne_of_lt (hfs b hb))];exact (f2 b hb).1,w0⟩
  rintro n s3 ⟨k,ys,H3,I3,st3,fr3,w3⟩
  obtain ⟨hD3,hcase⟩:=turn k n ys H3 w3
  rcases hcase with ⟨stop,qn⟩ | ⟨go,hlen,step⟩
  ·refine thn (T.done (blk X scope (zAW X scope C) C s2 H2 fp) rfl rfl rfl hcalm k [] s3 (blank is σ) H3 NoX I3 (FY fr3) st3 stop) fun r s4 ⟨hr,I4⟩=>?_
   subst hr
   obtain ⟨m,hn,_⟩:=id I4.loc
   exact hRR _ C s4 H3 m (out I4) hn qn I4.free (fun z=>Nat.lt_irrefl _ (Nat.lt_trans (Nat.lt_of_lt_of_eq hDC z) I2.lt)) (Nat.le_trans I2.sz (Nat.le_of_lt hDC)) hCx hCp
  ·refine thn (T.item (blk X scope (zAW X scope C) C s2 H2 fp) rfl rfl rfl hcalm k [] s3 (blank is σ) H3 NoX I3 (FY fr3) st3 go) fun r s4 ⟨u,hr,h4⟩=>?_
   subst hr
   refine thn h4 fun _ s5 ⟨x,H5,I5,r5,y5,st5,fr5⟩=>?_
   have I5':=I5.pinned (FY fr5) (T.obj _ _ st5)
   refine thn (Hg _ s5 (blank is σ) H5 x u _ I5' r5 (step x H5 y5)) fun _ s6 ⟨σ6,H6,I6,le6,q6⟩=>?_
   refine thn (Hc _ s6 σ6 H6 _ I6 q6) fun ok s7 ⟨H7,I7,q7⟩=>?_
   have again:∀{H8:Hp} {s8:Shared} {ys':List V},Inv (blk X scope (zAW X scope C) C s2 H2 fp) ([]++zFN fp s5.heap) σ6 H8 s8->(∃m',m'<n/\W (k+1) m' ys' H8) ->
     ∃m,m<n/\∃k ys H',Inv (blk X scope (zAW X scope C) C s2 H2 fp) [] (blank is σ) H' s8/\tn k s8.heap/\(∀b∈fp,H' b=none)/\W k m ys H':=fun {H8 s8 ys'} I8 ⟨m',hm,w8⟩=>by
    refine ⟨m',hm,k+1,ys',H8,(I8.weak le6.1.symm le6.2).unpinned,T.keep _ _ _ st5 fun b hb o e=>(I8.pin (b,o) (mem_append_right _ (mem_append_right _ (zC0 hb e)))).1,fun b hb=>?_,w8⟩
    obtain ⟨o,e,d⟩:=T.obj _ _ st5 b hb
    exact (I8.pin (b,o) (mem_append_right _ (mem_append_right _ (zC0 hb e)))).2.1
   cases ok with
   | false=>
    rw [if_neg Bool.false_ne_true] at q7
    exact again I7 q7
   | true=>
    rw [if_pos rfl] at q7
    refine thn (He _ s7 σ6 H7 _ I7 q7) fun y s8 ⟨v8,H8,I8,r8,q8⟩=>?_
    obtain ⟨hD8,q8⟩:=q8
    refine thn (Ha _ s8 σ6 H8 (.ref s2.heap.objs.size) [v8] (.ref s2.heap.objs.size) [y] (fun _ H9=>∃m',m'<n/\W (k+1) m' (ys++[v8]) H9) I8 rfl (.cons r8 .nil) ⟨_,ys,v8,rfl,rfl,hD8,hlen,q8⟩) fun _ s9 ⟨_,H9,I9,_,q9⟩=>?_
    exact again I9 q9
 exact codeAny_compStart_list (loop _ rfl) (T.self X.A 0 _ _ _ (T.keep 0 _ _ st2 fun b _ o e=>pushCells_keeps _ _ b o (Heap.get?_push_of_some _ (Heap.get?_push_of_some _ e))) (loop _ rfl))
theorem zE8 (S:CompSc X.N is X.env.scope scope) (hcalm:X.calm=true) (hi:PI X tg iter wi)
  (hg:∀cells C s₀ H₀ ex,PG (blk X scope cells C s₀ H₀ ex) tg g) (hc:∀cells C s₀ H₀ ex,PF (blk X scope cells C s₀ H₀ ex) ifs tc) (he:∀cells C s₀ H₀ ex,PE (blk X scope cells C s₀ H₀ ex) elt te)
  (hs:∀x,foldedSetIterable iter X.env x=pure x:=by intro _;rfl):PE X (.ListComp elt [⟨tg,iter,ifs,0⟩] scope pos) (tComp is wi g tc te):=by
 intro pins s σ H Q I h
 rw [eval_ListComp]
 refine wpAny_comprehension_free (use:=none) rfl hs (closureFor_L (I.freeCells S)) S.kind S.loc (comp_core (RR:=fun acc C=>compPost (model X.prog X.w) X.A X.xe none (EP X pins σ Q) acc C) S hcalm hi hg hc he I h ?_)
 intro D C s' H' m I' hn q n1 n2 n3 n4 n5
 refine ⟨m,hn,fun h' hs'=>?_⟩
 exact ⟨.ref D,H',I'.turned (t':=s'.toks) (fun b o hb e=>(hs'.2 b hb).trans e) n1 n2 (.inr n3) n4 n5,rfl,q⟩
theorem ps_setComp {i:Nat} {y:Str} {pos' spos:Pos} (hN:X.N.Nodup) (hy:X.N[i]?=some y) (hl:X.env.scope.names.lookup y=some .local) (S:CompSc X.N is X.env.scope scope) (hcalm:X.calm=true) (hi:PI X tg iter wi)
  (hg:∀cells C s₀ H₀ ex,PG (blk X scope cells C s₀ H₀ ex) tg g) (hc:∀cells C s₀ H₀ ex,PF (blk X scope cells C s₀ H₀ ex) ifs tc) (he:∀cells C s₀ H₀ ex,PE (blk X scope cells C s₀ H₀ ex) elt te)
  (hsw:swapsWith (.ListComp elt [⟨tg,iter,ifs,0⟩] scope pos) (some (.Name y pos')) spos.line X.env=pure true)
  (hs:∀x,foldedSetIterable iter X.env x=pure x:=by intro _;rfl):PS X (.Assign [.Name y pos'] (.ListComp elt [⟨tg,iter,ifs,0⟩] scope pos) spos) (fun D σ H=>tComp is wi g tc te σ H fun v H'=>D.nx (σ.set i (some v)) H'):=by
 intro pins s σ H Ds I h
 rw [exec_Assign_Name_used _ _ _ _ hsw]
 refine wpAny_bind (wpAny_standAt (wpAny_bind ?_))
 show wpAny _ X.A (do let _ <-comprehension (.ListComp elt [⟨tg,iter,ifs,0⟩] scope pos) scope X.env _ (newList []) false (eval iter X.env) (some (assign (.Name y pos') X.env))) _ _ s
 refine wpAny_bind (wpAny_mono (wpAny_comprehension_free (use:=some (assign (.Name y pos') X.env)) (Q:=fun _ s'=>SP X pins Ds .next s') rfl hs (closureFor_L (I.freeCells S)) S.kind S.loc
  (comp_core (RR:=fun acc C=>compPost (model X.prog X.w) X.A X.xe (some (assign (.Name y pos') X.env)) (fun _ s'=>SP X pins Ds .next s') acc C) S hcalm hi hg hc he I h ?_)) (fun _ s' hq=>wpAny_pure (wpAny_pure hq)) fun _ _ e=>e)
 intro D C s' H' m I' hn q n1 n2 n3 n4 n5
 show wpAny _ X.A (assign (.Name y pos') X.env (.ref D)) _ _ _
 refine wpAny_assign_Name (store_ok2 (v:=.ref D) I' hN hy (.inl hl) rfl (fun s'' I'' hch=>?_) (.inr hl))
 obtain ⟨a,hsb,ha⟩:=hch
 have hCa:C≠a:=by
  rcases ha with e | e
  ·rw [e];exact n2
  ·exact (n4 y a e).symm
 refine ⟨m,hn.sameBut hsb hCa,fun h' hs'=>?_⟩
 exact ⟨_,H',I''.turned (t':=s''.toks) (fun b o hb e=>(hs'.2 b hb).trans e) n1 n2 (.inr n3) n4 n5,q⟩
end
end L2
namespace T
open PySem PySem.Spec L2
open PyProof.Rows hiding St
variable {K:Fg} {H' H2 He H1 He':Hp} {a:Addr} {o:HO} {O' G F M:List Addr} {Fs Fs2 Fs' Gs Fs1:List (List Addr)} {R:V->V->Hp->Prop} {t t':TT} {es ifs:List Expr} {X:Cx} {σ:St} {x qual y:Str} {α:Type} {vs:List V} {bs:List Bool} {A:Around} {lo cs ls gs:List Nat} {n:Nat} {tg iter elt:Expr} {ds:List PySem.PyData} {N ps gl:List Str} {fd:FuncData} {op':CmpOp} {g':PySem.PyData->PySem.PyData->Option PySem.PyData} {scope:Scope} {px pos' apos cpos:Pos} {mg:Str->Option Value} {env:Env}
abbrev D:=PyData
inductive Rep (K:Fg) (H:Hp):V->D->Prop where
 | non:Rep K H .non .none
 | bl (b:Bool):Rep K H (.bl b) (.bool b)
 | int (i:Int):Rep K H (.int i) (.int i)
 | str (x:Str):Rep K H (.str x) (.str x)
 | lst {p:Addr} {vs:List V} {ds:List D}:SqL K H p vs->vs.length=ds.length->(∀(i:Nat) v d,vs[i]?=some v->ds[i]?=some d->Rep K H v d)->Rep K H (.ref p) (.list ds)
 | tup {p:Addr} {vs:List V} {ds:List D}:SqT K H p vs->vs.length=ds.length->(∀(i:Nat) v d,vs[i]?=some v->ds[i]?=some d->Rep K H v d)->Rep K H (.ref p) (.tuple ds)
theorem SameT {H:Hp} {xs:List V} (e:Same H H') (h:SqT K H a xs):SqT K H' a xs:=by
 rcases h with (h | ⟨o,h⟩) | h
 ·exact .inl (.inl (e _ _ h))
 ·exact .inl (.inr ⟨o,e _ _ h⟩)
 ·exact .inr h
theorem Rep.mono {H:Hp} {v:V} {d:D} (e:Same H H') (h:Rep K H v d):Rep K H' v d:=by
 induction h with
 | non=>exact .non
 | bl b=>exact .bl b
 | int i=>exact .int i
 | str x=>exact .str x
 | lst hs hl _ ih=>exact .lst (e.seq hs) hl ih
 | tup hs hl _ ih=>exact .tup (SameT e hs) hl ih
def Reps (K:Fg) (H:Hp) (vs:List V) (ds:List D):Prop:=vs.length=ds.length/\∀(i:Nat) v d,vs[i]?=some v->ds[i]?=some d->Rep K H v d
def hid (H:Hp) (O:List Addr):Hp:=fun a=>if a∈O then none else H a
theorem hid_le {H:Hp} {O:List Addr}:Same (hid H O) H:=fun b o h=>by
 unfold hid at h
 split at h
 ·cases h
 ·exact h
theorem zBA {H:Hp} {O:List Addr} (h:H a=some o) (n:a∉O):hid H O a=some o:=by
 unfold hid;rw [if_neg n];exact h
theorem zAP {H:Hp} {O:List Addr} (e:Same H H') (h:∀a∈O',a∈O\/H a=none):Same (hid H O) (hid H' O'):=fun b o q=>by
 unfold hid at q ⊢
 split at q
 ·cases q
 ·rename_i hn
  have hb:b∉O':=fun z=>(h b z).elim hn fun z=>by rw [z] at q;cases q
  rw [if_neg hb]
  exact e b o q
theorem hid_upd {H:Hp} {O:List Addr} {p:Addr} (h:p∈O):hid (upd H p o) O=hid H O:=by
 funext b
 unfold hid
 split
 ·rfl
 ·rename_i hb
  exact zAI fun e=>hb (e▸h)
theorem hid_nil {H:Hp}:hid H []=H:=by
 funext b;unfold hid;simp
theorem zAG {H:Hp} {p:Addr} (h:H p=none):Same H (upd H p o):=fun b u e=>by
 rw [zAI (zAX e h)];exact e
inductive Sh where
 | view | leaf | lst (s:Sh) | tup (ss:List Sh)
def Sh.isView:Sh->Bool
 | .view=>true
 | _=>false
inductive Own (K:Fg) (O:List Addr) (H:Hp):Sh->List Addr->V->D->Prop where
 | view {v d}:Rep K H v d->Own K O H .view [] v d
 | leaf {v d}:Rep K (hid H O) v d->Own K O H .leaf [] v d
 | lst {s:Sh} {p:Addr} {vs:List V} {ds:List D} {Fs:List (List Addr)}:s.isView=false->H p=some (.lst vs)->vs.length=ds.length->Fs.length=ds.length->(p::Fs.flatten).Nodup ->
   (∀(i:Nat) v d F,vs[i]?=some v->ds[i]?=some d->Fs[i]?=some F->Own K O H s F v d)->Own K O H (.lst s) (p::Fs.flatten) (.ref p) (.list ds)
 | tup {ss:List Sh} {p:Addr} {vs:List V} {ds:List D} {Fs:List (List Addr)}:(∀s∈ss,s.isView=false)->H p=some (.tup vs)->p∉O->vs.length=ds.length->Fs.length=ds.length->ss.length=ds.length->Fs.flatten.Nodup ->
   (∀(i:Nat) v d F s,vs[i]?=some v->ds[i]?=some d->Fs[i]?=some F->ss[i]?=some s->Own K O H s F v d)->Own K O H (.tup ss) Fs.flatten (.ref p) (.tuple ds)
theorem Own.mono {O:List Addr} {H:Hp} {s:Sh} {v:V} {d:D} (h:Own K O H s G v d) (e:Same H H') (hO:∀a∈O',a∈O\/H a=none):Own K O' H' s G v d:=by
 induction h with
 | view r=>exact .view (r.mono e)
 | leaf r=>exact .leaf (r.mono (zAP e hO))
 | lst hv hp hl hf nd _ ih=>exact .lst hv (e _ _ hp) hl hf nd fun i v d F h1 h2 h3=>ih i v d F h1 h2 h3
 | tup hv hp hn hl hf hs nd _ ih=>exact .tup hv (e _ _ hp) (fun z=>(hO _ z).elim hn fun z=>by rw [z] at hp;cases hp) hl hf hs nd fun i v d F s h1 h2 h3 h4=>ih i v d F s h1 h2 h3 h4
theorem Own.rep {O:List Addr} {H:Hp} {s:Sh} {v:V} {d:D} (h:Own K O H s G v d):Rep K H v d:=by
 induction h with
 | view r=>exact r
 | leaf r=>exact r.mono hid_le
 | lst hv hp hl hf _ q ih=>
  refine .lst (.of hp) hl fun i v d h1 h2=>?_
  rename_i Fs _
  obtain ⟨F,hF⟩:∃F,Fs[i]?=some F:=by
   have:=(List.getElem?_eq_some_iff.mp h2).1
   exact ⟨Fs[i]'(by omega),getElem?_eq_getElem _⟩
  exact ih i v d F h1 h2 hF
 | tup hv hp hn hl hf hs _ q ih=>
  refine .tup (.of hp) hl fun i v d h1 h2=>?_
  rename_i ss _ _ _ Fs _
  have hi:=(List.getElem?_eq_some_iff.mp h2).1
  exact ih i v d (Fs[i]'(by omega)) (ss[i]'(by omega)) h1 h2 (getElem?_eq_getElem _) (getElem?_eq_getElem _)
theorem zA0 {i:Nat} (h:Fs[i]?=some F) (ha:a∈F):a∈Fs.flatten:=List.mem_flatten.mpr ⟨F,mem_of_getElem? h,ha⟩
theorem Own.freeze {O:List Addr} {H:Hp} {s:Sh} {v:V} {d:D} (h:Own K O H s G v d) (hs:s.isView=false) (h1:∀a∈O',a∈O) (h2:∀a∈G,a∉O'):Rep K (hid H O') v d:=by
 induction h with
 | view r=>cases hs
 | leaf r=>exact r.mono (zAP (Same.refl _) fun a z=>.inl (h1 a z))
 | lst hv hp hl hf _ q ih=>
  refine .lst (.of (zBA hp (h2 _ mem_cons_self))) hl fun i v d e1 e2=>?_
  rename_i Fs _
  obtain ⟨F,hF⟩:∃F,Fs[i]?=some F:=by
   have:=(List.getElem?_eq_some_iff.mp e2).1
   exact ⟨Fs[i]'(by omega),getElem?_eq_getElem _⟩
  exact ih i v d F e1 e2 hF hv fun a ha=>h2 a (mem_cons_of_mem _ (zA0 hF ha))
 | tup hv hp hn hl hf hs' _ q ih=>
  refine .tup (.of (zBA hp fun z=>hn (h1 _ z))) hl fun i v d e1 e2=>?_
  rename_i ss _ _ _ Fs _
  have hi:=(List.getElem?_eq_some_iff.mp e2).1
  have e3:Fs[i]?=some (Fs[i]'(by omega)):=getElem?_eq_getElem _
  exact ih i v d _ (ss[i]'(by omega)) e1 e2 e3 (getElem?_eq_getElem _) (hv _ (getElem_mem _)) fun a ha=>h2 a (zA0 e3 ha)
theorem Own.mut {O:List Addr} {H:Hp} {s:Sh} {v:V} {d:D} {p:Addr} {xs:List V} (h:Own K O H s G v d) (hs:s.isView=false) (hp:p∈O) (hg:p∉G) (hl:H p=some (.lst xs)):Own K O (upd H p o) s G v d:=by
 induction h with
 | view r=>cases hs
 | leaf r=>refine .leaf ?_;rw [hid_upd hp];exact r
 | lst hv hq hl' hf nd q ih=>
  refine .lst hv ?_ hl' hf nd fun i v d F e1 e2 e3=>ih i v d F e1 e2 e3 hv fun z=>hg (mem_cons_of_mem _ (zA0 e3 z))
  rw [zAI (fun z=>hg (by rw [<-z];exact mem_cons_self))]
  exact hq
 | tup hv hq hn hl' hf hs' nd q ih=>
  refine .tup hv ?_ hn hl' hf hs' nd fun i v d F s e1 e2 e3 e4=>ih i v d F s e1 e2 e3 e4 (hv _ (mem_of_getElem? e4)) fun z=>hg (zA0 e3 z)
  rw [zAI (fun z=>by rw [z,hl] at hq;cases hq)]
  exact hq
inductive Sc:V->D->Prop where
 | non:Sc .non .none
 | bl (b:Bool):Sc (.bl b) (.bool b)
 | int (i:Int):Sc (.int i) (.int i)
 | str (x:Str):Sc (.str x) (.str x)
theorem Sc.rep {H:Hp} {v:V} {d:D} (h:Sc v d):Rep K H v d:=by cases h<;>constructor
def scalD:D->Bool
 | .list _=>false
 | .tuple _=>false
 | .dict _=>false
 | _=>true
theorem Rep.sc {H:Hp} {v:V} {d:D} (h:Rep K H v d) (s:scalD d=true):Sc v d:=by
 cases h with
 | non=>exact .non
 | bl b=>exact .bl b
 | int i=>exact .int i
 | str x=>exact .str x
 | lst _ _ _=>cases s
 | tup _ _ _=>cases s
structure PV where
 s:Sh
 d:D
abbrev Ev:=List (Option PV)
inductive Out (α:Type) where
 | ok (a:α) (e:Ev)
 | er (c:Str) (e:Ev)
 | no
def Out.bind {α β:Type} (x:Out α) (k:α->Ev->Out β):Out β:=match x with
 | .ok a e=>k a e
 | .er c e=>.er c e
 | .no=>.no
structure EnvOk (K:Fg) (He:Hp) (O:List Addr) (Fs:List (List Addr)) (H:Hp) (σ:St) (U:Ev):Prop where
 len1:σ.length=U.length
 len2:Fs.length=U.length
 same:Same He H
 nd:(O++Fs.flatten).Nodup
 inH:∀a∈O++Fs.flatten,H a≠none
 fresh:∀a∈Fs.flatten,He a=none
 slot:∀(i:Nat) (p:PV),U[i]?=some (some p)->p.s.isView=false/\∃v F,σ[i]?=some (some v)/\Fs[i]?=some F/\Own K (O++Fs.flatten) H p.s F v p.d
section
variable {K:Fg} {He H H':Hp} {O O' G:List Addr} {Fs:List (List Addr)} {σ:St} {U:Ev}
theorem EnvOk.grow (h:EnvOk K He O Fs H σ U) (e:Same H H'):EnvOk K He O Fs H' σ U:=
 ⟨h.len1,h.len2,h.same.trans e,h.nd,fun a ha z=>h.inH a ha (e.free z),h.fresh,fun i p q=>let ⟨a,v,F,b,c,d⟩:=h.slot i p q;⟨a,v,F,b,c,d.mono e fun _ z=>.inl z⟩⟩
theorem EnvOk.drop (h:EnvOk K He O Fs H σ U) (hs:∀a∈O',a∈O) (nd:O'.Nodup):EnvOk K He O' Fs H σ U:=by
 obtain ⟨n1,n2,n3⟩:=List.nodup_append.mp h.nd
 refine ⟨h.len1,h.len2,h.same,List.nodup_append.mpr ⟨nd,n2,fun a ha b hb=>n3 a (hs a ha) b hb⟩,fun a ha=>h.inH a ?_,h.fresh,fun i p q=>let ⟨a,v,F,b,c,d⟩:=h.slot i p q;⟨a,v,F,b,c,d.mono (Same.refl _) fun a z=>.inl ?_⟩⟩
 ·rcases List.mem_append.mp ha with z | z
  ·exact mem_append_left _ (hs a z)
  ·exact mem_append_right _ z
 ·rcases List.mem_append.mp z with z | z
  ·exact mem_append_left _ (hs a z)
  ·exact mem_append_right _ z
theorem EnvOk.dropL (h:EnvOk K He (G++O) Fs H σ U):EnvOk K He O Fs H σ U:=h.drop (fun a z=>mem_append_right _ z) (List.nodup_append.mp (List.nodup_append.mp h.nd).1).2.1
theorem EnvOk.hide (h:EnvOk K He O Fs H σ U) (e:Same H H') (nd:G.Nodup) (hn:∀a∈G,H a=none) (hi:∀a∈G,H' a≠none):EnvOk K He (G++O) Fs H' σ U:=by
 refine ⟨h.len1,h.len2,h.same.trans e,?_,fun a ha=>?_,h.fresh,fun i p q=>let ⟨a,v,F,b,c,d⟩:=h.slot i p q;⟨a,v,F,b,c,d.mono e fun a z=>?_⟩⟩
 ·rw [append_assoc]
  exact List.nodup_append.mpr ⟨nd,h.nd,fun a ha b hb z=>h.inH b hb (by rw [<-z];exact hn a ha)⟩
 ·rw [append_assoc] at ha
  rcases List.mem_append.mp ha with z | z
  ·exact hi a z
  ·exact fun q=>h.inH a z (e.free q)
 ·rw [append_assoc] at z
  rcases List.mem_append.mp z with z | z
  ·exact .inr (hn a z)
  ·exact .inl z
end
structure Aft (K:Fg) (He:Hp) (O:List Addr) (Fs:List (List Addr)) (H:Hp) (σ:St) (U':Ev) (p:PV) (v:V) (H':Hp) (G:List Addr) (Fs':List (List Addr)):Prop where
 same:Same H H'
 env:EnvOk K He (G++O) Fs' H' σ U'
 new:∀a∈G++Fs'.flatten,a∈Fs.flatten\/H a=none
 own:Own K (G++O++Fs'.flatten) H' p.s G v p.d
abbrev XW:=Str->St->Hp->Prop
abbrev F1:=Ev->Out PV
def tE (K:Fg) (W:XW) (f:F1):TE:=fun σ H Q=>∃He O Fs U,EnvOk K He O Fs H σ U/\match f U with
 | .ok p U'=>∀v H' G Fs',Aft K He O Fs H σ U' p v H' G Fs'->Q v H'
 | .er c U'=>∀H' Fs',Same H H'->EnvOk K He O Fs' H' σ U'->W c σ H'
 | .no=>False
def Wants (K:Fg) (W:XW) (He:Hp) (O:List Addr) (Fs:List (List Addr)) (H:Hp) (σ:St) (Q:VK) (o:Out PV):Prop:=match o with
 | .ok p U'=>∀v H' G Fs',Aft K He O Fs H σ U' p v H' G Fs'->Q v H'
 | .er c U'=>∀H' Fs',Same H H'->EnvOk K He O Fs' H' σ U'->W c σ H'
 | .no=>False
section
variable {K:Fg} {W:XW} {He H:Hp} {O:List Addr} {Fs:List (List Addr)} {σ:St} {U U':Ev} {Q:VK}
theorem Wants.scal {O2:List Addr} {v:V} {d:D} (h:Wants K W He O Fs H σ Q (.ok ⟨.leaf,d⟩ U')) (s:Sc v d) (e:Same H H2) (E:EnvOk K He O2 Fs2 H2 σ U')
  (hO:∀a∈O,a∈O2) (nd:O.Nodup) (new:∀a∈Fs2.flatten,a∈Fs.flatten\/H a=none):Q v H2:=
 h v H2 [] Fs2 ⟨e,by rw [nil_append];exact E.drop hO nd,by rw [nil_append];exact new,.leaf s.rep⟩
theorem EnvOk.ndO (E:EnvOk K He O Fs H σ U):O.Nodup:=(List.nodup_append.mp E.nd).1
end
def eBind {β:Type} (f:F1) (k:PV->Ev->Out β):Ev->Out β:=fun U=>(f U).bind k
section
variable {K:Fg} {W:XW} {σ:St} {H:Hp} {Q:VK} {fa fb:F1}
theorem zD8 {k:PV->F1} {R:VK} (h:tE K W (eBind fa k) σ H Q)
  (hk:∀He O Fs U1 p v H1 G Fs1,O.Nodup->Aft K He O Fs H σ U1 p v H1 G Fs1->Wants K W He O Fs H σ Q (k p U1)->R v H1):tE K W fa σ H R:=by
 obtain ⟨He,O,Fs,U,E,h⟩:=h
 refine ⟨He,O,Fs,U,E,?_⟩
 unfold eBind at h
 cases e:fa U with
 | ok p U1=>
  rw [e] at h
  exact fun v H' G Fs' A=>hk He O Fs U1 p v H' G Fs' E.ndO A h
 | er c U1=>
  rw [e] at h
  exact h
 | no=>
  rw [e] at h
  exact h
theorem zGA {k:PV->PV->F1} (h:tE K W (eBind fa fun p=>eBind fb fun q=>k p q) σ H Q)
  (hk:∀He O Fs U2 p q v u H1 H2 G1 G2 Fs2,O.Nodup->Same H H1->Same H1 H2->EnvOk K He (G2++(G1++O)) Fs2 H2 σ U2->(∀a∈G2++(G1++Fs2.flatten),a∈Fs.flatten\/H a=none) ->
   Own K (G2++(G1++O)++Fs2.flatten) H2 p.s G1 v p.d->Own K (G2++(G1++O)++Fs2.flatten) H2 q.s G2 u q.d->Wants K W He O Fs H σ Q (k p q U2)->R v u H2) :
  tE K W fa σ H fun v H1=>tE K W fb σ H1 fun u H2=>R v u H2:=by
 refine zD8 (k:=fun p=>eBind fb fun q=>k p q) h fun He O Fs U1 p v H1 G1 Fs1 nd A1 h1=>?_
 refine ⟨He,G1++O,Fs1,U1,A1.env,?_⟩
 unfold eBind at h1
 cases e:fb U1 with
 | ok q U2=>
  rw [e] at h1
  intro u H2 G2 Fs2 A2
  have new:∀a∈G2++(G1++Fs2.flatten),a∈Fs.flatten\/H a=none:=fun a ha=>by
   have up:a∈G1++Fs1.flatten->a∈Fs.flatten\/H a=none:=A1.new a
   rcases List.mem_append.mp ha with z | z
   ·rcases A2.new a (mem_append_left _ z) with y | y
    ·exact up (mem_append_right _ y)
    ·exact .inr (A1.same.free y)
   ·rcases List.mem_append.mp z with z | z
    ·exact up (mem_append_left _ z)
    ·rcases A2.new a (mem_append_right _ z) with y | y
     ·exact up (mem_append_right _ y)
     ·exact .inr (A1.same.free y)
  refine hk He O Fs U2 p q v u H1 H2 G1 G2 Fs2 nd A1.same A2.same A2.env new (A1.own.mono A2.same fun a ha=>?_) A2.own h1
  rcases List.mem_append.mp ha with z | z
  ·rcases List.mem_append.mp z with z | z
   ·rcases A2.new a (mem_append_left _ z) with y | y
    ·exact .inl (mem_append_right _ y)
    ·exact .inr y
   ·exact .inl (mem_append_left _ z)
  ·rcases A2.new a (mem_append_right _ z) with y | y
   ·exact .inl (mem_append_right _ y)
   ·exact .inr y
 | er c U2=>
  rw [e] at h1
  intro H2 Fs2 hs E2
  exact h1 H2 Fs2 (A1.same.trans hs) E2.dropL
 | no=>
  rw [e] at h1
  exact h1
end
section
variable {X:Cx} {e:Expr}
theorem PEimp {t t':TE} (h:PE X e t) (i:∀σ H Q,t' σ H Q->t σ H Q):PE X e t':=fun pins s σ H Q I q=>h pins s σ H Q I (i σ H Q q)
theorem PTimp (h:PT X e t) (i:∀σ H Q,t' σ H Q->t σ H Q):PT X e t':=fun pins s σ H Q I q=>h pins s σ H Q I (i σ H Q q)
theorem PWimp (h:PW X e t) (i:∀σ H Q,t' σ H Q->t σ H Q):PW X e t':=fun whole pins s σ H Q I q=>h whole pins s σ H Q I (i σ H Q q)
theorem PAimp {t t':TA} (h:PA X es t) (i:∀σ H Q,t' σ H Q->t σ H Q):PA X es t':=fun pos pins s σ H Q I q=>h pos pins s σ H Q I (i σ H Q q)
theorem PSimp {st:Stmt} {t t':TS} (h:PS X st t) (i:∀D σ H,t' D σ H->t D σ H):PS X st t':=fun pins s σ H D I q=>h pins s σ H D I (i D σ H q)
theorem zGN {st:List Stmt} {t t':TS} (h:PSs X st t) (i:∀D σ H,t' D σ H->t D σ H):PSs X st t':=fun pins s σ H D I q=>h pins s σ H D I (i D σ H q)
theorem PFimp (h:PF X es t) (i:∀σ H Q,t' σ H Q->t σ H Q):PF X es t':=fun pins s σ H Q I q=>h pins s σ H Q I (i σ H Q q)
end
theorem zC7 {h:Heap}:∀{vs:List V} {its:List Value} {ds:List D},Vals vs its->vs.length=ds.length->(∀(i:Nat) v d,vs[i]?=some v->ds[i]?=some d->∀u,RelV v u->∃as,Reads h u d as)->∃as,ReadsAll h its ds as
 | _,_,[],.nil,_,_=>⟨_,.nil⟩
 | _,_,d::ds,.cons (a:=v) (b:=u) r t,hl,h=>by
  obtain ⟨as,ra⟩:=h 0 v d rfl rfl u r
  obtain ⟨bs,rb⟩:=zC7 t (by simpa using hl) fun i v d h1 h2=>h (i+1) v d (by simpa using h1) (by simpa using h2)
  exact ⟨_,.cons ra rb⟩
 | _,_,[],.cons _ _,hl,_=>by simp at hl
 | _,_,_::_,.nil,hl,_=>by simp at hl
theorem Rep.reads {pins:List (Addr×Obj)} {H:Hp} {s:Shared} {x:V} {d:D} (I:Inv X pins σ H s) (r:Rep X.K H x d):∀u,RelV x u->∃as,Reads s.heap u d as:=by
 induction r with
 | non=>rintro u rfl;exact ⟨_,.none⟩
 | bl b=>rintro u rfl;exact ⟨_,.bool b⟩
 | int i=>rintro u ⟨t,rfl⟩;exact ⟨_,.int i t⟩
 | str x=>rintro u ⟨t,rfl⟩;exact ⟨_,.str x t⟩
 | lst hq hl _ ih=>
  rintro u rfl
  obtain ⟨its,rv,⟨o,n,e1,e2,e3,e4⟩,_⟩:=I.list hq
  obtain ⟨as,ra⟩:=zC7 rv hl ih
  exact ⟨_,.list e1 e2 e4 (by simpa using ra)⟩
 | tup hq hl _ ih=>
  rintro u rfl
  obtain ⟨its,rv,⟨o,e1,e2,n,e4⟩,_⟩:=I.tuple hq
  obtain ⟨as,ra⟩:=zC7 rv hl ih
  exact ⟨_,.tuple e1 e2 e4 (by simpa using ra)⟩
theorem zBF {α:Type} {F G:List α}:∀{Fs:List (List α)} {i:Nat},Fs[i]?=some F->(F++(Fs.set i G).flatten).Perm (G++Fs.flatten)
 | [],_,h=>by simp at h
 | A::r,0,h=>by
  simp at h
  subst h
  simp only [List.set_cons_zero,flatten_cons]
  rw [<-append_assoc,<-append_assoc]
  exact List.Perm.append_right _ perm_append_comm
 | A::r,i+1,h=>by
  have ih:=zBF (G:=G) (Fs:=r) (i:=i) (by simpa using h)
  simp only [List.set_cons_succ,flatten_cons]
  calc (F++(A++(r.set i G).flatten)).Perm (A++(F++(r.set i G).flatten)):=by
        rw [<-append_assoc,<-append_assoc];exact List.Perm.append_right _ perm_append_comm
    _ |>.Perm (A++(G++r.flatten)):=List.Perm.append_left _ ih
    _ |>.Perm (G++(A++r.flatten)):=by
        rw [<-append_assoc,<-append_assoc];exact List.Perm.append_right _ perm_append_comm
section
variable {K:Fg} {He H:Hp} {O G:List Addr} {Fs:List (List Addr)} {σ:St} {U:Ev}
theorem EnvOk.lt (E:EnvOk K He O Fs H σ U) {i:Nat} (h:i<U.length):∃F,Fs[i]?=some F:=⟨Fs[i]'(by rw [E.len2];exact h),getElem?_eq_getElem _⟩
theorem EnvOk.move {i:Nat} {p:PV} (E:EnvOk K He O Fs H σ U) (h:U[i]?=some (some p)) :
  p.s.isView=false/\∃v F,σ[i]?=some (some v)/\EnvOk K He (F++O) (Fs.set i []) H σ (U.set i none)/\Own K (F++O++(Fs.set i []).flatten) H p.s F v p.d/\(∀a∈F++(Fs.set i []).flatten,a∈Fs.flatten):=by
 obtain ⟨hv,v,F,h1,h2,h3⟩:=E.slot i p h
 have pm:(F++(Fs.set i []).flatten).Perm Fs.flatten:=by simpa using zBF (G:=[]) h2
 have pm2:(F++O++(Fs.set i []).flatten).Perm (O++Fs.flatten):=by
  rw [append_assoc]
  calc (F++(O++(Fs.set i []).flatten)).Perm (O++(F++(Fs.set i []).flatten)):=by
        rw [<-append_assoc,<-append_assoc];exact List.Perm.append_right _ perm_append_comm
    _ |>.Perm (O++Fs.flatten):=List.Perm.append_left _ pm
 refine ⟨hv,v,F,h1,⟨by rw [length_set];exact E.len1,by rw [length_set,length_set];exact E.len2,E.same,pm2.nodup_iff.mpr E.nd,fun a ha=>E.inH a (pm2.mem_iff.mp ha),fun a ha=>E.fresh a (pm.mem_iff.mp (mem_append_right _ ha)),fun j q hq=>?_⟩,h3.mono (Same.refl _) fun a ha=>.inl (pm2.mem_iff.mp ha),fun a ha=>pm.mem_iff.mp ha⟩
 by_cases hj:j=i
 ·subst hj
  rw [getElem?_set] at hq
  split at hq
  ·split at hq<;>cases hq
  ·rename_i z
   exact absurd rfl z
 ·rw [getElem?_set_ne (Ne.symm hj)] at hq
  obtain ⟨w1,v',F',e1,e2,e3⟩:=E.slot j q hq
  exact ⟨w1,v',F',e1,by rw [getElem?_set_ne (Ne.symm hj)];exact e2,e3.mono (Same.refl _) fun a ha=>.inl (pm2.mem_iff.mp ha)⟩
theorem EnvOk.put {i:Nat} {p:PV} {v:V} (E:EnvOk K He (G++O) Fs H σ U) (ho:Own K (G++O++Fs.flatten) H p.s G v p.d) (hv:p.s.isView=false) (hn:∀a∈G,He a=none) (hi:i<U.length) :
  EnvOk K He O (Fs.set i G) H (σ.set i (some v)) (U.set i (some p)):=by
 obtain ⟨F,hF⟩:=E.lt hi
 have pm:=zBF (G:=G) hF
 have nd:=E.nd
 rw [append_assoc] at nd
 have sub:∀a∈O++(Fs.set i G).flatten,a∈G++O++Fs.flatten:=fun a ha=>by
  rw [append_assoc]
  rcases List.mem_append.mp ha with z | z
  ·exact mem_append_right _ (mem_append_left _ z)
  ·rcases List.mem_append.mp (pm.mem_iff.mp (mem_append_right _ z)) with y | y
   ·exact mem_append_left _ y
   ·exact mem_append_right _ (mem_append_right _ y)
 refine ⟨by rw [length_set,length_set];exact E.len1,by rw [length_set,length_set];exact E.len2,E.same,?_,fun a ha=>E.inH a (sub a ha),fun a ha=>?_,fun j q hq=>?_⟩
 ·have p1:(O++(F++(Fs.set i G).flatten)).Perm (G++(O++Fs.flatten)):=by
   calc (O++(F++(Fs.set i G).flatten)).Perm (O++(G++Fs.flatten)):=List.Perm.append_left _ pm
     _ |>.Perm (G++(O++Fs.flatten)):=by
       rw [<-append_assoc,<-append_assoc];exact List.Perm.append_right _ perm_append_comm
  have p2:=p1.nodup_iff.mpr nd
  refine p2.sublist ?_
  exact List.Sublist.append_left (List.sublist_append_right _ _) _
 ·rcases List.mem_append.mp (pm.mem_iff.mp (mem_append_right _ ha)) with y | y
  ·exact hn a y
  ·exact E.fresh a y
 ·by_cases hj:j=i
  ·subst hj
   rw [getElem?_set_self hi] at hq
   cases hq
   refine ⟨hv,v,G,?_,?_,ho.mono (Same.refl _) fun a ha=>.inl (sub a ha)⟩
   ·rw [getElem?_set_self (by rw [E.len1];exact hi)]
   ·rw [getElem?_set_self (by rw [E.len2];exact hi)]
  ·rw [getElem?_set_ne (Ne.symm hj)] at hq
   obtain ⟨w1,v',F',e1,e2,e3⟩:=E.slot j q hq
   exact ⟨w1,v',F',by rw [getElem?_set_ne (Ne.symm hj)];exact e1,by rw [getElem?_set_ne (Ne.symm hj)];exact e2,e3.mono (Same.refl _) fun a ha=>.inl (sub a ha)⟩
theorem Aft.freshG {U':Ev} {p:PV} {v:V} (E:EnvOk K He O Fs H σ U) (A:Aft K He O Fs H σ U' p v H' G Fs'):∀a∈G,He a=none:=fun a ha=>by
 rcases A.new a (mem_append_left _ ha) with z | z
 ·exact E.fresh a z
 ·exact E.same.free z
end
def eVar (i:Nat):F1:=fun U=>match U[i]? with
 | some (some p)=>(match p.s with
  | .leaf=>.ok ⟨.leaf,p.d⟩ U
  | _=>.ok ⟨.view,p.d⟩ U)
 | _=>.no
def eMove (i:Nat):F1:=fun U=>match U[i]? with
 | some (some p)=>.ok p (U.set i none)
 | _=>.no
def eK (d:D):F1:=fun U=>.ok ⟨.leaf,d⟩ U
section
variable {X:Cx} {W:XW} {i:Nat} {e:Expr} {pos:Pos}
theorem rd_var {H:Hp} {Q:VK} (h:tE K W (eVar i) σ H Q):tVar i σ H Q:=by
 obtain ⟨He,O,Fs,U,E,h⟩:=h
 unfold eVar at h
 cases e:U[i]? with
 | none=>rw [e] at h;exact h.elim
 | some o=>
  rw [e] at h
  cases o with
  | none=>exact h.elim
  | some p=>
   obtain ⟨hv,v,F,h1,h2,h3⟩:=E.slot i p e
   obtain ⟨s,d⟩:=p
   have new:∀a∈[]++Fs.flatten,a∈Fs.flatten\/H a=none:=fun a ha=>.inl (by simpa using ha)
   cases s with
   | leaf=>
    cases h3 with
    | leaf r=>exact ⟨v,h1,h v H [] Fs ⟨Same.refl _,by simpa using E,new,.leaf r⟩⟩
   | view=>cases hv
   | lst s=>exact ⟨v,h1,h v H [] Fs ⟨Same.refl _,by simpa using E,new,.view h3.rep⟩⟩
   | tup ss=>exact ⟨v,h1,h v H [] Fs ⟨Same.refl _,by simpa using E,new,.view h3.rep⟩⟩
theorem rd_move {H:Hp} {Q:VK} (h:tE K W (eMove i) σ H Q):tVar i σ H Q:=by
 obtain ⟨He,O,Fs,U,E,h⟩:=h
 unfold eMove at h
 cases e:U[i]? with
 | none=>rw [e] at h;exact h.elim
 | some o=>
  rw [e] at h
  cases o with
  | none=>exact h.elim
  | some p=>
   obtain ⟨hv,v,F,h1,E',o',sub⟩:=E.move e
   exact ⟨v,h1,h v H F (Fs.set i []) ⟨Same.refl _,E',fun a ha=>.inl (sub a ha),o'⟩⟩
theorem de_var (h:PE X e (tVar i)):PE X e (tE X.K W (eVar i)):=PEimp h fun _ _ _=>rd_var
theorem de_move (h:PE X e (tVar i)):PE X e (tE X.K W (eMove i)):=PEimp h fun _ _ _=>rd_move
theorem rd_k {H:Hp} {Q:VK} {v:V} {d:D} (hs:∀H,Rep K H v d) (h:tE K W (eK d) σ H Q):Q v H:=by
 obtain ⟨He,O,Fs,U,E,h⟩:=h
 exact h v H [] Fs ⟨Same.refl _,by simpa using E,fun a ha=>.inl (by simpa using ha),.leaf (hs _)⟩
theorem de_glob {v:V} {u:Value} {d:D} (hg:Gl X x) (hm:X.mg x=some u) (r:RelV v u) (hr:∀H,Rep X.K H v d) (hd:(x==("__debug__":Str))=false:=by decide):PE X (.Name x pos) (tE X.K W (eK d)):=
 PEimp (pe_glob hg hm r hd) fun _ _ _=>rd_k hr
end
def eOp (g:D->D->Option D) (fa fb:F1):F1:=eBind fa fun p=>eBind fb fun q=>fun U=>match g p.d q.d with
 | some d=>.ok ⟨.leaf,d⟩ U
 | none=>.no
def GOp (K:Fg) (r:R2) (g:D->D->Option D):Prop:=∀x y H Q a b d,Rep K H x a->Rep K H y b->g a b=some d->(∀v,Sc v d->Q v H)->r x y H Q
section
variable {K:Fg} {W:XW} {σ:St} {H:Hp} {Q:VK} {fa fb:F1} {r:R2} {g:D->D->Option D}
theorem rd_op (hg:GOp K r g) (h:tE K W (eOp g fa fb) σ H Q):tOp r (tE K W fa) (tE K W fb) σ H Q:=by
 refine zGA h ?_
 intro He O Fs U2 p q v u H1 H2 G1 G2 Fs2 nd s1 s2 E new o1 o2 w
 cases e:g p.d q.d with
 | none=>rw [e] at w;exact w.elim
 | some d=>
  rw [e] at w
  exact hg v u H2 Q p.d q.d d o1.rep o2.rep e fun z s=>w.scal s (s1.trans s2) E (fun a ha=>mem_append_right _ (mem_append_right _ ha)) nd fun a ha=>new a (mem_append_right _ (mem_append_right _ ha))
end
theorem GOp.or {r r':R2} {g g':D->D->Option D} (h:GOp K r g) (h':GOp K r' g'):GOp K (fun x y H Q=>r x y H Q\/r' x y H Q) (fun a b=>(g a b).or (g' a b)):=by
 intro x y H Q a b d ra rb e k
 have e:(g a b).or (g' a b)=some d:=e
 cases e1:g a b with
 | some z=>rw [e1] at e;cases e;exact .inl (h x y H Q a b _ ra rb e1 k)
 | none=>rw [e1] at e;exact .inr (h' x y H Q a b d ra rb (by simpa using e) k)
def gI (C:Int->Int->Bool) (f:Int->Int->D):D->D->Option D
 | .int i,.int j=>if C i j then some (f i j) else none
 | _,_=>none
theorem gop_I {C:Int->Int->Prop} {C':Int->Int->Bool} {g:Int->Int->V} {f:Int->Int->D} (hC:∀i j,C' i j=true->C i j) (hs:∀i j,Sc (g i j) (f i j)):GOp K (rI C g) (gI C' f):=by
 intro x y H Q a b d ra rb e k
 cases ra<;>cases rb<;>simp only [gI] at e<;>try cases e
 rename_i i j
 split at e
 ·rename_i c
  cases e
  exact ⟨i,j,rfl,rfl,hC i j c,k _ (hs i j)⟩
 ·cases e
def gI0 (f:Int->Int->D):D->D->Option D
 | .int i,.int j=>some (f i j)
 | _,_=>none
theorem zEV {g:Int->Int->V} {f:Int->Int->D} (hs:∀i j,Sc (g i j) (f i j)):GOp K (rI0 g) (gI0 f):=by
 intro x y H Q a b d ra rb e k
 cases ra<;>cases rb<;>simp only [gI0] at e<;>try cases e
 rename_i i j
 exact ⟨i,j,rfl,rfl,k _ (hs i j)⟩
abbrev gSub:=gI0 fun i j=>.int (i-j)
abbrev gAddI:=gI0 fun i j=>.int (i+j)
def cMul (i j:Int):Bool:=(decide (-(2 ^ 64)<i)&&decide (i<2 ^ 64))||(decide (-(2 ^ 64)<j)&&decide (j<2 ^ 64))
abbrev gMul:=gI cMul fun i j=>.int (i*j)
def cDiv (_ j:Int):Bool:=decide (0<j)&&decide (j<1073741824)
abbrev gDiv:=gI cDiv fun i j=>.int (i / j)
def cMod (_ j:Int):Bool:=decide (0<j)
abbrev gMod:=gI cMod fun i j=>.int (i % j)
def cPow (i j:Int):Bool:=decide (0<=j)&&decide (j<=1000000)&&decide (i.natAbs<2 ^ 64)
abbrev gPow:=gI cPow fun i j=>.int (i ^ j.toNat)
section
variable {X:Cx} {W:XW} {a b c:Expr} {pos:Pos} {fa fb fc:F1}
end
mutual
def Sh.same:Sh->Sh->Bool
 | .view,.view=>true
 | .leaf,.leaf=>true
 | .lst a,.lst b=>Sh.same a b
 | .tup as,.tup bs=>Sh.sameL as bs
 | _,_=>false
def Sh.sameL:List Sh->List Sh->Bool
 | [],[]=>true
 | a::as,b::bs=>Sh.same a b&&Sh.sameL as bs
 | _,_=>false
end
mutual
theorem Sh.same_eq:∀{a b:Sh},Sh.same a b=true->a=b
 | .view,.view,_=>rfl
 | .leaf,.leaf,_=>rfl
 | .lst a,.lst b,h=>by rw [Sh.same_eq (a:=a) (b:=b) (by simpa [Sh.same] using h)]
 | .tup as,.tup bs,h=>by rw [Sh.sameL_eq (as:=as) (bs:=bs) (by simpa [Sh.same] using h)]
 | .view,.leaf,h=>by simp [Sh.same] at h
 | .view,.lst _,h=>by simp [Sh.same] at h
 | .view,.tup _,h=>by simp [Sh.same] at h
 | .leaf,.view,h=>by simp [Sh.same] at h
 | .leaf,.lst _,h=>by simp [Sh.same] at h
 | .leaf,.tup _,h=>by simp [Sh.same] at h
 | .lst _,.view,h=>by simp [Sh.same] at h
 | .lst _,.leaf,h=>by simp [Sh.same] at h
 | .lst _,.tup _,h=>by simp [Sh.same] at h
 | .tup _,.view,h=>by simp [Sh.same] at h
 | .tup _,.leaf,h=>by simp [Sh.same] at h
 | .tup _,.lst _,h=>by simp [Sh.same] at h
theorem Sh.sameL_eq:∀{as bs:List Sh},Sh.sameL as bs=true->as=bs
 | [],[],_=>rfl
 | a::as,b::bs,h=>by
  have h:Sh.same a b=true/\Sh.sameL as bs=true:=by simpa [Sh.sameL] using h
  rw [Sh.same_eq h.1,Sh.sameL_eq h.2]
 | [],_::_,h=>by simp [Sh.sameL] at h
 | _::_,[],h=>by simp [Sh.sameL] at h
end
def coer (s:Sh) (p:PV):Bool:=match s with
 | .leaf=>!p.s.isView||scalD p.d
 | .view=>false
 | s=>Sh.same s p.s
def keepG (s:Sh) (G:List Addr):List Addr:=match s with
 | .leaf=>[]
 | _=>G
theorem keepG_sub {s:Sh} (h:a∈keepG s G):a∈G:=by
 unfold keepG at h
 split at h
 ·simp at h
 ·exact h
theorem Own.coer {K:Fg} {O O':List Addr} {H:Hp} {s:Sh} {p:PV} {G:List Addr} {v:V} (h:Own K O H p.s G v p.d) (c:coer s p=true) (h1:∀a∈O',a∈O) (h2:∀a∈G,a∈O'->a∈keepG s G):Own K O' H s (keepG s G) v p.d:=by
 cases s with
 | view=>simp [T.coer] at c
 | leaf=>
  show Own K O' H .leaf [] v p.d
  have c:(!p.s.isView||scalD p.d)=true:=c
  cases hv:p.s.isView with
  | false=>exact .leaf (h.freeze hv h1 fun a ha z=>by simpa [keepG] using h2 a ha z)
  | true=>
   rw [hv] at c
   exact .leaf (h.rep.sc (by simpa using c)).rep
 | lst s=>
  have e:Sh.lst s=p.s:=Sh.same_eq c
  show Own K O' H (.lst s) G v p.d
  rw [e]
  exact h.mono (Same.refl _) fun a ha=>.inl (h1 a ha)
 | tup ss=>
  have e:Sh.tup ss=p.s:=Sh.same_eq c
  show Own K O' H (.tup ss) G v p.d
  rw [e]
  exact h.mono (Same.refl _) fun a ha=>.inl (h1 a ha)
open PySem.SeqAt in
def gEq:D->D->Option D:=fun a b=>if shaped a&&shaped b then some (.bool (PyData.eqv a b)) else none
open PySem.SeqAt in
def gNe:D->D->Option D:=fun a b=>if shaped a&&shaped b then some (.bool (!PyData.eqv a b)) else none
open PySem.SeqAt in
def rEqD (K:Fg) (neg:Bool):R2:=fun x y H Q=>∃a b,Rep K H x a/\Rep K H y b/\shaped a=true/\shaped b=true/\Q (.bl (if neg then !PyData.eqv a b else PyData.eqv a b)) H
section
variable {X:Cx}
theorem zGW (hu:X.A.units+64<cLine):OpR X (compareOp .Eq) (rEqD X.K false):=by
 intro pins s σ H x y v u Q I rx ry h
 obtain ⟨a,b,ra,rb,sa,sb,q⟩:=h
 obtain ⟨as,r1⟩:=ra.reads I v rx
 obtain ⟨bs,r2⟩:=rb.reads I u ry
 exact SeqAt.compareEq_shaped r1 r2 sa sb hu ⟨.bl _,H,I,rfl,q⟩
theorem op_neD (hu:X.A.units+64<cLine):OpR X (compareOp .NotEq) (rEqD X.K true):=by
 intro pins s σ H x y v u Q I rx ry h
 obtain ⟨a,b,ra,rb,sa,sb,q⟩:=h
 obtain ⟨as,r1⟩:=ra.reads I v rx
 obtain ⟨bs,r2⟩:=rb.reads I u ry
 exact SeqAt.compareNe_shaped r1 r2 sa sb hu ⟨.bl _,H,I,rfl,q⟩
end
theorem gop_eq:GOp K (rEqD K false) gEq:=by
 intro x y H Q a b d ra rb e k
 unfold gEq at e
 split at e
 ·rename_i c
  cases e
  simp only [Bool.and_eq_true] at c
  exact ⟨a,b,ra,rb,c.1,c.2,k _ (.bl _)⟩
 ·cases e
theorem gop_ne:GOp K (rEqD K true) gNe:=by
 intro x y H Q a b d ra rb e k
 unfold gNe at e
 split at e
 ·rename_i c
  cases e
  simp only [Bool.and_eq_true] at c
  exact ⟨a,b,ra,rb,c.1,c.2,k _ (.bl _)⟩
 ·cases e
def gLtS:D->D->Option D
 | .str i,.str j=>some (.bool (decide (i.cps.toList<j.cps.toList)))
 | _,_=>none
abbrev gLtI:=gI0 fun i j=>.bool (decide (i<j))
abbrev gLt:D->D->Option D:=fun a b=>(gLtI a b).or (gLtS a b)
abbrev gLe:=gI0 fun i j=>.bool (decide (i<=j))
abbrev gGt:=gI0 fun i j=>.bool (decide (j<i))
abbrev gGe:=gI0 fun i j=>.bool (decide (j<=i))
theorem gop_ltS:GOp K (fun x y H Q=>∃i j,x=.str i/\y=.str j/\Q (.bl (decide (i.cps.toList<j.cps.toList))) H) gLtS:=by
 intro x y H Q a b d ra rb e k
 cases ra<;>cases rb<;>simp only [gLtS] at e<;>try cases e
 rename_i i j
 exact ⟨i,j,rfl,rfl,k _ (.bl _)⟩
theorem gop_lt:GOp K (fun x y H Q=>rI0 (fun i j=>.bl (decide (i<j))) x y H Q\/∃i j,x=.str i/\y=.str j/\Q (.bl (decide (i.cps.toList<j.cps.toList))) H) gLt:=
 (zEV fun _ _=>.bl _).or gop_ltS
open PySem.SeqAt in
def gIn (neg:Bool):D->D->Option D
 | a,.list xs=>if shaped a&&shaped (.list xs) then some (.bool (if neg then !xs.any fun y=>PyData.eqv y a else xs.any fun y=>PyData.eqv y a)) else none
 | a,.tuple xs=>if shaped a&&shaped (.tuple xs) then some (.bool (if neg then !xs.any fun y=>PyData.eqv y a else xs.any fun y=>PyData.eqv y a)) else none
 | _,_=>none
def rInD (K:Fg) (neg:Bool):R2:=fun x y H Q=>∃a b d,Rep K H x a/\Rep K H y b/\gIn neg a b=some (.bool d)/\Q (.bl d) H
theorem gop_in {neg:Bool}:GOp K (rInD K neg) (gIn neg):=by
 intro x y H Q a b d ra rb e k
 have:∃c,d=.bool c:=by
  cases b<;>simp only [gIn] at e<;>(try cases e)<;>(split at e<;>cases e<;>exact ⟨_,rfl⟩)
 obtain ⟨c,rfl⟩:=this
 exact ⟨a,b,c,ra,rb,e,k _ (.bl c)⟩
theorem zB7 {d:D} {xs:List D} (h:SeqAt.shaped d=true) (e:d=.list xs\/d=.tuple xs):PyData.canLayAll0 xs=true/\PyData.depthAll xs+1<=64:=by
 have h1:=SeqAt.canLay_of_shaped h
 have h2:=SeqAt.depth_of_shaped h
 rcases e with e | e<;>subst e<;>exact ⟨by simpa [PyData.canLay0] using h1,by simpa [PyData.depth] using h2⟩
section
variable {X:Cx}
theorem op_inD (hu:X.A.units+64<cLine):OpR X (compareOp .In) (rInD X.K false):=by
 intro pins s σ H x y v u Q I rx ry h
 obtain ⟨a,b,d,ra,rb,e,q⟩:=h
 obtain ⟨as,r1⟩:=ra.reads I v rx
 obtain ⟨bs,r2⟩:=rb.reads I u ry
 cases b<;>simp only [gIn] at e<;>try cases e
 all_goals
  split at e
  ·rename_i c
   simp only [Bool.and_eq_true] at c
   simp only [Option.some.injEq,PyData.bool.injEq] at e
   subst e
   first
    | (obtain ⟨p1,p2⟩:=zB7 c.2 (.inl rfl)
       exact SeqAt.in_list_reads r2 r1 p1 (SeqAt.canLay_of_shaped c.1) (Nat.lt_of_le_of_lt (by have:=Nat.min_le_left (PyData.depthAll ‹_›) a.depth;omega) hu) ⟨.bl _,H,I,rfl,q⟩)
    | (obtain ⟨p1,p2⟩:=zB7 c.2 (.inr rfl)
       exact SeqAt.in_tuple_reads r2 r1 p1 (SeqAt.canLay_of_shaped c.1) (Nat.lt_of_le_of_lt (by have:=Nat.min_le_left (PyData.depthAll ‹_›) a.depth;omega) hu) ⟨.bl _,H,I,rfl,q⟩)
  ·cases e
theorem op_notInD (hu:X.A.units+64<cLine):OpR X (compareOp .NotIn) (rInD X.K true):=by
 intro pins s σ H x y v u Q I rx ry h
 obtain ⟨a,b,d,ra,rb,e,q⟩:=h
 obtain ⟨as,r1⟩:=ra.reads I v rx
 obtain ⟨bs,r2⟩:=rb.reads I u ry
 cases b<;>simp only [gIn] at e<;>try cases e
 all_goals
  split at e
  ·rename_i c
   simp only [Bool.and_eq_true] at c
   simp only [Option.some.injEq,PyData.bool.injEq] at e
   subst e
   first
    | (obtain ⟨p1,p2⟩:=zB7 c.2 (.inl rfl)
       exact SeqAt.notIn_list_reads r2 r1 p1 (SeqAt.canLay_of_shaped c.1) (Nat.lt_of_le_of_lt (by have:=Nat.min_le_left (PyData.depthAll ‹_›) a.depth;omega) hu) ⟨.bl _,H,I,rfl,q⟩)
    | (obtain ⟨p1,p2⟩:=zB7 c.2 (.inr rfl)
       exact SeqAt.notIn_tuple_reads r2 r1 p1 (SeqAt.canLay_of_shaped c.1) (Nat.lt_of_le_of_lt (by have:=Nat.min_le_left (PyData.depthAll ‹_›) a.depth;omega) hu) ⟨.bl _,H,I,rfl,q⟩)
  ·cases e
end
def WantsB (K:Fg) (W:XW) (He:Hp) (O:List Addr) (Fs:List (List Addr)) (H:Hp) (σ:St) (Q:Bool->Hp->Prop) (o:Out Bool):Prop:=match o with
 | .ok b U'=>∀H' Fs',Same H H'->EnvOk K He O Fs' H' σ U'->(∀a∈Fs'.flatten,a∈Fs.flatten\/H a=none)->Q b H'
 | .er c U'=>∀H' Fs',Same H H'->EnvOk K He O Fs' H' σ U'->W c σ H'
 | .no=>False
abbrev FB:=Ev->Out Bool
def tT (K:Fg) (W:XW) (f:FB):TT:=fun σ H Q=>∃He O Fs U,EnvOk K He O Fs H σ U/\WantsB K W He O Fs H σ Q (f U)
section
variable {K:Fg} {W:XW} {He H H1:Hp} {O:List Addr} {Fs Fs1:List (List Addr)} {σ:St} {U U':Ev} {Q:VK} {QB:Bool->Hp->Prop}
theorem Wants.after {o:Out PV} (h:Wants K W He O Fs H σ Q o) (s:Same H H1) (n:∀a∈Fs1.flatten,a∈Fs.flatten\/H a=none):Wants K W He O Fs1 H1 σ Q o:=by
 cases o with
 | ok p U'=>exact fun v H' G Fs' A=>h v H' G Fs' ⟨s.trans A.same,A.env,fun a ha=>(A.new a ha).elim (n a) fun z=>.inr (s.free z),A.own⟩
 | er c U'=>exact fun H' Fs' e E=>h H' Fs' (s.trans e) E
 | no=>exact h
theorem WantsB.after {o:Out Bool} (h:WantsB K W He O Fs H σ QB o) (s:Same H H1) (n:∀a∈Fs1.flatten,a∈Fs.flatten\/H a=none):WantsB K W He O Fs1 H1 σ QB o:=by
 cases o with
 | ok p U'=>exact fun H' Fs' e E n'=>h H' Fs' (s.trans e) E fun a ha=>(n' a ha).elim (n a) fun z=>.inr (s.free z)
 | er c U'=>exact fun H' Fs' e E=>h H' Fs' (s.trans e) E
 | no=>exact h
theorem Aft.go {p:PV} {v:V} (A:Aft K He O Fs H σ U' p v H1 G Fs1):EnvOk K He O Fs1 H1 σ U':=A.env.dropL
theorem Aft.newF {p:PV} {v:V} (A:Aft K He O Fs H σ U' p v H1 G Fs1):∀a∈Fs1.flatten,a∈Fs.flatten\/H a=none:=fun a ha=>A.new a (mem_append_right _ ha)
end
section
variable {K:Fg} {W:XW} {σ:St} {H:Hp} {Q:VK} {QB:Bool->Hp->Prop} {fa fb fc:F1} {ga gb:FB}
def bOf (g:D->Option Bool) (f:F1):FB:=fun U=>(f U).bind fun p U'=>match g p.d with
 | some b=>.ok b U'
 | none=>.no
theorem tE_test {g:D->Option Bool} {R:VK} (h:tT K W (bOf g fa) σ H QB) (hR:∀v d b H1,Rep K H1 v d->g d=some b->QB b H1->R v H1):tE K W fa σ H R:=by
 obtain ⟨He,O,Fs,U,E,h⟩:=h
 refine ⟨He,O,Fs,U,E,?_⟩
 unfold bOf at h
 cases e:fa U with
 | ok p U'=>
  rw [e] at h
  intro v H' G Fs' A
  have h:WantsB K W He O Fs H σ QB (match g p.d with | some b=>.ok b U' | none=>.no):=h
  cases e2:g p.d with
  | some b=>
   rw [e2] at h
   exact hR v p.d b H' A.own.rep e2 (h H' Fs' A.same A.go A.newF)
  | none=>rw [e2] at h;exact h.elim
 | er c U'=>rw [e] at h;exact h
 | no=>rw [e] at h;exact h
def gBool:D->Option Bool
 | .bool b=>some b
 | _=>none
theorem rd_test {t:TE} (hi:∀Q,tE K W fa σ H Q->t σ H Q) (h:tT K W (bOf gBool fa) σ H QB):tTest t σ H QB:=by
 refine hi _ (tE_test h fun v d b H1 r e q=>?_)
 cases r<;>simp only [gBool] at e<;>try cases e
 exact ⟨_,rfl,q⟩
def gTru:D->Option Bool
 | .none=>some false
 | .bool b=>some b
 | .int i=>some (i != 0)
 | .str x=>if x.length<=sizeLine then some ((x.length:Int) != 0) else none
 | .list xs=>some (!xs.isEmpty)
 | .tuple xs=>some (!xs.isEmpty)
 | .dict _=>none
theorem rd_tru (h:tT K W (bOf gTru fa) σ H QB):tE K W fa σ H fun x H'=>∃k,TruV K x H' k/\QB k H':=by
 refine tE_test h fun v d b H1 r e q=>?_
 cases r with
 | non=>cases e;exact ⟨_,rfl,q⟩
 | bl c=>cases e;exact ⟨_,rfl,q⟩
 | int i=>cases e;exact ⟨_,rfl,q⟩
 | str x=>
  simp only [gTru] at e
  split at e
  ·rename_i z;cases e;exact ⟨_,⟨z,rfl⟩,q⟩
  ·cases e
 | @lst p vs ds hq hl _=>
  cases e
  exact ⟨_,.inl ⟨vs,hq,by cases vs<;>cases ds<;>simp_all⟩,q⟩
 | @tup p vs ds hq hl _=>
  cases e
  exact ⟨_,.inr (.inl ⟨vs,hq,by cases vs<;>cases ds<;>simp_all⟩),q⟩
def bAnd (a b:FB):FB:=fun U=>(a U).bind fun c U'=>if c then b U' else .ok false U'
def bOr (a b:FB):FB:=fun U=>(a U).bind fun c U'=>if c then .ok true U' else b U'
def bNot (a:FB):FB:=fun U=>(a U).bind fun c U'=>.ok (!c) U'
theorem zGP {k:Bool->Ev->Out Bool} {R:Bool->Hp->Prop} (h:tT K W (fun U=>(ga U).bind k) σ H QB)
  (hk:∀(He:Hp) (O:List Addr) U1 b H1 Fs1,Same H H1->EnvOk K He O Fs1 H1 σ U1->WantsB K W He O Fs1 H1 σ QB (k b U1)->R b H1):tT K W ga σ H R:=by
 obtain ⟨He,O,Fs,U,E,h⟩:=h
 have h:WantsB K W He O Fs H σ QB ((ga U).bind k):=h
 refine ⟨He,O,Fs,U,E,?_⟩
 cases e:ga U with
 | ok b U1=>rw [e] at h;exact fun H' Fs' s E' n=>hk He O U1 b H' Fs' s E' (WantsB.after (o:=k b U1) h s n)
 | er c U1=>rw [e] at h;exact h
 | no=>rw [e] at h;exact h
theorem WantsB.now {O:List Addr} {U:Ev} {b:Bool} (h:WantsB K W He O Fs H σ QB (.ok b U)) (E:EnvOk K He O Fs H σ U):QB b H:=h H Fs (Same.refl _) E fun _ z=>.inl z
theorem rd_bAnd (h:tT K W (bAnd ga gb) σ H QB):tAnd (tT K W ga) (tT K W gb) σ H QB:=by
 refine zGP h fun He O U1 b H1 Fs1 s E w=>?_
 cases b with
 | true=>exact iteT ⟨He,O,Fs1,U1,E,w⟩
 | false=>exact iteF (WantsB.now w E)
theorem rd_bOr (h:tT K W (bOr ga gb) σ H QB):tOr (tT K W ga) (tT K W gb) σ H QB:=by
 refine zGP h fun He O U1 b H1 Fs1 s E w=>?_
 cases b with
 | false=>exact iteF ⟨He,O,Fs1,U1,E,w⟩
 | true=>exact iteT (WantsB.now w E)
theorem rd_bNot (h:tT K W (bNot ga) σ H QB):tNot (tT K W ga) σ H QB:=zGP h fun He O U1 b H1 Fs1 s E w=>WantsB.now w E
def eAnd (fa fb:F1):F1:=eBind fa fun p U=>match p.d with
 | .bool true=>fb U
 | .bool false=>.ok ⟨.leaf,.bool false⟩ U
 | _=>.no
def eNot (fa:F1):F1:=eBind fa fun p U=>match p.d with
 | .bool b=>.ok ⟨.leaf,.bool (!b)⟩ U
 | _=>.no
theorem rd_and (h:tE K W (eAnd fa fb) σ H Q):tAndV (tE K W fa) (tE K W fb) σ H Q:=by
 refine zD8 h fun He O Fs U1 p v H1 G Fs1 nd A w=>?_
 have r:=A.own.rep
 obtain ⟨s,d⟩:=p
 cases r with
 | bl b=>
  cases b with
  | true=>exact ⟨true,rfl,iteT ⟨He,O,Fs1,U1,A.go,Wants.after w A.same A.newF⟩⟩
  | false=>exact ⟨false,rfl,iteF (Wants.scal w (.bl false) A.same A.env (fun a ha=>mem_append_right _ ha) nd A.newF)⟩
 | _=>exact w.elim
theorem rd_not (h:tE K W (eNot fa) σ H Q):tNotV (tE K W fa) σ H Q:=by
 refine zD8 h fun He O Fs U1 p v H1 G Fs1 nd A w=>?_
 have r:=A.own.rep
 obtain ⟨s,d⟩:=p
 cases r with
 | bl b=>exact ⟨b,rfl,Wants.scal w (.bl _) A.same A.env (fun a ha=>mem_append_right _ ha) nd A.newF⟩
 | _=>exact w.elim
def eIf (c:FB) (fa fb:F1):F1:=fun U=>(c U).bind fun b U'=>if b then fa U' else fb U'
theorem rd_if (h:tE K W (eIf ga fa fb) σ H Q):tIf (tT K W ga) (tE K W fa) (tE K W fb) σ H Q:=by
 obtain ⟨He,O,Fs,U,E,h⟩:=h
 refine ⟨He,O,Fs,U,E,?_⟩
 unfold eIf at h
 cases e:ga U with
 | ok b U1=>
  rw [e] at h
  intro H' Fs' s E' n
  have h':=Wants.after (o:=if b then fa U1 else fb U1) h s n
  cases b with
  | true=>exact iteT ⟨He,O,Fs',U1,E',h'⟩
  | false=>exact iteF ⟨He,O,Fs',U1,E',h'⟩
 | er c U1=>rw [e] at h;exact h
 | no=>rw [e] at h;exact h
def zC4 (g g':D->D->Option D) (fa fb fc:F1):F1:=eBind fa fun p=>eBind fb fun q=>fun U=>match g p.d q.d with
 | some (.bool true)=>if scalD q.d then (fc U).bind fun z U'=>(match g' q.d z.d with | some d=>.ok ⟨.leaf,d⟩ U' | none=>.no) else .no
 | some (.bool false)=>.ok ⟨.leaf,.bool false⟩ U
 | _=>.no
theorem rd_chain {r r':R2} {g g':D->D->Option D} (hg:GOp K r g) (hg':GOp K r' g') (h:tE K W (zC4 g g' fa fb fc) σ H Q):zGQ r r' (tE K W fa) (tE K W fb) (tE K W fc) σ H Q:=by
 refine zGA h ?_
 intro He O Fs U2 p q v u H1 H2 G1 G2 Fs2 nd s1 s2 E new o1 o2 w
 have sub:∀a∈O,a∈G2++(G1++O):=fun a ha=>mem_append_right _ (mem_append_right _ ha)
 have newF:∀a∈Fs2.flatten,a∈Fs.flatten\/H a=none:=fun a ha=>new a (mem_append_right _ (mem_append_right _ ha))
 cases e:g p.d q.d with
 | none=>rw [e] at w;exact w.elim
 | some d=>
  rw [e] at w
  refine hg v u H2 _ p.d q.d d o1.rep o2.rep e fun z s=>?_
  cases s with
  | bl b=>
   cases b with
   | false=>exact ⟨false,rfl,iteF (Wants.scal w (.bl false) (s1.trans s2) E sub nd newF)⟩
   | true=>
    refine ⟨true,rfl,iteT ?_⟩
    have w:Wants K W He O Fs H σ Q (if scalD q.d then (fc U2).bind fun z U'=>(match g' q.d z.d with | some d=>.ok ⟨.leaf,d⟩ U' | none=>.no) else .no):=w
    cases hs:scalD q.d with
    | false=>rw [hs] at w;exact w.elim
    | true=>
     rw [hs] at w
     have w:Wants K W He O Fs H σ Q ((fc U2).bind fun z U'=>(match g' q.d z.d with | some d=>.ok ⟨.leaf,d⟩ U' | none=>.no)):=w
     have su:=o2.rep.sc hs
     refine ⟨He,O,Fs2,U2,E.drop sub nd,?_⟩
     cases e3:fc U2 with
     | ok p3 U3=>
      rw [e3] at w
      intro v3 H3 G3 Fs3 A3
      have w:Wants K W He O Fs H σ Q (match g' q.d p3.d with | some d=>.ok ⟨.leaf,d⟩ U3 | none=>.no):=w
      cases e4:g' q.d p3.d with
      | none=>rw [e4] at w;exact w.elim
      | some d4=>
       rw [e4] at w
       exact hg' u v3 H3 Q q.d p3.d d4 su.rep A3.own.rep e4 fun z s=>Wants.scal w s ((s1.trans s2).trans A3.same) A3.env (fun a ha=>mem_append_right _ ha) nd fun a ha=>(A3.new a (mem_append_right _ ha)).elim (newF a) fun z=>.inr ((s1.trans s2).free z)
     | er c U3=>
      rw [e3] at w
      exact fun H' Fs' s E'=>w H' Fs' ((s1.trans s2).trans s) E'
     | no=>rw [e3] at w;exact w
  | non=>exact w.elim
  | int i=>exact w.elim
  | str x=>exact w.elim
end
structure AftL (K:Fg) (He:Hp) (O:List Addr) (Fs:List (List Addr)) (H:Hp) (σ:St) (U':Ev) (ps:List PV) (vs:List V) (H':Hp) (Gs Fs':List (List Addr)):Prop where
 same:Same H H'
 len1:vs.length=ps.length
 len2:Gs.length=ps.length
 env:EnvOk K He (Gs.flatten++O) Fs' H' σ U'
 new:∀a∈Gs.flatten++Fs'.flatten,a∈Fs.flatten\/H a=none
 own:∀(i:Nat) v p G,vs[i]?=some v->ps[i]?=some p->Gs[i]?=some G->Own K (Gs.flatten++O++Fs'.flatten) H' p.s G v p.d
abbrev FL:=Ev->Out (List PV)
def WantsL (K:Fg) (W:XW) (He:Hp) (O:List Addr) (Fs:List (List Addr)) (H:Hp) (σ:St) (Q:List V->Hp->Prop) (o:Out (List PV)):Prop:=match o with
 | .ok ps U'=>∀vs H' Gs Fs',AftL K He O Fs H σ U' ps vs H' Gs Fs'->Q vs H'
 | .er c U'=>∀H' Fs',Same H H'->EnvOk K He O Fs' H' σ U'->W c σ H'
 | .no=>False
def tA (K:Fg) (W:XW) (f:FL):TA:=fun σ H Q=>∃He O Fs U,EnvOk K He O Fs H σ U/\WantsL K W He O Fs H σ Q (f U)
def eNil:FL:=fun U=>.ok [] U
def eCons (fa:F1) (fl:FL):FL:=fun U=>(fa U).bind fun p U1=>(fl U1).bind fun ps U2=>.ok (p::ps) U2
section
variable {K:Fg} {W:XW} {σ:St} {H:Hp} {Q:VK} {QL:List V->Hp->Prop} {fa fb:F1} {fl:FL}
theorem rd_nil (h:tA K W eNil σ H QL):tNil σ H QL:=by
 obtain ⟨He,O,Fs,U,E,h⟩:=h
 exact h [] H [] Fs ⟨Same.refl _,rfl,rfl,by simpa using E,fun a ha=>.inl (by simpa using ha),fun i v p G e=>by simp at e⟩
theorem perm3 (A B C:List α):(A++(B++C)).Perm (B++(A++C)):=by
 rw [<-append_assoc,<-append_assoc];exact List.Perm.append_right _ perm_append_comm
theorem EnvOk.perm {H:Hp} {O:List Addr} {U:Ev} (E:EnvOk K He O Fs H σ U) (p:O'.Perm O):EnvOk K He O' Fs H σ U:=E.drop (fun a ha=>p.mem_iff.mp ha) (p.nodup_iff.mpr E.ndO)
theorem Own.perm {H:Hp} {O:List Addr} {s:Sh} {v:V} {d:D} (h:Own K O H s G v d) (p:∀a∈O',a∈O):Own K O' H s G v d:=h.mono (Same.refl _) fun a ha=>.inl (p a ha)
theorem rd_cons (h:tA K W (eCons fa fl) σ H QL):tCons (tE K W fa) (tA K W fl) σ H QL:=by
 obtain ⟨He,O,Fs,U,E,h⟩:=h
 refine ⟨He,O,Fs,U,E,?_⟩
 unfold eCons at h
 cases e:fa U with
 | ok p U1=>
  rw [e] at h
  intro v H1 G1 Fs1 A1
  refine ⟨He,G1++O,Fs1,U1,A1.env,?_⟩
  have h:WantsL K W He O Fs H σ QL ((fl U1).bind fun ps U2=>.ok (p::ps) U2):=h
  cases e2:fl U1 with
  | ok ps U2=>
   rw [e2] at h
   intro vs H2 Gs Fs2 A2
   have pm:((G1::Gs).flatten++O).Perm (Gs.flatten++(G1++O)):=by
    rw [flatten_cons,append_assoc]
    exact perm3 _ _ _
   refine h (v::vs) H2 (G1::Gs) Fs2 ⟨A1.same.trans A2.same,by simp [A2.len1],by simp [A2.len2],A2.env.perm pm,fun a ha=>?_,fun i u q G h1 h2 h3=>?_⟩
   ·rcases List.mem_append.mp ha with z | z
    ·rw [flatten_cons] at z
     rcases List.mem_append.mp z with z | z
     ·exact A1.new a (mem_append_left _ z)
     ·exact (A2.new a (mem_append_left _ z)).elim (fun y=>A1.new a (mem_append_right _ y)) fun y=>.inr (A1.same.free y)
    ·exact (A2.new a (mem_append_right _ z)).elim (fun y=>A1.new a (mem_append_right _ y)) fun y=>.inr (A1.same.free y)
   ·have sub:∀a∈(G1::Gs).flatten++O++Fs2.flatten,a∈Gs.flatten++(G1++O)++Fs2.flatten:=fun a ha=>by
     rcases List.mem_append.mp ha with z | z
     ·exact mem_append_left _ (pm.mem_iff.mp z)
     ·exact mem_append_right _ z
    cases i with
    | zero=>
     simp at h1 h2 h3
     subst h1 h2 h3
     refine (A1.own.mono A2.same fun a ha=>?_).perm sub
     rcases List.mem_append.mp ha with z | z
     ·rcases List.mem_append.mp z with z | z
      ·exact (A2.new a (mem_append_left _ z)).elim (fun y=>.inl (mem_append_right _ y)) .inr
      ·exact .inl (mem_append_left _ z)
     ·exact (A2.new a (mem_append_right _ z)).elim (fun y=>.inl (mem_append_right _ y)) .inr
    | succ i=>
     simp at h1 h2 h3
     exact (A2.own i u q G h1 h2 h3).perm sub
  | er c U2=>
   rw [e2] at h
   exact fun H2 Fs2 s E2=>h H2 Fs2 (A1.same.trans s) E2.dropL
  | no=>rw [e2] at h;exact h
 | er c U1=>rw [e] at h;exact h
 | no=>rw [e] at h;exact h
theorem AftL.reps {O:List Addr} {U':Ev} {ps:List PV} (A:AftL K He O Fs H σ U' ps vs H' Gs Fs'):Reps K H' vs (ps.map (·.d)):=by
 refine ⟨by rw [length_map];exact A.len1,fun i v d h1 h2=>?_⟩
 rw [getElem?_map] at h2
 cases e:ps[i]? with
 | none=>rw [e] at h2;cases h2
 | some p=>
  rw [e] at h2
  cases h2
  have hi:=(List.getElem?_eq_some_iff.mp e).1
  exact (A.own i v p (Gs[i]'(by rw [A.len2];exact hi)) h1 e (getElem?_eq_getElem _)).rep
def eCB (g:List D->Option D) (fl:FL):F1:=fun U=>(fl U).bind fun ps U'=>match g (ps.map (·.d)) with
 | some d=>.ok ⟨.leaf,d⟩ U'
 | none=>.no
def GCall (K:Fg) (r:List V->Hp->VK->Prop) (g:List D->Option D):Prop:=∀vs H Q ds d,Reps K H vs ds->g ds=some d->(∀v,Sc v d->Q v H)->r vs H Q
theorem rd_cb {r:List V->Hp->VK->Prop} {g:List D->Option D} (hg:GCall K r g) (h:tE K W (eCB g fl) σ H Q):tCB r (tA K W fl) σ H Q:=by
 obtain ⟨He,O,Fs,U,E,h⟩:=h
 refine ⟨He,O,Fs,U,E,?_⟩
 unfold eCB at h
 cases e:fl U with
 | ok ps U'=>
  rw [e] at h
  intro vs H' Gs Fs' A
  have h:Wants K W He O Fs H σ Q (match g (ps.map (·.d)) with | some d=>.ok ⟨.leaf,d⟩ U' | none=>.no):=h
  cases e2:g (ps.map (·.d)) with
  | none=>rw [e2] at h;exact h.elim
  | some d=>
   rw [e2] at h
   exact hg vs H' Q _ d A.reps e2 fun v s=>Wants.scal h s A.same A.env (fun a ha=>mem_append_right _ ha) E.ndO fun a ha=>A.new a (mem_append_right _ ha)
 | er c U'=>rw [e] at h;exact h
 | no=>rw [e] at h;exact h
theorem GCall.or {r r':List V->Hp->VK->Prop} {g g':List D->Option D} (h:GCall K r g) (h':GCall K r' g'):GCall K (fun xs H Q=>r xs H Q\/r' xs H Q) (fun ds=>(g ds).or (g' ds)):=by
 intro vs H Q ds d rs e k
 have e:(g ds).or (g' ds)=some d:=e
 cases e1:g ds with
 | some z=>rw [e1] at e;cases e;exact .inl (h vs H Q ds _ rs e1 k)
 | none=>rw [e1] at e;exact .inr (h' vs H Q ds d rs (by simpa using e) k)
theorem Reps.one {d:D} (h:Reps K H vs [d]):∃v,vs=[v]/\Rep K H v d:=by
 obtain ⟨hl,h⟩:=h
 match vs,hl with
 | [v],_=>exact ⟨v,rfl,h 0 v d rfl rfl⟩
theorem Reps.two {d e:D} (h:Reps K H vs [d,e]):∃v u,vs=[v,u]/\Rep K H v d/\Rep K H u e:=by
 obtain ⟨hl,h⟩:=h
 match vs,hl with
 | [v,u],_=>exact ⟨v,u,rfl,h 0 v d rfl rfl,h 1 u e rfl rfl⟩
end
def gLenQ:List D->Option D
 | [.list xs]=>some (.int xs.length)
 | [.tuple xs]=>some (.int xs.length)
 | _=>none
def gLenS:List D->Option D
 | [.str x]=>if x.length<=sizeLine then some (.int x.length) else none
 | _=>none
abbrev gLen:List D->Option D:=fun ds=>(gLenQ ds).or (gLenS ds)
theorem gc_len:GCall K (fun xs H Q=>(∃p ys,xs=[.ref p]/\(SqL K H p ys\/SqT K H p ys)/\Q (.int ys.length) H)\/∃z,xs=[.str z]/\z.length<=sizeLine/\Q (.int z.length) H) gLen:=by
 refine GCall.or (g:=gLenQ) (g':=gLenS) (r:=fun xs H Q=>∃p ys,xs=[.ref p]/\(SqL K H p ys\/SqT K H p ys)/\Q (.int ys.length) H) (r':=fun xs H Q=>∃z,xs=[.str z]/\z.length<=sizeLine/\Q (.int z.length) H) ?_ ?_
 ·intro vs H Q ds d rs e k
  match ds,e with
  | [.list xs],e=>
   obtain ⟨v,rfl,r⟩:=rs.one
   cases e
   cases r with
   | @lst p us _ hq hl _=>exact ⟨p,us,rfl,.inl hq,by rw [hl];exact k _ (.int _)⟩
  | [.tuple xs],e=>
   obtain ⟨v,rfl,r⟩:=rs.one
   cases e
   cases r with
   | @tup p us _ hq hl _=>exact ⟨p,us,rfl,.inr hq,by rw [hl];exact k _ (.int _)⟩
 ·intro vs H Q ds d rs e k
  match ds,e with
  | [.str x],e=>
   obtain ⟨v,rfl,r⟩:=rs.one
   simp only [gLenS] at e
   split at e
   ·rename_i z
    cases e
    cases r
    exact ⟨x,rfl,z,k _ (.int _)⟩
   ·cases e
def gInt:List D->Option D
 | [.int i]=>some (.int i)
 | [.bool b]=>some (.int (if b then 1 else 0))
 | _=>none
theorem gc_int:GCall K (fun xs H Q=>(∃i,xs=[.int i]/\Q (.int i) H)\/∃k,xs=[.bl k]/\Q (.int (if k then 1 else 0)) H) gInt:=by
 intro vs H Q ds d rs e k
 match ds,e with
 | [.int i],e=>
  obtain ⟨v,rfl,r⟩:=rs.one
  cases e;cases r
  exact .inl ⟨i,rfl,k _ (.int _)⟩
 | [.bool b],e=>
  obtain ⟨v,rfl,r⟩:=rs.one
  cases e;cases r
  exact .inr ⟨b,rfl,k _ (.int _)⟩
def gMax:List D->Option D
 | [.int i,.int j]=>some (.int (if j>i then j else i))
 | _=>none
theorem gc_max:GCall K (fun xs H Q=>∃i j,xs=[.int i,.int j]/\Q (.int (if j>i then j else i)) H) gMax:=by
 intro vs H Q ds d rs e k
 match ds,e with
 | [.int i,.int j],e=>
  obtain ⟨v,u,rfl,r,r'⟩:=rs.two
  cases e;cases r;cases r'
  exact ⟨i,j,rfl,k _ (.int _)⟩
def zBP:List D->Option (List Bool)
 | []=>some []
 | .bool b::r=>(zBP r).map (b :: ·)
 | _=>none
theorem boolsOf_eq:∀{ds:List D} {bs:List Bool},zBP ds=some bs->ds=bs.map PyData.bool
 | [],bs,h=>by cases h;rfl
 | .bool b::r,bs,h=>by
  simp only [zBP] at h
  cases e:zBP r with
  | none=>rw [e] at h;cases h
  | some cs=>rw [e] at h;cases h;rw [boolsOf_eq e];rfl
 | .none::_,_,h=>by cases h
 | .int _::_,_,h=>by cases h
 | .str _::_,_,h=>by cases h
 | .list _::_,_,h=>by cases h
 | .tuple _::_,_,h=>by cases h
 | .dict _::_,_,h=>by cases h
def gAll (any:Bool):List D->Option D
 | [.list xs]=>(zBP xs).map fun bs=>.bool (if any then bs.any id else bs.all id)
 | _=>none
theorem reps_bools {K:Fg} {H:Hp}:∀{vs:List V} {bs:List Bool},Reps K H vs (bs.map PyData.bool)->vs=bs.map V.bl
 | [],[],_=>rfl
 | v::vs,b::bs,⟨hl,h⟩=>by
  have r:=h 0 v (.bool b) rfl rfl
  cases r
  rw [reps_bools (bs:=bs) (vs:=vs) ⟨by simpa using hl,fun i v d h1 h2=>h (i+1) v d (by simpa using h1) (by simpa using h2)⟩]
  rfl
 | [],_::_,⟨hl,_⟩=>by simp at hl
 | _::_,[],⟨hl,_⟩=>by simp at hl
def rAll (K:Fg) (any:Bool):List V->Hp->VK->Prop:=fun xs H Q=>∃(p:Addr) (bs:List Bool),xs=[.ref p]/\SqL K H p (bs.map V.bl)/\Q (.bl (if any then bs.any id else bs.all id)) H
theorem gc_all {any:Bool}:GCall K (rAll K any) (gAll any):=by
 intro vs H Q ds d rs e k
 match ds,e with
 | [.list xs],e=>
  obtain ⟨v,rfl,r⟩:=rs.one
  simp only [gAll] at e
  cases eb:zBP xs with
  | none=>rw [eb] at e;cases e
  | some bs=>
   rw [eb] at e
   cases e
   have:=boolsOf_eq eb
   subst this
   cases r with
   | @lst p us _ hq hl hr=>
    have:=reps_bools ⟨hl,hr⟩
    subst this
    exact ⟨p,bs,rfl,hq,k _ (.bl _)⟩
section
variable {X:Cx}
theorem bools_its:∀{its:List Value},Vals (bs.map V.bl) its->its=bs.map Value.bool:=by
 induction bs with
 | nil=>intro its h;cases h;rfl
 | cons b bs ih=>
  intro its h
  cases h with
  | cons r t=>
   cases (show _=Value.bool b from r)
   rw [ih t];rfl
theorem range_all (bs:List Bool):(List.range bs.length).all (fun i=>bs.getD i false)=bs.all id:=by
 rw [Bool.eq_iff_iff,all_eq_true,all_eq_true]
 constructor
 ·intro h b hb
  obtain ⟨i,hi,e⟩:=List.mem_iff_getElem.mp hb
  have:=h i (List.mem_range.mpr hi)
  rw [getD_eq_getElem?_getD,getElem?_eq_getElem hi] at this
  rw [<-e];simpa using this
 ·intro h i hi
  have hi:=List.mem_range.mp hi
  rw [getD_eq_getElem?_getD,getElem?_eq_getElem hi]
  exact h _ (getElem_mem hi)
theorem range_any (bs:List Bool):(List.range bs.length).any (fun i=>bs.getD i false)=bs.any id:=by
 rw [Bool.eq_iff_iff,any_eq_true,any_eq_true]
 constructor
 ·rintro ⟨i,hi,h⟩
  have hi:=List.mem_range.mp hi
  rw [getD_eq_getElem?_getD,getElem?_eq_getElem hi] at h
  exact ⟨_,getElem_mem hi,h⟩
 ·rintro ⟨b,hb,h⟩
  obtain ⟨i,hi,e⟩:=List.mem_iff_getElem.mp hb
  refine ⟨i,List.mem_range.mpr hi,?_⟩
  rw [getD_eq_getElem?_getD,getElem?_eq_getElem hi,e]
  exact h
theorem truth_bools {prog:Program} {w:World}:TruthOf prog w A (fun i v=>(bs.map Value.bool).toArray[i]?=some v) (fun i=>bs.getD i false):=by
 intro i v s Q E hP hQ
 simp only [List.getElem?_toArray,getElem?_map] at hP
 cases e:bs[i]? with
 | none=>rw [e] at hP;cases hP
 | some b=>
  rw [e] at hP
  cases hP
  have hQ:Q (bs.getD i false) s:=hQ
  rw [getD_eq_getElem?_getD,e] at hQ
  exact wpAny_truthy_bool hQ
theorem call_allD (hc:X.calm=true):CallR X (.builtin "all") (rAll X.K false):=by
 intro pins s σ H vs us Q I rv h
 obtain ⟨p,bs,rfl,hq,q⟩:=h
 obtain ⟨u,rfl,ru⟩:=vals1 rv
 cases ru
 obtain ⟨its,rv,pl,hz⟩:=I.list hq
 have:=bools_its rv
 subst this
 have hd:=I.ok.hd hc
 refine call_all_walk (wpAny_pyIter_list pl.isList ?_)
 have ne:p≠s.heap.objs.size:=by
  obtain ⟨o,n,e,_⟩:=pl
  exact Nat.ne_of_lt (Heap.lt_size e)
 refine ⟨s.heap.objs.size,_,_,_,_,_,fun i=>bs.getD i false,rfl,Walks.list (prog:=X.prog) (w:=X.w) (A:=X.A.in1) hd s.heap.objs.size p ne (bs.map Value.bool).toArray,⟨⟨_,Heap.get?_push_size _ rfl,rfl,rfl⟩,pl.isList.at fun o e=>Heap.get?_push_of_some _ e⟩,truth_bools,fun h' tk hk=>?_⟩
 refine ⟨.bl _,H,I.kept (h':=h') (t':=tk) fun b o e=>hk b o (fun z=>?_) (Heap.get?_push_of_some _ e),rfl,?_⟩
 ·have z:b=s.heap.objs.size:=by simpa using z
  exact absurd (Heap.lt_size e) (by rw [z];exact Nat.lt_irrefl _)
 ·rw [size_toArray,length_map,range_all]
  exact q
theorem call_anyD (hc:X.calm=true):CallR X (.builtin "any") (rAll X.K true):=by
 intro pins s σ H vs us Q I rv h
 obtain ⟨p,bs,rfl,hq,q⟩:=h
 obtain ⟨u,rfl,ru⟩:=vals1 rv
 cases ru
 obtain ⟨its,rv,pl,hz⟩:=I.list hq
 have:=bools_its rv
 subst this
 have hd:=I.ok.hd hc
 refine call_any_walk (wpAny_pyIter_list pl.isList ?_)
 have ne:p≠s.heap.objs.size:=by
  obtain ⟨o,n,e,_⟩:=pl
  exact Nat.ne_of_lt (Heap.lt_size e)
 refine ⟨s.heap.objs.size,_,_,_,_,_,fun i=>bs.getD i false,rfl,Walks.list (prog:=X.prog) (w:=X.w) (A:=X.A.in1) hd s.heap.objs.size p ne (bs.map Value.bool).toArray,⟨⟨_,Heap.get?_push_size _ rfl,rfl,rfl⟩,pl.isList.at fun o e=>Heap.get?_push_of_some _ e⟩,truth_bools,fun h' tk hk=>?_⟩
 refine ⟨.bl _,H,I.kept (h':=h') (t':=tk) fun b o e=>hk b o (fun z=>?_) (Heap.get?_push_of_some _ e),rfl,?_⟩
 ·have z:b=s.heap.objs.size:=by simpa using z
  exact absurd (Heap.lt_size e) (by rw [z];exact Nat.lt_irrefl _)
 ·rw [size_toArray,length_map,range_any]
  exact q
end
def zBQ (s:Sh) (j:Nat) (d:D):Option Sh:=match s with
 | .leaf=>some .leaf
 | .view=>some (if scalD d then .leaf else .view)
 | .lst s=>some s
 | .tup ss=>ss[j]?
def eIdx (fa fb:F1):F1:=eBind fa fun p=>eBind fb fun q=>fun U=>match q.d with
 | .int i=>(match p.d with
  | .list ds=>(match ixN ds.length i with
   | some j=>(match ds[j]? with
    | some d=>(match zBQ p.s j d with
     | some s=>.ok ⟨s,d⟩ U
     | none=>.no)
    | none=>.no)
   | none=>.no)
  | .tuple ds=>(match ixN ds.length i with
   | some j=>(match ds[j]? with
    | some d=>(match zBQ p.s j d with
     | some s=>.ok ⟨s,d⟩ U
     | none=>.no)
    | none=>.no)
   | none=>.no)
  | .str z=>if z.length<=sizeLine then (match atI z.cps.toList i with
   | some c=>.ok ⟨.leaf,.str ⟨#[c]⟩⟩ U
   | none=>.no) else .no
  | _=>.no)
 | _=>.no
theorem Own.item {O:List Addr} {H:Hp} {s s':Sh} {p:Addr} {ds:List D} {j:Nat} {d:D} (h:Own K O H s G (.ref p) (.list ds)) (hd:ds[j]?=some d) (hs:zBQ s j d=some s') :
  ∃vs v G',SqL K H p vs/\vs.length=ds.length/\vs[j]?=some v/\(∀a∈G',a∈G)/\G'.Nodup/\Own K O H s' G' v d:=by
 have hi:=(List.getElem?_eq_some_iff.mp hd).1
 cases h with
 | view r=>
  cases r with
  | @lst _ vs _ hq hl hr=>
   have hv:vs[j]?=some (vs[j]'(by omega)):=getElem?_eq_getElem _
   have r':=hr j _ d hv hd
   simp only [zBQ,Option.some.injEq] at hs
   cases e:scalD d with
   | true=>
    rw [e] at hs
    cases hs
    exact ⟨vs,_,[],hq,hl,hv,(fun _ z=>nomatch z),nodup_nil,.leaf (r'.sc e).rep⟩
   | false=>
    rw [e] at hs
    cases hs
    exact ⟨vs,_,[],hq,hl,hv,(fun _ z=>nomatch z),nodup_nil,.view r'⟩
 | leaf r=>
  cases r with
  | @lst _ vs _ hq hl hr=>
   have hv:vs[j]?=some (vs[j]'(by omega)):=getElem?_eq_getElem _
   cases hs
   exact ⟨vs,_,[],hid_le.seq hq,hl,hv,(fun _ z=>nomatch z),nodup_nil,.leaf (hr j _ d hv hd)⟩
 | @lst s₀ _ vs _ Fs hv hp hl hf nd hr=>
  have hv':vs[j]?=some (vs[j]'(by omega)):=getElem?_eq_getElem _
  have hF:Fs[j]?=some (Fs[j]'(by omega)):=getElem?_eq_getElem _
  cases hs
  refine ⟨vs,_,_,.of hp,hl,hv',fun a ha=>mem_cons_of_mem _ (zA0 hF ha),?_,hr j _ d _ hv' hd hF⟩
  exact ((List.nodup_cons.mp nd).2).sublist (List.sublist_flatten_of_mem (mem_of_getElem? hF))
theorem Own.itemT {O:List Addr} {H:Hp} {s s':Sh} {p:Addr} {ds:List D} {j:Nat} {d:D} (h:Own K O H s G (.ref p) (.tuple ds)) (hd:ds[j]?=some d) (hs:zBQ s j d=some s') :
  ∃vs v G',SqT K H p vs/\vs.length=ds.length/\vs[j]?=some v/\(∀a∈G',a∈G)/\G'.Nodup/\Own K O H s' G' v d:=by
 have hi:=(List.getElem?_eq_some_iff.mp hd).1
 cases h with
 | view r=>
  cases r with
  | @tup _ vs _ hq hl hr=>
   have hv:vs[j]?=some (vs[j]'(by omega)):=getElem?_eq_getElem _
   have r':=hr j _ d hv hd
   simp only [zBQ,Option.some.injEq] at hs
   cases e:scalD d with
   | true=>
    rw [e] at hs
    cases hs
    exact ⟨vs,_,[],hq,hl,hv,(fun _ z=>nomatch z),nodup_nil,.leaf (r'.sc e).rep⟩
   | false=>
    rw [e] at hs
    cases hs
    exact ⟨vs,_,[],hq,hl,hv,(fun _ z=>nomatch z),nodup_nil,.view r'⟩
 | leaf r=>
  cases r with
  | @tup _ vs _ hq hl hr=>
   have hv:vs[j]?=some (vs[j]'(by omega)):=getElem?_eq_getElem _
   cases hs
   exact ⟨vs,_,[],SameT hid_le hq,hl,hv,(fun _ z=>nomatch z),nodup_nil,.leaf (hr j _ d hv hd)⟩
 | @tup ss _ vs _ Fs hv hp hn hl hf hl2 nd hr=>
  have hv':vs[j]?=some (vs[j]'(by omega)):=getElem?_eq_getElem _
  have hF:Fs[j]?=some (Fs[j]'(by omega)):=getElem?_eq_getElem _
  have hs:ss[j]?=some s':=hs
  refine ⟨vs,_,_,.of hp,hl,hv',fun a ha=>zA0 hF ha,?_,hr j _ d _ _ hv' hd hF hs⟩
  exact nd.sublist (List.sublist_flatten_of_mem (mem_of_getElem? hF))
theorem Wants.part {W:XW} {H:Hp} {O G':List Addr} {U':Ev} {Q:VK} {s:Sh} {v:V} {d:D} (h:Wants K W He O Fs H σ Q (.ok ⟨s,d⟩ U')) (e:Same H H2)
  (E:EnvOk K He (G++O) Fs2 H2 σ U') (sub:∀a∈G',a∈G) (nd:G'.Nodup) (new:∀a∈G++Fs2.flatten,a∈Fs.flatten\/H a=none) (o:Own K (G++O++Fs2.flatten) H2 s G' v d):Q v H2:=by
 have sub2:∀a∈G'++O,a∈G++O:=fun a ha=>by
  rcases List.mem_append.mp ha with z | z
  ·exact mem_append_left _ (sub a z)
  ·exact mem_append_right _ z
 obtain ⟨n1,n2,n3⟩:=List.nodup_append.mp E.ndO
 refine h v H2 G' Fs2 ⟨e,E.drop sub2 (List.nodup_append.mpr ⟨nd,n2,fun a ha b hb=>n3 a (sub a ha) b hb⟩),fun a ha=>new a ?_,o.perm fun a ha=>?_⟩
 ·rcases List.mem_append.mp ha with z | z
  ·exact mem_append_left _ (sub a z)
  ·exact mem_append_right _ z
 ·rcases List.mem_append.mp ha with z | z
  ·exact mem_append_left _ (sub2 a z)
  ·exact mem_append_right _ z
theorem zG1 {β:Type} {xs:List α} {ys:List β} {i:Int} {j:Nat} {v:α} (hl:xs.length=ys.length) (h:ixN ys.length i=some j) (hv:xs[j]?=some v):atI xs i=some v:=by
 unfold atI
 rw [hl,h]
 exact hv
section
variable {K:Fg} {W:XW} {σ:St} {H:Hp} {Q:VK} {fa fb:F1}
theorem rd_idx (h:tE K W (eIdx fa fb) σ H Q):tOp (rIx K) (tE K W fa) (tE K W fb) σ H Q:=by
 refine zGA h ?_
 intro He O Fs U2 p q v u H1 H2 G1 G2 Fs2 nd s1 s2 E new o1 o2 w
 obtain ⟨ps,pd⟩:=p
 obtain ⟨qs,qd⟩:=q
 have ri:=o2.rep
 cases qd<;>try exact w.elim
 rename_i i
 cases ri
 have E':EnvOk K He ((G2++G1)++O) Fs2 H2 σ U2:=by rw [append_assoc];exact E
 have new':∀a∈(G2++G1)++Fs2.flatten,a∈Fs.flatten\/H a=none:=fun a ha=>new a (by rw [<-append_assoc];exact ha)
 have o1':Own K ((G2++G1)++O++Fs2.flatten) H2 ps G1 v pd:=o1.perm fun a ha=>by rw [append_assoc G2] at ha;exact ha
 have rp:=o1.rep
 cases pd with
 | list ds=>
  obtain ⟨p0,rfl⟩:∃p0,v=.ref p0:=by cases rp;exact ⟨_,rfl⟩
  have w:Wants K W He O Fs H σ Q (match ixN ds.length i with | some j=>(match ds[j]? with | some d=>(match zBQ ps j d with | some s=>.ok ⟨s,d⟩ U2 | none=>.no) | none=>.no) | none=>.no):=w
  cases e1:ixN ds.length i with
  | none=>rw [e1] at w;exact w.elim
  | some j=>
   rw [e1] at w
   have w:Wants K W He O Fs H σ Q (match ds[j]? with | some d=>(match zBQ ps j d with | some s=>.ok ⟨s,d⟩ U2 | none=>.no) | none=>.no):=w
   cases e2:ds[j]? with
   | none=>rw [e2] at w;exact w.elim
   | some d=>
    rw [e2] at w
    have w:Wants K W He O Fs H σ Q (match zBQ ps j d with | some s=>.ok ⟨s,d⟩ U2 | none=>.no):=w
    cases e3:zBQ ps j d with
    | none=>rw [e3] at w;exact w.elim
    | some s=>
     rw [e3] at w
     obtain ⟨vs,v',G',h1,h2,h3,h4,h5,h6⟩:=o1'.item e2 e3
     exact .inl ⟨p0,vs,i,v',rfl,rfl,h1,zG1 h2 e1 h3,Wants.part w (s1.trans s2) E' (fun a ha=>mem_append_right _ (h4 a ha)) h5 new' h6⟩
 | tuple ds=>
  obtain ⟨p0,rfl⟩:∃p0,v=.ref p0:=by cases rp;exact ⟨_,rfl⟩
  have w:Wants K W He O Fs H σ Q (match ixN ds.length i with | some j=>(match ds[j]? with | some d=>(match zBQ ps j d with | some s=>.ok ⟨s,d⟩ U2 | none=>.no) | none=>.no) | none=>.no):=w
  cases e1:ixN ds.length i with
  | none=>rw [e1] at w;exact w.elim
  | some j=>
   rw [e1] at w
   have w:Wants K W He O Fs H σ Q (match ds[j]? with | some d=>(match zBQ ps j d with | some s=>.ok ⟨s,d⟩ U2 | none=>.no) | none=>.no):=w
   cases e2:ds[j]? with
   | none=>rw [e2] at w;exact w.elim
   | some d=>
    rw [e2] at w
    have w:Wants K W He O Fs H σ Q (match zBQ ps j d with | some s=>.ok ⟨s,d⟩ U2 | none=>.no):=w
    cases e3:zBQ ps j d with
    | none=>rw [e3] at w;exact w.elim
    | some s=>
     rw [e3] at w
     obtain ⟨vs,v',G',h1,h2,h3,h4,h5,h6⟩:=o1'.itemT e2 e3
     exact .inr (.inl ⟨p0,vs,i,v',rfl,rfl,h1,zG1 h2 e1 h3,Wants.part w (s1.trans s2) E' (fun a ha=>mem_append_right _ (h4 a ha)) h5 new' h6⟩)
 | str z=>
  cases rp
  have w:Wants K W He O Fs H σ Q (if z.length<=sizeLine then (match atI z.cps.toList i with | some c=>.ok ⟨.leaf,.str ⟨#[c]⟩⟩ U2 | none=>.no) else .no):=w
  by_cases hz:z.length<=sizeLine
  ·rw [if_pos hz] at w
   cases e1:atI z.cps.toList i with
   | none=>rw [e1] at w;exact w.elim
   | some c=>
    rw [e1] at w
    exact .inr (.inr ⟨z,i,c,rfl,rfl,hz,e1,Wants.scal w (.str _) (s1.trans s2) E (fun a ha=>mem_append_right _ (mem_append_right _ ha)) nd fun a ha=>new a (mem_append_right _ (mem_append_right _ ha))⟩)
  ·rw [if_neg hz] at w
   exact w.elim
 | none=>exact w.elim
 | bool b=>exact w.elim
 | int k=>exact w.elim
 | dict k=>exact w.elim
end
theorem keep_sub (s:Sh):∀Gs:List (List Addr),((Gs.map (keepG s)).flatten).Sublist Gs.flatten
 | []=>List.Sublist.refl _
 | G::Gs=>by
  simp only [map_cons,flatten_cons]
  refine List.Sublist.append ?_ (keep_sub s Gs)
  unfold keepG
  split
  ·exact List.nil_sublist _
  ·exact List.Sublist.refl _
theorem keep_leaf:∀Gs:List (List Addr),(Gs.map (keepG .leaf)).flatten=[]
 | []=>rfl
 | _::Gs=>by simp only [map_cons,flatten_cons,keep_leaf Gs];rfl
section
variable {K:Fg} {W:XW} {σ:St} {He H H':Hp} {O:List Addr} {Fs Fs' Gs:List (List Addr)} {U':Ev} {ps:List PV} {vs:List V} {Q:VK}
theorem AftL.newList {s:Sh} {p:Addr} (A:AftL K He O Fs H σ U' ps vs H' Gs Fs') (hs:s.isView=false) (hc:ps.all (T.coer s)=true) (hp:H' p=none) :
  Aft K He O Fs H σ U' ⟨.lst s,.list (ps.map (·.d))⟩ (.ref p) (upd H' p (.lst vs)) (p::(Gs.map (keepG s)).flatten) Fs':=by
 obtain ⟨n1,n2,n3⟩:=List.nodup_append.mp A.env.ndO
 obtain ⟨m1,m2,m3⟩:=List.nodup_append.mp A.env.nd
 have hsub:=keep_sub s Gs
 have E1:EnvOk K He ((Gs.map (keepG s)).flatten++O) Fs' H' σ U':=A.env.drop (fun a ha=>by
   rcases List.mem_append.mp ha with z | z
   ·exact mem_append_left _ (hsub.subset z)
   ·exact mem_append_right _ z) (List.nodup_append.mpr ⟨n1.sublist hsub,n2,fun a ha b hb=>n3 a (hsub.subset ha) b hb⟩)
 have E2:=E1.hide (G:=[p]) (zAG (o:=.lst vs) hp) (by simp) (fun a ha=>by simp at ha;rw [ha];exact hp) (fun a ha=>by simp at ha;rw [ha,zAF];exact Option.some_ne_none _)
 have pn:∀{a},a∈Gs.flatten++O++Fs'.flatten->a≠p:=fun {a} ha z=>A.env.inH a ha (by rw [z];exact hp)
 refine ⟨A.same.trans (zAG hp),E2,fun a ha=>?_,?_⟩
 ·rcases List.mem_append.mp ha with z | z
  ·rcases List.mem_cons.mp z with z | z
   ·rw [z];exact .inr (A.same.free hp)
   ·exact A.new a (mem_append_left _ (hsub.subset z))
  ·exact A.new a (mem_append_right _ z)
 ·refine .lst hs zAF (by rw [length_map];exact A.len1) (by rw [length_map,length_map];exact A.len2) ?_ fun i v d F h1 h2 h3=>?_
  ·refine List.nodup_cons.mpr ⟨fun z=>pn (mem_append_left _ (mem_append_left _ (hsub.subset z))) rfl,n1.sublist hsub⟩
  ·rw [getElem?_map] at h2 h3
   cases e2:ps[i]? with
   | none=>rw [e2] at h2;cases h2
   | some q=>
    cases e3:Gs[i]? with
    | none=>rw [e3] at h3;cases h3
    | some G=>
     rw [e2] at h2
     rw [e3] at h3
     cases h2
     cases h3
     have cq:T.coer s q=true:=List.all_eq_true.mp hc q (mem_of_getElem? e2)
     have o1:=(A.own i v q G h1 e2 e3).mono (O':=p::(Gs.flatten++O++Fs'.flatten)) (zAG (o:=.lst vs) hp) fun a ha=>by
      rcases List.mem_cons.mp ha with z | z
      ·rw [z];exact .inr hp
      ·exact .inl z
     refine o1.coer cq (fun a ha=>?_) fun a ha hO=>?_
     ·rw [append_assoc] at ha
      rcases List.mem_append.mp ha with z | z
      ·rcases List.mem_cons.mp z with z | z
       ·rw [z];exact mem_cons_self
       ·exact mem_cons_of_mem _ (mem_append_left _ (mem_append_left _ (hsub.subset z)))
      ·rcases List.mem_append.mp z with z | z
       ·exact mem_cons_of_mem _ (mem_append_left _ (mem_append_right _ z))
       ·exact mem_cons_of_mem _ (mem_append_right _ z)
     ·have hG:a∈Gs.flatten:=zA0 e3 ha
      cases s with
      | leaf=>
       rw [keep_leaf] at hO
       exfalso
       rw [append_assoc] at hO
       rcases List.mem_append.mp hO with z | z
       ·have z:a=p:=by simpa using z
        exact pn (mem_append_left _ (mem_append_left _ hG)) z
       ·rcases List.mem_append.mp z with z | z
        ·exact n3 a hG a z rfl
        ·exact m3 a (mem_append_left _ hG) a z rfl
      | view=>cases hs
      | lst s=>exact ha
      | tup ss=>exact ha
def eList (s:Sh) (fl:FL):F1:=fun U=>(fl U).bind fun ps U'=>if !s.isView&&ps.all (T.coer s)&&decide (ps.length<=sizeLine) then .ok ⟨.lst s,.list (ps.map (·.d))⟩ U' else .no
theorem rd_list {s:Sh} {fl:FL} (h:tE K W (eList s fl) σ H Q):tLst (tA K W fl) σ H Q:=by
 obtain ⟨He,O,Fs,U,E,h⟩:=h
 refine ⟨He,O,Fs,U,E,?_⟩
 unfold eList at h
 cases e:fl U with
 | ok ps U'=>
  rw [e] at h
  intro vs H' Gs Fs' A
  have h:Wants K W He O Fs H σ Q (if (!s.isView&&ps.all (T.coer s)&&decide (ps.length<=sizeLine))=true then .ok ⟨.lst s,.list (ps.map (·.d))⟩ U' else .no):=h
  by_cases hc:(!s.isView&&ps.all (T.coer s)&&decide (ps.length<=sizeLine))=true
  ·rw [if_pos hc] at h
   simp only [Bool.and_eq_true,decide_eq_true_eq,Bool.not_eq_true'] at hc
   exact ⟨by rw [A.len1];exact hc.2,fun p hp=>h _ _ _ _ (A.newList hc.1.1 hc.1.2 hp)⟩
  ·rw [if_neg hc] at h
   exact h.elim
 | er c U'=>rw [e] at h;exact h
 | no=>rw [e] at h;exact h
def tsh (p:PV):Sh:=if p.s.isView then .leaf else p.s
def tok (p:PV):Bool:=!p.s.isView||scalD p.d
theorem AftL.newTup {p:Addr} (A:AftL K He O Fs H σ U' ps vs H' Gs Fs') (hc:ps.all tok=true) (hp:H' p=none) :
  Aft K He O Fs H σ U' ⟨.tup (ps.map tsh),.tuple (ps.map (·.d))⟩ (.ref p) (upd H' p (.tup vs)) Gs.flatten Fs':=by
 obtain ⟨n1,n2,n3⟩:=List.nodup_append.mp A.env.ndO
 have pn:p∉Gs.flatten++O++Fs'.flatten:=fun ha=>A.env.inH p ha hp
 refine ⟨A.same.trans (zAG hp),A.env.grow (zAG hp),A.new,?_⟩
 refine .tup (fun s hs=>?_) zAF pn (by rw [length_map];exact A.len1) (by rw [length_map];exact A.len2) (by rw [length_map,length_map]) n1 fun i v d F s h1 h2 h3 h4=>?_
 ·obtain ⟨q,_,rfl⟩:=List.mem_map.mp hs
  unfold tsh
  split
  ·rfl
  ·rename_i z;simpa using z
 ·rw [getElem?_map] at h2 h4
  cases e2:ps[i]? with
  | none=>rw [e2] at h2;cases h2
  | some q=>
   rw [e2] at h2 h4
   cases h2
   cases h4
   have cq:tok q=true:=List.all_eq_true.mp hc q (mem_of_getElem? e2)
   have o1:=(A.own i v q F h1 e2 h3).mono (O':=Gs.flatten++O++Fs'.flatten) (zAG (o:=.tup vs) hp) fun a ha=>.inl ha
   unfold tsh
   cases hv:q.s.isView with
   | false=>exact o1
   | true=>
    unfold tok at cq
    rw [hv] at cq
    obtain ⟨s,d⟩:=q
    cases s with
    | view=>
     cases o1 with
     | view r=>exact .leaf (r.sc (by simpa using cq)).rep
    | _=>cases hv
def eTup (fl:FL):F1:=fun U=>(fl U).bind fun ps U'=>if ps.all tok&&decide (ps.length<=sizeLine) then .ok ⟨.tup (ps.map tsh),.tuple (ps.map (·.d))⟩ U' else .no
theorem rd_tup {fl:FL} (h:tE K W (eTup fl) σ H Q):tTup (tA K W fl) σ H Q:=by
 obtain ⟨He,O,Fs,U,E,h⟩:=h
 refine ⟨He,O,Fs,U,E,?_⟩
 unfold eTup at h
 cases e:fl U with
 | ok ps U'=>
  rw [e] at h
  intro vs H' Gs Fs' A
  have h:Wants K W He O Fs H σ Q (if (ps.all tok&&decide (ps.length<=sizeLine))=true then .ok ⟨.tup (ps.map tsh),.tuple (ps.map (·.d))⟩ U' else .no):=h
  by_cases hc:(ps.all tok&&decide (ps.length<=sizeLine))=true
  ·rw [if_pos hc] at h
   simp only [Bool.and_eq_true,decide_eq_true_eq] at hc
   exact ⟨by rw [A.len1];exact hc.2,fun p hp=>h _ _ _ _ (A.newTup hc.1 hp)⟩
  ·rw [if_neg hc] at h
   exact h.elim
 | er c U'=>rw [e] at h;exact h
 | no=>rw [e] at h;exact h
end
def zBB (p:PV) (ds:List D):Bool:=!p.s.isView||ds.all scalD
theorem Own.items {O:List Addr} {H:Hp} {s:Sh} {v:V} {ds:List D} (h:Own K O H s G v (.list ds)) (hc:zBB ⟨s,.list ds⟩ ds=true) (h1:∀a∈O',a∈O) (h2:∀a∈G,a∉O') :
  ∃p vs,v=.ref p/\SqL K H p vs/\(s.isView=false->SqL K (hid H O') p vs)/\Reps K (hid H O') vs ds:=by
 have hr:=h.rep
 cases hv:s.isView with
 | false=>
  have r:=h.freeze hv h1 h2
  cases r with
  | @lst p vs _ hq hl hr=>exact ⟨p,vs,rfl,hid_le.seq hq,fun _=>hq,hl,hr⟩
 | true=>
  unfold zBB at hc
  have hc:ds.all scalD=true:=by simpa [hv] using hc
  cases hr with
  | @lst p vs _ hq hl hr=>exact ⟨p,vs,rfl,hq,nofun,hl,fun i v d e1 e2=>((hr i v d e1 e2).sc (List.all_eq_true.mp hc d (mem_of_getElem? e2))).rep⟩
theorem Own.itemsT {O:List Addr} {H:Hp} {s:Sh} {v:V} {ds:List D} (h:Own K O H s G v (.tuple ds)) (hc:zBB ⟨s,.tuple ds⟩ ds=true) (h1:∀a∈O',a∈O) (h2:∀a∈G,a∉O') :
  ∃p vs,v=.ref p/\SqT K H p vs/\(s.isView=false->SqT K (hid H O') p vs)/\Reps K (hid H O') vs ds:=by
 have hr:=h.rep
 cases hv:s.isView with
 | false=>
  have r:=h.freeze hv h1 h2
  cases r with
  | @tup p vs _ hq hl hr=>exact ⟨p,vs,rfl,SameT hid_le hq,fun _=>hq,hl,hr⟩
 | true=>
  unfold zBB at hc
  have hc:ds.all scalD=true:=by simpa [hv] using hc
  cases hr with
  | @tup p vs _ hq hl hr=>exact ⟨p,vs,rfl,hq,nofun,hl,fun i v d e1 e2=>((hr i v d e1 e2).sc (List.all_eq_true.mp hc d (mem_of_getElem? e2))).rep⟩
theorem zFC {H:Hp} {O:List Addr} {U1:Ev} {ds:List D} {p:Addr} (E:EnvOk K He O Fs1 H1 σ U1) (s:Same H H1) (n:∀a∈Fs1.flatten,a∈Fs.flatten\/H a=none)
  (hr:Reps K (hid H1 (O++Fs1.flatten)) vs ds) (hp:H1 p=none):Aft K He O Fs H σ U1 ⟨.lst .leaf,.list ds⟩ (.ref p) (upd H1 p (.lst vs)) [p] Fs1:=by
 have E2:=E.hide (G:=[p]) (zAG (o:=.lst vs) hp) (by simp) (fun a ha=>by simp at ha;rw [ha];exact hp) (fun a ha=>by simp at ha;rw [ha,zAF];exact Option.some_ne_none _)
 refine ⟨s.trans (zAG hp),E2,fun a ha=>?_,?_⟩
 ·rcases List.mem_append.mp ha with z | z
  ·have z:a=p:=by simpa using z
   rw [z];exact .inr (s.free hp)
  ·exact n a z
 ·have fl:(List.replicate ds.length ([]:List Addr)).flatten=[]:=by simp
  have:[p]=p::(List.replicate ds.length ([]:List Addr)).flatten:=by rw [fl]
  rw [this]
  refine .lst rfl zAF hr.1 (by simp) (by rw [fl];simp) fun i v d F h1 h2 h3=>?_
  rw [getElem?_replicate] at h3
  split at h3
  ·cases h3
   refine .leaf ((hr.2 i v d h1 h2).mono (zAP (zAG hp) fun a ha=>?_))
   rw [fl] at ha
   rcases List.mem_append.mp ha with z | z
   ·rcases List.mem_append.mp z with z | z
    ·have z:a=p:=by simpa using z
     rw [z];exact .inr hp
    ·exact .inl (mem_append_left _ z)
   ·exact .inl (mem_append_right _ z)
  ·cases h3
def zCB (fa:F1):F1:=eBind fa fun p U=>match p.d with
 | .list ds=>if zBB p ds then .ok ⟨.lst .leaf,.list ds⟩ U else .no
 | .tuple ds=>if zBB p ds then .ok ⟨.lst .leaf,.list ds⟩ U else .no
 | _=>.no
section
variable {K:Fg} {W:XW} {σ:St} {H:Hp} {Q:VK} {fa fb:F1}
theorem Aft.disj {O:List Addr} {U1:Ev} {p:PV} {v:V} (A:Aft K He O Fs H σ U1 p v H1 G Fs1):∀a∈G,a∉O++Fs1.flatten:=fun a ha z=>by
 have nd:=A.env.nd
 rw [append_assoc] at nd
 exact (List.nodup_append.mp nd).2.2 a ha a z rfl
theorem sub3 {O:List Addr}:∀a∈O++F,a∈G++O++F:=fun a ha=>by
 rw [append_assoc];exact mem_append_right _ ha
theorem rd_listOf (h:tE K W (zCB fa) σ H Q):tCB (fun xs H Q=>∃p ys,xs=[.ref p]/\(SqL K H p ys\/SqT K H p ys)/\∀l,H l=none->Q (.ref l) (upd H l (.lst ys))) (tA K W (eCons fa eNil)) σ H Q:=by
 have h1:tE K W fa σ H fun x H1=>∃p ys,x=.ref p/\(SqL K H1 p ys\/SqT K H1 p ys)/\∀l,H1 l=none->Q (.ref l) (upd H1 l (.lst ys)):=by
  refine zD8 h fun He O Fs U1 p v H1 G Fs1 nd A w=>?_
  obtain ⟨s,d⟩:=p
  cases d with
  | list ds=>
   have w:Wants K W He O Fs H σ Q (if zBB ⟨s,.list ds⟩ ds then .ok ⟨.lst .leaf,.list ds⟩ U1 else .no):=w
   cases hc:zBB ⟨s,.list ds⟩ ds with
   | false=>rw [hc] at w;exact w.elim
   | true=>
    rw [hc] at w
    obtain ⟨p,vs,rfl,hq,_,hr⟩:=A.own.items (O':=O++Fs1.flatten) hc sub3 A.disj
    exact ⟨p,vs,rfl,.inl hq,fun l hl=>w _ _ _ _ (zFC A.go A.same A.newF hr hl)⟩
  | tuple ds=>
   have w:Wants K W He O Fs H σ Q (if zBB ⟨s,.tuple ds⟩ ds then .ok ⟨.lst .leaf,.list ds⟩ U1 else .no):=w
   cases hc:zBB ⟨s,.tuple ds⟩ ds with
   | false=>rw [hc] at w;exact w.elim
   | true=>
    rw [hc] at w
    obtain ⟨p,vs,rfl,hq,_,hr⟩:=A.own.itemsT (O':=O++Fs1.flatten) hc sub3 A.disj
    exact ⟨p,vs,rfl,.inr hq,fun l hl=>w _ _ _ _ (zFC A.go A.same A.newF hr hl)⟩
  | _=>exact w.elim
 obtain ⟨He,O,Fs,U,E,h1⟩:=h1
 refine ⟨He,O,Fs,U,E,?_⟩
 unfold eCons eNil
 cases e:fa U with
 | ok p U'=>
  rw [e] at h1
  intro vs H' Gs Fs' A
  match vs,Gs,A.len1,A.len2 with
  | [v],[G],_,_=>
   have A':Aft K He O Fs H σ U' p v H' G Fs':=⟨A.same,by simpa using A.env,by simpa using A.new,by simpa using A.own 0 v p G rfl rfl rfl⟩
   obtain ⟨q,ys,rfl,h2,h3⟩:=h1 v H' G Fs' A'
   exact ⟨q,ys,rfl,h2,h3⟩
 | er c U'=>rw [e] at h1;exact h1
 | no=>rw [e] at h1;exact h1
end
structure ItOk (J:It) (P:Hp->Prop) (vs:List V):Prop where
 go:∀(i:Nat) H v,P H->vs[i]?=some v->J.go i H/\∀x H',J.yld i H x H'->H'=H/\x=v
 stop:∀H,P H->J.stop vs.length H
theorem it_list:ItOk (Itl K a) (fun H=>SqL K H a vs) vs:=
 ⟨fun i H v hp hv=>⟨⟨vs,v,hp,hv⟩,fun x H' ⟨e,q⟩=>⟨e,Option.some.inj ((q vs hp).symm.trans hv)⟩⟩,fun H hp=>⟨vs,hp,Nat.le_refl _⟩⟩
def rngV (lo:Int) (n:Nat):List V:=(List.range n).map fun i=>.int (lo+(i:Nat))
def rngD (lo:Int) (n:Nat):List D:=(List.range n).map fun i=>.int (lo+(i:Nat))
theorem it_rng {lo:Int}:ItOk (Itr lo n) (fun _=>True) (rngV lo n):=by
 refine ⟨fun i H v _ hv=>?_,fun H _=>?_⟩
 ·unfold rngV at hv
  rw [getElem?_map] at hv
  cases e:(List.range n)[i]? with
  | none=>rw [e] at hv;cases hv
  | some k=>
   rw [e] at hv
   obtain ⟨h1,h2⟩:=List.getElem?_eq_some_iff.mp e
   simp at h1 h2
   subst h2
   cases hv
   exact ⟨h1,fun x H' ⟨q1,q2⟩=>⟨q1,q2⟩⟩
 ·show n<=(rngV lo n).length
  simp [rngV]
theorem reps_rng {H:Hp} {lo:Int}:Reps K H (rngV lo n) (rngD lo n):=by
 refine ⟨by simp [rngV,rngD],fun i v d h1 h2=>?_⟩
 unfold rngV at h1
 unfold rngD at h2
 rw [getElem?_map] at h1 h2
 cases e:(List.range n)[i]? with
 | none=>rw [e] at h1;cases h1
 | some k=>
  rw [e] at h1 h2
  cases h1
  cases h2
  exact .int _
structure Its where
 ds:List D
 st:Bool
abbrev FI:=Ev->Out Its
def zGM (K:Fg) (W:XW) (He:Hp) (O:List Addr) (Fs:List (List Addr)) (H:Hp) (σ:St) (R:It->Hp->Prop) (o:Out Its):Prop:=match o with
 | .ok t U'=>∀J H' Fs' vs P,Same H H'->EnvOk K He O Fs' H' σ U'->(∀a∈Fs'.flatten,a∈Fs.flatten\/H a=none)->ItOk J P vs->P H'->(∀H2,Same H' H2->P H2)->(t.st=true->∀H2,Same (hid H' Fs'.flatten) H2->P H2) ->
   Reps K (hid H' (O++Fs'.flatten)) vs t.ds->R J H'
 | .er c U'=>∀H' Fs',Same H H'->EnvOk K He O Fs' H' σ U'->W c σ H'
 | .no=>False
def tI (K:Fg) (W:XW) (f:FI):TI:=fun σ H R=>∃He O Fs U,EnvOk K He O Fs H σ U/\zGM K W He O Fs H σ R (f U)
theorem PIimp {t t':TI} (h:PI X tg iter t) (i:∀σ H R,t' σ H R->t σ H R):PI X tg iter t':=fun pins s σ H R I q=>h pins s σ H R I (i σ H R q)
def iSeq (fa:F1):FI:=fun U=>(fa U).bind fun p U'=>match p.d with
 | .list ds=>if zBB p ds then .ok ⟨ds,!p.s.isView⟩ U' else .no
 | _=>.no
section
variable {K:Fg} {W:XW} {σ:St} {H:Hp} {R:It->Hp->Prop} {fa fb:F1}
theorem sub_hid {H:Hp} {O:List Addr}:Same (hid H (O++F)) (hid H F):=zAP (Same.refl _) fun a ha=>.inl (mem_append_right _ ha)
theorem rd_iSeq (h:tI K W (iSeq fa) σ H R):iList K (tE K W fa) σ H R:=by
 obtain ⟨He,O,Fs,U,E,h⟩:=h
 refine ⟨He,O,Fs,U,E,?_⟩
 unfold iSeq at h
 cases e:fa U with
 | ok p U1=>
  rw [e] at h
  intro v H1 G Fs1 A
  obtain ⟨s,d⟩:=p
  cases d with
  | list ds=>
   have h:zGM K W He O Fs H σ R (if zBB ⟨s,.list ds⟩ ds then .ok ⟨ds,!s.isView⟩ U1 else .no):=h
   cases hc:zBB ⟨s,.list ds⟩ ds with
   | false=>rw [hc] at h;exact h.elim
   | true=>
    rw [hc] at h
    obtain ⟨p,vs,rfl,hq,hst,hr⟩:=A.own.items (O':=O++Fs1.flatten) hc sub3 A.disj
    exact ⟨p,rfl,⟨vs,hq⟩,h (Itl K p) H1 Fs1 vs (fun H=>SqL K H p vs) A.same A.go A.newF it_list hq (fun H2 s2=>s2.seq hq) (fun ht H2 s2=>s2.seq (sub_hid.seq (hst (by simpa using ht)))) hr⟩
  | _=>exact h.elim
 | er c U'=>rw [e] at h;exact h
 | no=>rw [e] at h;exact h
def inRng (j:Int):Bool:=decide (-(2 ^ 62)<=j)&&decide (j<2 ^ 62)
def rng1:List D->Option Int
 | [.int j]=>if inRng j then some j else none
 | _=>none
def rng2:List D->Option (Int×Int)
 | [.int i,.int j]=>if inRng i&&inRng j then some (i,j) else none
 | _=>none
theorem rng1_eq {ds:List D} {j:Int} (h:rng1 ds=some j):ds=[.int j]/\-(2 ^ 62)<=j/\j<2 ^ 62:=by
 unfold rng1 at h
 split at h
 ·split at h
  ·rename_i hc
   cases h
   simp only [inRng,Bool.and_eq_true,decide_eq_true_eq] at hc
   exact ⟨rfl,hc.1,hc.2⟩
  ·cases h
 ·cases h
theorem rng2_eq {ds:List D} {i j:Int} (h:rng2 ds=some (i,j)):ds=[.int i,.int j]/\(-(2 ^ 62)<=i/\i<2 ^ 62/\-(2 ^ 62)<=j/\j<2 ^ 62):=by
 unfold rng2 at h
 split at h
 ·split at h
  ·rename_i hc
   cases h
   simp only [inRng,Bool.and_eq_true,decide_eq_true_eq] at hc
   exact ⟨rfl,hc.1.1,hc.1.2,hc.2.1,hc.2.2⟩
  ·cases h
 ·cases h
def iR1 (fl:FL):FI:=fun U=>(fl U).bind fun ps U'=>match rng1 (ps.map (·.d)) with
 | some j=>.ok ⟨rngD 0 j.toNat,true⟩ U'
 | none=>.no
def iR2 (fl:FL):FI:=fun U=>(fl U).bind fun ps U'=>match rng2 (ps.map (·.d)) with
 | some (i,j)=>.ok ⟨rngD i (j-i).toNat,true⟩ U'
 | none=>.no
theorem rd_iR1 {fl:FL} (h:tI K W (iR1 fl) σ H R):iRng1 (tA K W fl) σ H R:=by
 obtain ⟨He,O,Fs,U,E,h⟩:=h
 refine ⟨He,O,Fs,U,E,?_⟩
 unfold iR1 at h
 cases e:fl U with
 | ok ps U1=>
  rw [e] at h
  intro vs H1 Gs Fs1 A
  have h:zGM K W He O Fs H σ R (match rng1 (ps.map (·.d)) with | some j=>.ok ⟨rngD 0 j.toNat,true⟩ U1 | none=>.no):=h
  have rs:=A.reps
  cases e1:rng1 (ps.map (·.d)) with
  | none=>rw [e1] at h;exact h.elim
  | some j=>
   rw [e1] at h
   obtain ⟨e2,h1,h2⟩:=rng1_eq e1
   rw [e2] at rs
   obtain ⟨v,rfl,r⟩:=rs.one
   cases r
   exact ⟨j,rfl,h1,h2,h (Itr 0 j.toNat) H1 Fs1 (rngV 0 j.toNat) (fun _=>True) A.same A.env.dropL (fun a ha=>A.new a (mem_append_right _ ha)) it_rng trivial (fun _ _=>trivial) (fun _ _ _=>trivial) reps_rng⟩
 | er c U'=>rw [e] at h;exact h
 | no=>rw [e] at h;exact h
theorem rd_iR2 {fl:FL} (h:tI K W (iR2 fl) σ H R):iRng2 (tA K W fl) σ H R:=by
 obtain ⟨He,O,Fs,U,E,h⟩:=h
 refine ⟨He,O,Fs,U,E,?_⟩
 unfold iR2 at h
 cases e:fl U with
 | ok ps U1=>
  rw [e] at h
  intro vs H1 Gs Fs1 A
  have h:zGM K W He O Fs H σ R (match rng2 (ps.map (·.d)) with | some (i,j)=>.ok ⟨rngD i (j-i).toNat,true⟩ U1 | none=>.no):=h
  have rs:=A.reps
  cases e1:rng2 (ps.map (·.d)) with
  | none=>rw [e1] at h;exact h.elim
  | some ij=>
   obtain ⟨i,j⟩:=ij
   rw [e1] at h
   obtain ⟨e2,hb⟩:=rng2_eq e1
   rw [e2] at rs
   obtain ⟨v,u,rfl,r,r'⟩:=rs.two
   cases r
   cases r'
   exact ⟨i,j,rfl,hb,h (Itr i (j-i).toNat) H1 Fs1 (rngV i (j-i).toNat) (fun _=>True) A.same A.env.dropL (fun a ha=>A.new a (mem_append_right _ ha)) it_rng trivial (fun _ _=>trivial) (fun _ _ _=>trivial) reps_rng⟩
 | er c U'=>rw [e] at h;exact h
 | no=>rw [e] at h;exact h
end
def zCF (i:Nat) (fc:FB) (fe:F1) (s:Sh):List D->Ev->List D->Out (List D)
 | [],U,acc=>.ok acc U
 | d::r,U,acc=>match fc (U.set i (some ⟨.leaf,d⟩)) with
  | .ok true U1=>(match fe U1 with
   | .ok p U2=>if T.coer s p&&decide (acc.length<sizeLine) then zCF i fc fe s r (U2.set i none) (acc++[p.d]) else .no
   | _=>.no)
  | .ok false U1=>if acc.length<sizeLine then zCF i fc fe s r (U1.set i none) acc else .no
  | _=>.no
def eComp (s:Sh) (i:Nat) (fi:FI) (fc:FB) (fe:F1):F1:=fun U=>(fi U).bind fun t U1=>match zCF i fc fe s t.ds (U1.set i none) [] with
 | .ok ds U2=>if !s.isView&&decide (i<U1.length) then .ok ⟨.lst s,.list ds⟩ (U2.set i (U1.getD i none)) else .no
 | _=>.no
abbrev W0:XW:=fun _ _ _=>False
section
variable {K:Fg} {He H H1 H2:Hp} {O G:List Addr} {Fs Fs1 Fs2:List (List Addr)} {σ:St} {U U1 U2:Ev}
theorem blank_ne {is:List Nat} {j:Nat} (h:j∉is):(blank is σ)[j]?=σ[j]?:=by
 unfold blank
 rw [List.getElem?_mapIdx]
 cases σ[j]? with
 | none=>rfl
 | some o=>simp [h]
theorem set_none_get {U:Ev} {i j:Nat} {p:PV} (h:(U.set i none)[j]?=some (some p)):j≠i/\U[j]?=some (some p):=by
 by_cases hj:j=i
 ·subst hj
  rw [getElem?_set] at h
  split at h
  ·split at h<;>cases h
  ·rename_i z;exact absurd rfl z
 ·rw [getElem?_set_ne (Ne.symm hj)] at h
  exact ⟨hj,h⟩
theorem EnvOk.shut {i:Nat} (E:EnvOk K He O Fs H σ U) (hi:i<U.length) :
  ∃F,Fs[i]?=some F/\EnvOk K He (F++O) (Fs.set i []) H (blank [i] σ) (U.set i none)/\∀a,a∈F++(Fs.set i []).flatten↔a∈Fs.flatten:=by
 obtain ⟨F,hF⟩:=E.lt hi
 have pm:(F++(Fs.set i []).flatten).Perm Fs.flatten:=by simpa using zBF (G:=[]) hF
 have pm2:(F++O++(Fs.set i []).flatten).Perm (O++Fs.flatten):=by
  rw [append_assoc]
  exact (perm3 _ _ _).trans (List.Perm.append_left _ pm)
 refine ⟨F,hF,⟨by rw [zDN,length_set];exact E.len1,by rw [length_set,length_set];exact E.len2,E.same,pm2.nodup_iff.mpr E.nd,fun a ha=>E.inH a (pm2.mem_iff.mp ha),fun a ha=>E.fresh a (pm.mem_iff.mp (mem_append_right _ ha)),fun j q hq=>?_⟩,fun a=>pm.mem_iff⟩
 obtain ⟨hj,hq⟩:=set_none_get hq
 obtain ⟨w1,v',F',e1,e2,e3⟩:=E.slot j q hq
 exact ⟨w1,v',F',by rw [blank_ne (by simpa using hj)];exact e1,by rw [getElem?_set_ne (Ne.symm hj)];exact e2,e3.mono (Same.refl _) fun a ha=>.inl (pm2.mem_iff.mp ha)⟩
theorem EnvOk.forget {i:Nat} {x:Option V} (E:EnvOk K He O Fs H ((blank [i] σ).set i x) U) (hi:i<U.length):EnvOk K He O (Fs.set i []) H (blank [i] σ) (U.set i none):=by
 obtain ⟨F,hF⟩:=E.lt hi
 have pm:(F++(Fs.set i []).flatten).Perm Fs.flatten:=by simpa using zBF (G:=[]) hF
 have sub:∀a∈O++(Fs.set i []).flatten,a∈O++Fs.flatten:=fun a ha=>by
  rcases List.mem_append.mp ha with z | z
  ·exact mem_append_left _ z
  ·exact mem_append_right _ (pm.mem_iff.mp (mem_append_right _ z))
 have l1:=E.len1
 rw [length_set] at l1
 obtain ⟨n1,n2,n3⟩:=List.nodup_append.mp E.nd
 have n4:((Fs.set i []).flatten).Nodup:=(List.nodup_append.mp (pm.nodup_iff.mpr n2)).2.1
 refine ⟨by rw [length_set];exact l1,by rw [length_set,length_set];exact E.len2,E.same,List.nodup_append.mpr ⟨n1,n4,fun a ha b hb=>n3 a ha b (pm.mem_iff.mp (mem_append_right _ hb))⟩,fun a ha=>E.inH a (sub a ha),fun a ha=>E.fresh a (pm.mem_iff.mp (mem_append_right _ ha)),fun j q hq=>?_⟩
 obtain ⟨hj,hq⟩:=set_none_get hq
 obtain ⟨w1,v',F',e1,e2,e3⟩:=E.slot j q hq
 rw [getElem?_set_ne (Ne.symm hj)] at e1
 exact ⟨w1,v',F',e1,by rw [getElem?_set_ne (Ne.symm hj)];exact e2,e3.mono (Same.refl _) fun a ha=>.inl (sub a ha)⟩
theorem EnvOk.reopen {i:Nat} (E1:EnvOk K He O Fs1 H1 σ U1) (hF:Fs1[i]?=some F) (E2:EnvOk K He (G++(F++O)) Fs2 H2 (blank [i] σ) U2) (hl:U2.length=U1.length) (s:Same H1 H2)
  (hn:U2[i]?=some none) (hF2:Fs2[i]?=some []) (new:∀a∈G++Fs2.flatten,a∈Fs1.flatten\/H1 a=none):EnvOk K He (G++O) (Fs2.set i F) H2 σ (U2.set i (U1.getD i none)):=by
 have pm:((Fs2.set i F).flatten).Perm (F++Fs2.flatten):=by simpa using zBF (G:=F) hF2
 have pm2:(G++O++(Fs2.set i F).flatten).Perm (G++(F++O)++Fs2.flatten):=by
  refine (List.Perm.append_left _ pm).trans ?_
  rw [append_assoc,append_assoc]
  refine List.Perm.append_left _ ?_
  rw [append_assoc]
  exact perm3 _ _ _
 have hi:i<U2.length:=(List.getElem?_eq_some_iff.mp hn).1
 refine ⟨by rw [length_set,hl];exact E1.len1,by rw [length_set,length_set];exact E2.len2,E2.same,pm2.nodup_iff.mpr E2.nd,fun a ha=>E2.inH a (pm2.mem_iff.mp ha),fun a ha=>?_,fun j q hq=>?_⟩
 ·rcases List.mem_append.mp (pm.mem_iff.mp ha) with z | z
  ·exact E1.fresh a (zA0 hF z)
  ·exact E2.fresh a z
 ·by_cases hj:j=i
  ·subst hj
   rw [getElem?_set_self hi] at hq
   have hq:U1.getD j none=some q:=Option.some.inj hq
   rw [getD_eq_getElem?_getD] at hq
   have hq':U1[j]?=some (some q):=by
    cases e:U1[j]? with
    | none=>rw [e] at hq;cases hq
    | some o=>rw [e] at hq;simp only [Option.getD_some] at hq;rw [hq]
   obtain ⟨w1,v',F',e1,e2,e3⟩:=E1.slot j q hq'
   rw [hF] at e2
   cases e2
   refine ⟨w1,v',F,e1,getElem?_set_self (by rw [E2.len2];exact hi),e3.mono s fun a ha=>?_⟩
   rcases List.mem_append.mp ha with z | z
   ·rcases List.mem_append.mp z with z | z
    ·exact (new a (mem_append_left _ z)).elim (fun y=>.inl (mem_append_right _ y)) .inr
    ·exact .inl (mem_append_left _ z)
   ·rcases List.mem_append.mp (pm.mem_iff.mp z) with y | y
    ·exact .inl (mem_append_right _ (zA0 hF y))
    ·exact (new a (mem_append_right _ y)).elim (fun y=>.inl (mem_append_right _ y)) .inr
  ·rw [getElem?_set_ne (Ne.symm hj)] at hq
   obtain ⟨w1,v',F',e1,e2,e3⟩:=E2.slot j q hq
   rw [blank_ne (by simpa using hj)] at e1
   exact ⟨w1,v',F',e1,by rw [getElem?_set_ne (Ne.symm hj)];exact e2,e3.mono (Same.refl _) fun a ha=>.inl (pm2.mem_iff.mp ha)⟩
theorem EnvOk.mutO {p:Addr} {xs:List V} (E:EnvOk K He O Fs H σ U) (hp:p∈O) (hl:H p=some (.lst xs)) (hn:He p=none):EnvOk K He O Fs (upd H p o) σ U:=by
 obtain ⟨n1,n2,n3⟩:=List.nodup_append.mp E.nd
 refine ⟨E.len1,E.len2,fun b u e=>?_,E.nd,fun a ha=>?_,E.fresh,fun j q hq=>?_⟩
 ·rw [zAI (zAX e hn)]
  exact E.same b u e
 ·by_cases h:a=p
  ·rw [h,zAF];exact Option.some_ne_none _
  ·rw [zAI h];exact E.inH a ha
 ·obtain ⟨w1,v',F',e1,e2,e3⟩:=E.slot j q hq
  exact ⟨w1,v',F',e1,e2,e3.mut w1 (mem_append_left _ hp) (fun z=>n3 p hp p (zA0 e2 z) rfl) hl⟩
end
structure Gath (K:Fg) (He:Hp) (O F:List Addr) (Fs1:List (List Addr)) (H1:Hp) (σ:St) (i:Nat) (s:Sh) (A0:Addr) (n:Nat) (ys:List V) (H:Hp) (Uk:Ev) (Fk Gs:List (List Addr)) (acc:List D):Prop where
 env:EnvOk K He (A0::Gs.flatten++(F++O)) Fk H (blank [i] σ) Uk
 same:Same H1 H
 at_:H A0=some (.lst ys)
 new:∀a∈Gs.flatten++Fk.flatten,a∈Fs1.flatten\/H1 a=none
 l1:ys.length=acc.length
 l2:Gs.length=acc.length
 own:∀(j:Nat) v d G,ys[j]?=some v->acc[j]?=some d->Gs[j]?=some G->Own K (A0::Gs.flatten++(F++O)++Fk.flatten) H s G v d
 noneG:Uk[i]?=some none
 noneF:Fk[i]?=some []
 len:Uk.length=n
theorem zBI (Gs:List (List α)) (G:List α):(Gs++[G]).flatten=Gs.flatten++G:=by simp
section
variable {K:Fg} {W:XW} {σ:St} {H:Hp} {Q:VK} {fe:F1} {fc:FB} {fi:FI} {s:Sh} {i:Nat}
theorem rd_comp (h:tE K W (eComp s i fi fc fe) σ H Q):tComp [i] (tI K W fi) (gName i) (tT K W0 fc) (tE K W0 fe) σ H Q:=by
 obtain ⟨He,O,Fs,U,E,h⟩:=h
 refine ⟨He,O,Fs,U,E,?_⟩
 unfold eComp at h
 cases e:fi U with
 | er c U'=>rw [e] at h;exact h
 | no=>rw [e] at h;exact h
 | ok t U1=>
  rw [e] at h
  intro J H1 Fs1 vs P s1 E1 n1 it hP hP1 _ hr A0 hD
  have h:Wants K W He O Fs H σ Q (match zCF i fc fe s t.ds (U1.set i none) [] with | .ok ds U2=>if !s.isView&&decide (i<U1.length) then .ok ⟨.lst s,.list ds⟩ (U2.set i (U1.getD i none)) else .no | _=>.no):=h
  cases eg:zCF i fc fe s t.ds (U1.set i none) [] with
  | er c U'=>rw [eg] at h;exact h.elim
  | no=>rw [eg] at h;exact h.elim
  | ok ds' U2=>
   rw [eg] at h
   have h:Wants K W He O Fs H σ Q (if (!s.isView&&decide (i<U1.length))=true then .ok ⟨.lst s,.list ds'⟩ (U2.set i (U1.getD i none)) else .no):=h
   by_cases hc:(!s.isView&&decide (i<U1.length))=true
   case neg=>rw [if_neg hc] at h;exact h.elim
   rw [if_pos hc] at h
   simp only [Bool.and_eq_true,decide_eq_true_eq,Bool.not_eq_true'] at hc
   obtain ⟨hsv,hi⟩:=hc
   obtain ⟨F,hF,E0,hmem⟩:=E1.shut hi
   have hHeD:He A0=none:=E1.same.free hD
   have E0':EnvOk K He (A0::([]:List (List Addr)).flatten++(F++O)) (Fs1.set i []) (upd H1 A0 (.lst [])) (blank [i] σ) (U1.set i none):=
    E0.hide (G:=[A0]) (zAG hD) (by simp) (fun a ha=>by simp at ha;rw [ha];exact hD) (fun a ha=>by simp at ha;rw [ha,zAF];exact Option.some_ne_none _)
   refine ⟨fun k m ys H'=>m=vs.length-k/\k<=vs.length/\∃Uk Fk Gs acc,Gath K He O F Fs1 H1 σ i s A0 U1.length ys H' Uk Fk Gs acc/\zCF i fc fe s (t.ds.drop k) Uk acc=.ok ds' U2,⟨vs.length,by simp,Nat.zero_le _,U1.set i none,Fs1.set i [],[],[],⟨E0',zAG hD,zAF,fun a ha=>.inl ((hmem a).mp (mem_append_right _ (by simpa using ha))),rfl,rfl,fun j v d G h1=>by simp at h1,getElem?_set_self hi,getElem?_set_self (by rw [E1.len2];exact hi),by rw [length_set]⟩,by simpa using eg⟩,?_⟩
   rintro k m ys H' ⟨rfl,hk,Uk,Fk,Gs,acc,g,eg'⟩
   refine ⟨g.at_,?_⟩
   have hPk:P H':=hP1 H' g.same
   have hlen:vs.length=t.ds.length:=hr.1
   by_cases hlt:k<vs.length
   case neg=>
    have hke:k=vs.length:=by omega
    left
    have:t.ds.drop k=[]:=List.drop_eq_nil_of_le (by omega)
    rw [this] at eg'
    have eg'':(Out.ok acc Uk:Out (List D))=.ok ds' U2:=eg'
    injection eg'' with e1 e2
    subst e1
    subst e2
    refine ⟨by rw [hke];exact it.stop H' hPk,?_⟩
    have E3:EnvOk K He ((A0::Gs.flatten)++O) (Fk.set i F) H' σ (Uk.set i (U1.getD i none)):=
     EnvOk.reopen (G:=A0::Gs.flatten) E1 hF g.env g.len g.same g.noneG g.noneF fun a ha=>by
      rcases List.mem_append.mp ha with z | z
      ·rcases List.mem_cons.mp z with z | z
       ·rw [z];exact .inr hD
       ·exact g.new a (mem_append_left _ z)
      ·exact g.new a (mem_append_right _ z)
    have pmF:((Fk.set i F).flatten).Perm (F++Fk.flatten):=by simpa using zBF (G:=F) g.noneF
    obtain ⟨n1',_,n3'⟩:=List.nodup_append.mp g.env.ndO
    refine h (.ref A0) H' (A0::Gs.flatten) (Fk.set i F) ⟨s1.trans g.same,E3,fun a ha=>?_,?_⟩
    ·have up:a∈Fs1.flatten\/H1 a=none->a∈Fs.flatten\/H a=none:=fun z=>z.elim (n1 a) fun y=>.inr (s1.free y)
     rcases List.mem_append.mp ha with z | z
     ·rcases List.mem_cons.mp z with z | z
      ·exact up (.inr (by rw [z];exact hD))
      ·exact up (g.new a (mem_append_left _ z))
     ·rcases List.mem_append.mp (pmF.mem_iff.mp z) with y | y
      ·exact up (.inl (zA0 hF y))
      ·exact up (g.new a (mem_append_right _ y))
    ·refine .lst hsv g.at_ g.l1 g.l2 n1' fun j v d G h1 h2 h3=>(g.own j v d G h1 h2 h3).perm fun a ha=>?_
     rw [append_assoc] at ha ⊢
     rcases List.mem_append.mp ha with z | z
     ·exact mem_append_left _ z
     ·refine mem_append_right _ ?_
      rcases List.mem_append.mp z with z | z
      ·exact mem_append_left _ (mem_append_right _ z)
      ·rcases List.mem_append.mp (pmF.mem_iff.mp z) with y | y
       ·exact mem_append_left _ (mem_append_left _ y)
       ·exact mem_append_right _ y
   case pos=>
    right
    have hv:vs[k]?=some vs[k]:=getElem?_eq_getElem hlt
    have hkd:k<t.ds.length:=by omega
    have hd:t.ds[k]?=some t.ds[k]:=getElem?_eq_getElem hkd
    have hdr:t.ds.drop k=t.ds[k]::t.ds.drop (k+1):=drop_eq_getElem_cons hkd
    rw [hdr] at eg'
    generalize hdk:t.ds[k]=d at hd eg'
    generalize hvk:vs[k]=v at hv
    obtain ⟨hgo,hyld⟩:=it.go k H' v hPk hv
    simp only [zCF] at eg'
    have hik:i<Uk.length:=by rw [g.len];exact hi
    have rep:Rep K (hid H' (A0::Gs.flatten++(F++O)++Fk.flatten)) v d:=(hr.2 k v d hv hd).mono (zAP g.same fun a ha=>by
     rcases List.mem_append.mp ha with z | z
     ·rcases List.mem_append.mp z with z | z
      ·rcases List.mem_cons.mp z with z | z
       ·rw [z];exact .inr hD
       ·exact (g.new a (mem_append_left _ z)).elim (fun y=>.inl (mem_append_right _ y)) .inr
      ·rcases List.mem_append.mp z with z | z
       ·exact .inl (mem_append_right _ (zA0 hF z))
       ·exact .inl (mem_append_left _ z)
     ·exact (g.new a (mem_append_right _ z)).elim (fun y=>.inl (mem_append_right _ y)) .inr)
    have Ep:EnvOk K He (A0::Gs.flatten++(F++O)) (Fk.set i []) H' ((blank [i] σ).set i (some v)) (Uk.set i (some ⟨.leaf,d⟩)):=
     EnvOk.put (G:=[]) (p:=⟨.leaf,d⟩) (v:=v) g.env (.leaf rep) rfl (fun a ha=>by simp at ha) hik
    have hsl:ys.length<sizeLine:=by
     rw [g.l1]
     cases ec:fc (Uk.set i (some ⟨.leaf,d⟩)) with
     | no=>rw [ec] at eg';cases eg'
     | er c U'=>rw [ec] at eg';cases eg'
     | ok b Ua=>
      rw [ec] at eg'
      cases b with
      | false=>
       dsimp only at eg'
       split at eg'
       ·assumption
       ·cases eg'
      | true=>
       dsimp only at eg'
       split at eg'
       ·split at eg'
        ·rename_i z
         simp only [Bool.and_eq_true,decide_eq_true_eq] at z
         exact z.2
        ·cases eg'
       ·cases eg'
    refine ⟨hgo,hsl,fun x Hx hx=>?_⟩
    obtain ⟨rfl,rfl⟩:=hyld x Hx hx
    show LeS (blank [i] σ) ((blank [i] σ).set i (some x))/\_
    refine ⟨⟨by rw [length_set],fun j u hj=>?_⟩,?_⟩
    ·have:=(zEO hj).1
     rw [getElem?_set_ne (by simp at this;exact fun z=>this z.symm)]
     exact hj
    refine ⟨He,_,_,_,Ep,?_⟩
    cases ec:fc (Uk.set i (some ⟨.leaf,d⟩)) with
    | no=>rw [ec] at eg';cases eg'
    | er c U'=>rw [ec] at eg';cases eg'
    | ok b Ua=>
     rw [ec] at eg'
     intro H3 Fs3 s3 E3 n3
     have lena:Ua.length=U1.length:=by
      have:=E3.len1
      rw [length_set,zDN,E1.len1] at this
      exact this.symm
     have n3':∀a∈Fs3.flatten,a∈Fs1.flatten\/H1 a=none:=fun a ha=>(n3 a ha).elim (fun z=>by
      have pm:((Fk.set i []).flatten).Perm Fk.flatten:=by simpa using zBF (G:=[]) g.noneF
      exact g.new a (mem_append_right _ (pm.mem_iff.mp z))) fun z=>.inr (g.same.free z)
     cases b with
     | false=>
      dsimp only at eg'
      split at eg'
      case isFalse=>cases eg'
      refine iteF ⟨vs.length-(k+1),by omega,rfl,hlt,Ua.set i none,Fs3.set i [],Gs,acc,⟨E3.forget (by rw [lena];exact hi),g.same.trans s3,s3 _ _ g.at_,fun a ha=>?_,g.l1,g.l2,fun j v d G h1 h2 h3=>(g.own j v d G h1 h2 h3).mono s3 fun a ha=>?_,getElem?_set_self (by rw [lena];exact hi),getElem?_set_self (by rw [E3.len2,lena];exact hi),by rw [length_set];exact lena⟩,eg'⟩
      ·rcases List.mem_append.mp ha with z | z
       ·exact g.new a (mem_append_left _ z)
       ·obtain ⟨F3,hF3⟩:=E3.lt (i:=i) (by rw [lena];exact hi)
        have pm:(F3++(Fs3.set i []).flatten).Perm Fs3.flatten:=by simpa using zBF (G:=[]) hF3
        exact n3' a (pm.mem_iff.mp (mem_append_right _ z))
      ·rcases List.mem_append.mp ha with z | z
       ·exact .inl (mem_append_left _ z)
       ·obtain ⟨F3,hF3⟩:=E3.lt (i:=i) (by rw [lena];exact hi)
        have pm:(F3++(Fs3.set i []).flatten).Perm Fs3.flatten:=by simpa using zBF (G:=[]) hF3
        have pm2:((Fk.set i []).flatten).Perm Fk.flatten:=by simpa using zBF (G:=[]) g.noneF
        exact (n3 a (pm.mem_iff.mp (mem_append_right _ z))).elim (fun y=>.inl (mem_append_right _ (pm2.mem_iff.mp y))) .inr
     | true=>
      refine iteT ⟨He,_,_,_,E3,?_⟩
      dsimp only at eg'
      cases ee:fe Ua with
      | no=>rw [ee] at eg';cases eg'
      | er c U'=>rw [ee] at eg';cases eg'
      | ok p Ub=>
       rw [ee] at eg'
       dsimp only at eg'
       split at eg'
       case isFalse=>cases eg'
       rename_i hco
       simp only [Bool.and_eq_true,decide_eq_true_eq] at hco
       obtain ⟨hco,_⟩:=hco
       intro u H4 G Fs4 A4
       have lenb:Ub.length=U1.length:=by
        have:=A4.env.len1
        rw [length_set,zDN,E1.len1] at this
        exact this.symm
       have hib:i<Ub.length:=by rw [lenb];exact hi
       have at4:H4 A0=some (.lst ys):=A4.same _ _ (s3 _ _ g.at_)
       have s14:Same H1 H4:=(g.same.trans s3).trans A4.same
       have pmk:((Fk.set i []).flatten).Perm Fk.flatten:=by simpa using zBF (G:=[]) g.noneF
       obtain ⟨F4,hF4⟩:=A4.env.lt hib
       have pm4:(F4++(Fs4.set i []).flatten).Perm Fs4.flatten:=by simpa using zBF (G:=[]) hF4
       have new4:∀a∈G++Fs4.flatten,a∈Fs1.flatten\/H1 a=none:=fun a ha=>(A4.new a ha).elim (n3' a) fun z=>.inr ((g.same.trans s3).free z)
       have hG':∀a∈keepG s G,a∈G:=fun a ha=>keepG_sub ha
       obtain ⟨k1,k2,k3⟩:=List.nodup_append.mp A4.env.ndO
       have ndk:(keepG s G).Nodup:=by
        cases s<;>first | exact nodup_nil | exact k1
       have pmO:(A0::(Gs++[keepG s G]).flatten++(F++O)).Perm (keepG s G++(A0::Gs.flatten++(F++O))):=by
        rw [zBI]
        show (A0::((Gs.flatten++keepG s G)++(F++O))).Perm _
        refine List.Perm.trans ?_ List.perm_middle.symm
        refine List.Perm.cons _ ?_
        rw [append_assoc]
        exact perm3 _ _ _
       have E5:EnvOk K He (keepG s G++(A0::Gs.flatten++(F++O))) Fs4 H4 ((blank [i] σ).set i (some x)) Ub:=A4.env.drop (fun a ha=>by
        rcases List.mem_append.mp ha with z | z
        ·exact mem_append_left _ (hG' a z)
        ·exact mem_append_right _ z) (List.nodup_append.mpr ⟨ndk,k2,fun a ha b hb=>k3 a (hG' a ha) b hb⟩)
       have E6:=(E5.perm pmO).forget hib
       have hDin:A0∈A0::(Gs++[keepG s G]).flatten++(F++O):=mem_cons_self
       have E7:=E6.mutO (o:=.lst (ys++[u])) hDin at4 hHeD
       have subH:∀a∈A0::(Gs++[keepG s G]).flatten++(F++O)++(Fs4.set i []).flatten,a∈G++(A0::Gs.flatten++(F++O))++Fs4.flatten:=fun a ha=>by
        rcases List.mem_append.mp ha with z | z
        ·rcases List.mem_append.mp (pmO.mem_iff.mp z) with y | y
         ·exact mem_append_left _ (mem_append_left _ (hG' a y))
         ·exact mem_append_left _ (mem_append_right _ y)
        ·exact mem_append_right _ (pm4.mem_iff.mp (mem_append_right _ z))
       have Dnot:∀{j:Nat} {Gj:List Addr},Gs[j]?=some Gj->A0∉Gj:=fun {j Gj} hj z=>by
        have nd:=g.env.ndO
        exact (List.nodup_cons.mp nd).1 (mem_append_left _ (zA0 hj z))
       refine ⟨at4,vs.length-(k+1),by omega,rfl,hlt,Ub.set i none,Fs4.set i [],Gs++[keepG s G],acc++[p.d],⟨E7,fun b o hb=>?_,zAF,fun a ha=>?_,by simp [g.l1],by simp [g.l2],fun j w d' G' h1 h2 h3=>?_,getElem?_set_self hib,getElem?_set_self (by rw [A4.env.len2];exact hib),by rw [length_set];exact lenb⟩,eg'⟩
       ·rw [zAI (zAX hb hD)]
        exact s14 b o hb
       ·rcases List.mem_append.mp ha with z | z
        ·rw [zBI] at z
         rcases List.mem_append.mp z with z | z
         ·exact g.new a (mem_append_left _ z)
         ·exact new4 a (mem_append_left _ (hG' a z))
        ·exact new4 a (mem_append_right _ (pm4.mem_iff.mp (mem_append_right _ z)))
       ·by_cases hj:j<ys.length
        ·rw [getElem?_append_left hj] at h1
         rw [getElem?_append_left (by rw [<-g.l1];exact hj)] at h2
         rw [getElem?_append_left (by rw [g.l2,<-g.l1];exact hj)] at h3
         have o1:=g.own j w d' G' h1 h2 h3
         have o2:=o1.mono (O':=A0::(Gs++[keepG s G]).flatten++(F++O)++(Fs4.set i []).flatten) (s3.trans A4.same) fun a ha=>by
          have up:a∈G++Fs4.flatten->a∈A0::Gs.flatten++(F++O)++Fk.flatten\/Hx a=none:=fun z=>(A4.new a z).elim (fun y=>(n3 a y).elim (fun y=>.inl (mem_append_right _ (pmk.mem_iff.mp y))) .inr) fun y=>.inr (s3.free y)
          rcases List.mem_append.mp (subH a ha) with z | z
          ·rcases List.mem_append.mp z with z | z
           ·exact up (mem_append_left _ z)
           ·exact .inl (mem_append_left _ z)
          ·exact up (mem_append_right _ z)
         exact o2.mut hsv (mem_append_left _ hDin) (Dnot h3) at4
        ·have hj':j=ys.length:=by
          have:=(List.getElem?_eq_some_iff.mp h1).1
          rw [length_append,length_singleton] at this
          omega
         subst hj'
         rw [getElem?_append_right (Nat.le_refl _),Nat.sub_self] at h1
         rw [getElem?_append_right (by rw [g.l1];exact Nat.le_refl _),show ys.length-acc.length=0 by rw [g.l1];exact Nat.sub_self _] at h2
         rw [getElem?_append_right (by rw [g.l2,g.l1];exact Nat.le_refl _),show ys.length-Gs.length=0 by rw [g.l2,g.l1];exact Nat.sub_self _] at h3
         cases h1
         cases h2
         cases h3
         have o3:=A4.own.coer (s:=s) (O':=A0::(Gs++[keepG s G]).flatten++(F++O)++(Fs4.set i []).flatten) hco subH fun a ha hO=>by
          cases s with
          | leaf=>
           exfalso
           have hO':a∈(A0::Gs.flatten++(F++O))++(Fs4.set i []).flatten:=by
            rw [zBI] at hO
            simpa [keepG] using hO
           rcases List.mem_append.mp hO' with z | z
           ·exact k3 a ha a z rfl
           ·have nd:=A4.env.nd
            exact (List.nodup_append.mp nd).2.2 a (mem_append_left _ ha) a (pm4.mem_iff.mp (mem_append_right _ z)) rfl
          | view=>cases hsv
          | lst s=>exact ha
          | tup ss=>exact ha
         refine o3.mut hsv (mem_append_left _ hDin) (fun z=>?_) at4
         exact k3 A0 (hG' A0 z) A0 mem_cons_self rfl
end
inductive OutS where
 | nx (e:Ev) | bk (e:Ev) | ct (e:Ev) | rt (p:PV) | er (c:Str) (e:Ev) | no
abbrev FS:=Ev->OutS
structure RetOk (K:Fg) (He:Hp) (O:List Addr) (p:PV) (v:V) (H':Hp) (G:List Addr):Prop where
 same:Same He H'
 fresh:∀a∈G,He a=none
 inH:∀a∈G,H' a≠none
 nd:G.Nodup
 own:Own K (G++O) H' p.s G v p.d
 nv:p.s.isView=false
def zCG (K:Fg) (W:XW) (He:Hp) (O:List Addr) (D:Ends):OutS->Prop
 | .nx U'=>∀σ' H' Fs',EnvOk K He O Fs' H' σ' U'->D.nx σ' H'
 | .bk U'=>∀σ' H' Fs',EnvOk K He O Fs' H' σ' U'->D.bk σ' H'
 | .ct U'=>∀σ' H' Fs',EnvOk K He O Fs' H' σ' U'->D.ct σ' H'
 | .rt p=>∀v H' G,RetOk K He O p v H' G->D.rt v H'
 | .er c U'=>∀σ' H' Fs',EnvOk K He O Fs' H' σ' U'->W c σ' H'
 | .no=>False
def tS (K:Fg) (W:XW) (g:FS):TS:=fun D σ H=>∃He O Fs U,EnvOk K He O Fs H σ U/\zCG K W He O D (g U)
def sNext:FS:=fun U=>.nx U
def sSeq (g1 g2:FS):FS:=fun U=>match g1 U with
 | .nx U'=>g2 U'
 | o=>o
def sOf (f:F1) (k:PV->Ev->OutS):FS:=fun U=>match f U with
 | .ok p U'=>k p U'
 | .er c U'=>.er c U'
 | .no=>.no
def sIf (c:FB) (a b:FS):FS:=fun U=>match c U with
 | .ok t U'=>if t then a U' else b U'
 | .er c U'=>.er c U'
 | .no=>.no
section
variable {K:Fg} {W:XW} {σ:St} {H:Hp} {D:Ends} {fa fb:F1} {ga gb:FB} {g1 g2:FS}
theorem rd_next (h:tS K W sNext D σ H):tNext D σ H:=by
 obtain ⟨He,O,Fs,U,E,h⟩:=h
 exact h σ H Fs E
theorem rd_seq (h:tS K W (sSeq g1 g2) D σ H):tSeq (tS K W g1) (tS K W g2) D σ H:=by
 obtain ⟨He,O,Fs,U,E,h⟩:=h
 refine ⟨He,O,Fs,U,E,?_⟩
 unfold sSeq at h
 cases e:g1 U with
 | nx U'=>rw [e] at h;exact fun σ' H' Fs' E'=>⟨He,O,Fs',U',E',h⟩
 | bk U'=>rw [e] at h;exact h
 | ct U'=>rw [e] at h;exact h
 | rt p=>rw [e] at h;exact h
 | er c U'=>rw [e] at h;exact h
 | no=>rw [e] at h;exact h
theorem tS_of {k:PV->Ev->OutS} {R:VK} (h:tS K W (sOf fa k) D σ H)
  (hk:∀He O Fs U1 p v H1 G Fs1,EnvOk K He O Fs H σ U1\/True->(∀a∈G,He a=none)->Aft K He O Fs H σ U1 p v H1 G Fs1->zCG K W He O D (k p U1)->R v H1):tE K W fa σ H R:=by
 obtain ⟨He,O,Fs,U,E,h⟩:=h
 refine ⟨He,O,Fs,U,E,?_⟩
 unfold sOf at h
 cases e:fa U with
 | ok p U1=>rw [e] at h;exact fun v H' G Fs' A=>hk He O Fs U1 p v H' G Fs' (.inr trivial) (A.freshG E) A h
 | er c U1=>rw [e] at h;exact fun H' Fs' s E'=>h σ H' Fs' E'
 | no=>rw [e] at h;exact h
theorem rd_ifS (h:tS K W (sIf ga g1 g2) D σ H):tIfS (tT K W ga) (tS K W g1) (tS K W g2) D σ H:=by
 obtain ⟨He,O,Fs,U,E,h⟩:=h
 refine ⟨He,O,Fs,U,E,?_⟩
 unfold sIf at h
 cases e:ga U with
 | ok b U1=>
  rw [e] at h
  intro H' Fs' s E' n
  cases b with
  | true=>exact iteT ⟨He,O,Fs',U1,E',h⟩
  | false=>exact iteF ⟨He,O,Fs',U1,E',h⟩
 | er c U1=>rw [e] at h;exact fun H' Fs' s E'=>h σ H' Fs' E'
 | no=>rw [e] at h;exact h
def sRet (f:F1):FS:=sOf f fun p _=>if p.s.isView then (if scalD p.d then .rt ⟨.leaf,p.d⟩ else .no) else .rt p
theorem rd_ret (h:tS K W (sRet fa) D σ H):tRet (tE K W fa) D σ H:=by
 refine tS_of h fun He O Fs U1 p v H1 G Fs1 _ fr A w=>?_
 obtain ⟨n1,n2,n3⟩:=List.nodup_append.mp A.env.ndO
 have inH:∀a∈G,H1 a≠none:=fun a ha=>A.env.inH a (mem_append_left _ (mem_append_left _ ha))
 cases hv:p.s.isView with
 | false=>
  have w:zCG K W He O D (.rt p):=by simpa [hv] using w
  exact w v H1 G ⟨A.env.same,fr,inH,n1,A.own.perm fun a ha=>mem_append_left _ ha,hv⟩
 | true=>
  cases hs:scalD p.d with
  | false=>rw [hv,hs] at w;exact w.elim
  | true=>
   have w:zCG K W He O D (.rt ⟨.leaf,p.d⟩):=by simpa [hv,hs] using w
   exact w v H1 [] ⟨A.env.same,(fun _ z=>nomatch z),(fun _ z=>nomatch z),nodup_nil,.leaf (A.own.rep.sc hs).rep,rfl⟩
def sSet (own:Bool) (i:Nat) (f:F1):FS:=sOf f fun p U=>if i<U.length then (if own&&!p.s.isView then .nx (U.set i (some p)) else if T.coer .leaf p then .nx (U.set i (some ⟨.leaf,p.d⟩)) else .no) else .no
theorem zGS {own:Bool} {i:Nat} (h:tS K W (sSet own i fa) D σ H):tAsg (tE K W fa) (gName i) D σ H:=by
 refine tS_of h fun He O Fs U1 p v H1 G Fs1 _ fr A w=>?_
 show D.nx (σ.set i (some v)) H1
 have w:zCG K W He O D (if i<U1.length then (if own&&!p.s.isView then .nx (U1.set i (some p)) else if T.coer .leaf p then .nx (U1.set i (some ⟨.leaf,p.d⟩)) else .no) else .no):=w
 by_cases hi:i<U1.length
 case neg=>rw [if_neg hi] at w;exact w.elim
 rw [if_pos hi] at w
 cases ho:(own&&!p.s.isView) with
 | true=>
  rw [ho] at w
  have hv:p.s.isView=false:=by
   simp only [Bool.and_eq_true,Bool.not_eq_true'] at ho
   exact ho.2
  exact w _ H1 _ (EnvOk.put A.env A.own hv fr hi)
 | false=>
  rw [ho] at w
  cases hc:T.coer .leaf p with
  | false=>rw [hc] at w;exact w.elim
  | true=>
   rw [hc] at w
   have o:=A.own.coer (s:=.leaf) (O':=O++Fs1.flatten) hc sub3 fun a ha z=>absurd z (A.disj a ha)
   exact w _ H1 _ (EnvOk.put (G:=[]) (p:=⟨.leaf,p.d⟩) (v:=v) A.go o rfl (fun a ha=>by simp at ha) hi)
def sDrop (f:F1):FS:=sOf f fun _ U=>.nx U
theorem rd_drop (h:tS K W (sDrop fa) D σ H):tDrop (tE K W fa) D σ H:=
 tS_of h fun He O Fs U1 p v H1 G Fs1 _ fr A w=>w σ H1 Fs1 A.go
theorem zCK {l:List α} {i:Nat} {x:α} (h:l[i]?=some x):l.set i x=l:=by
 apply ext_getElem?
 intro j
 by_cases hj:j=i
 ·subst hj
  rw [getElem?_set_self (List.getElem?_eq_some_iff.mp h).1,h]
 ·rw [getElem?_set_ne (Ne.symm hj)]
def appK (i:Nat) (p:PV) (U:Ev):OutS:=match U[i]? with
 | some (some ⟨.lst s,.list ds⟩)=>if T.coer s p&&decide (ds.length<sizeLine) then .nx (U.set i (some ⟨.lst s,.list (ds++[p.d])⟩)) else .no
 | _=>.no
def zFR:Option (Option PV)->Bool
 | some (some ⟨.lst _,.list _⟩)=>true
 | _=>false
def zAV (i:Nat) (f:F1):FS:=fun U=>if zFR U[i]? then sOf f (appK i) U else .no
theorem app_env {H:Hp} {O:List Addr} {U:Ev} {i:Nat} {s:Sh} {p:PV} {v:V} (E:EnvOk K He (G++O) Fs H σ U) (o:Own K (G++O++Fs.flatten) H p.s G v p.d) (fr:∀a∈G,He a=none)
  (h:U[i]?=some (some ⟨.lst s,.list ds⟩)) (hc:T.coer s p=true) :
  ∃l vs,σ[i]?=some (some (.ref l))/\H l=some (.lst vs)/\vs.length=ds.length/\∃Fs',EnvOk K He O Fs' (upd H l (.lst (vs++[v]))) σ (U.set i (some ⟨.lst s,.list (ds++[p.d])⟩)):=by
 obtain ⟨hv,u,F,h1,E1,o1,sub⟩:=E.move h
 have hi:i<U.length:=(List.getElem?_eq_some_iff.mp h).1
 cases o1 with
 | @lst _ l vs _ Fs0 hsv hp hl hf nd q=>
  refine ⟨l,vs,h1,hp,hl,Fs.set i (l::(Fs0++[keepG s G]).flatten),?_⟩
  have hlF:l∈Fs.flatten:=sub l (mem_append_left _ mem_cons_self)
  have hHe:He l=none:=E.fresh l hlF
  have hG':∀a∈keepG s G,a∈G:=fun a ha=>keepG_sub ha
  obtain ⟨k1,k2,k3⟩:=List.nodup_append.mp E1.ndO
  obtain ⟨g1,g2,g3⟩:=List.nodup_append.mp k2
  have ndk:(keepG s G).Nodup:=by
   cases s<;>first | exact nodup_nil | exact g1
  have pmO:((l::(Fs0++[keepG s G]).flatten)++O).Perm ((l::Fs0.flatten)++(keepG s G++O)):=by
   rw [zBI]
   show (l::((Fs0.flatten++keepG s G)++O)).Perm (l::(Fs0.flatten++(keepG s G++O)))
   rw [append_assoc]
  have E2:EnvOk K He ((l::Fs0.flatten)++(keepG s G++O)) (Fs.set i []) H σ (U.set i none):=E1.drop (fun a ha=>by
   rcases List.mem_append.mp ha with z | z
   ·exact mem_append_left _ z
   ·refine mem_append_right _ ?_
    rcases List.mem_append.mp z with z | z
    ·exact mem_append_left _ (hG' a z)
    ·exact mem_append_right _ z) (List.nodup_append.mpr ⟨k1,List.nodup_append.mpr ⟨ndk,g2,fun a ha b hb=>g3 a (hG' a ha) b hb⟩,fun a ha b hb=>k3 a ha b (by
     rcases List.mem_append.mp hb with z | z
     ·exact mem_append_left _ (hG' b z)
     ·exact mem_append_right _ z)⟩)
  have E3:=E2.perm pmO
  have hlin:l∈(l::(Fs0++[keepG s G]).flatten)++O:=mem_cons_self
  have E4:=E3.mutO (o:=.lst (vs++[v])) hlin hp hHe
  have lnG:l∉G:=fun z=>k3 l mem_cons_self l (mem_append_left _ z) rfl
  have subH:∀a∈(l::(Fs0++[keepG s G]).flatten)++O++(Fs.set i []).flatten,a∈(l::Fs0.flatten)++(G++O)++(Fs.set i []).flatten:=fun a ha=>by
   rcases List.mem_append.mp ha with z | z
   ·refine mem_append_left _ ?_
    rcases List.mem_append.mp (pmO.mem_iff.mp z) with y | y
    ·exact mem_append_left _ y
    ·refine mem_append_right _ ?_
     rcases List.mem_append.mp y with y | y
     ·exact mem_append_left _ (hG' a y)
     ·exact mem_append_right _ y
   ·exact mem_append_right _ z
  have ownL:Own K ((l::(Fs0++[keepG s G]).flatten)++O++(Fs.set i []).flatten) (upd H l (.lst (vs++[v]))) (.lst s) (l::(Fs0++[keepG s G]).flatten) (.ref l) (.list (ds++[p.d])):=by
   refine .lst hsv zAF (by simp [hl]) (by simp [hf]) ?_ fun j w d' G' e1 e2 e3=>?_
   ·have nd2:=E3.ndO
    exact (List.nodup_append.mp nd2).1
   ·by_cases hj:j<vs.length
    ·rw [getElem?_append_left hj] at e1
     rw [getElem?_append_left (by omega)] at e2
     rw [getElem?_append_left (by omega)] at e3
     exact ((q j w d' G' e1 e2 e3).perm subH).mut hsv (mem_append_left _ hlin) (fun z=>(List.nodup_cons.mp nd).1 (zA0 e3 z)) hp
    ·have hj':j=vs.length:=by
      have:=(List.getElem?_eq_some_iff.mp e1).1
      rw [length_append,length_singleton] at this
      omega
     subst hj'
     rw [getElem?_append_right (Nat.le_refl _),Nat.sub_self] at e1
     rw [getElem?_append_right (by omega),show vs.length-ds.length=0 by omega] at e2
     rw [getElem?_append_right (by omega),show vs.length-Fs0.length=0 by omega] at e3
     cases e1
     cases e2
     cases e3
     have osub:∀a∈(l::(Fs0++[keepG s G]).flatten)++O++(Fs.set i []).flatten,a∈G++O++Fs.flatten:=fun a ha=>by
      rcases List.mem_append.mp (subH a ha) with z | z
      ·rcases List.mem_append.mp z with z | z
       ·exact mem_append_right _ (sub a (mem_append_left _ z))
       ·exact mem_append_left _ z
      ·exact mem_append_right _ (sub a (mem_append_right _ z))
     have o3:=o.coer (s:=s) hc osub fun a ha hO=>by
      cases s with
      | leaf=>
       exfalso
       rw [zBI] at hO
       have hO':a∈(l::Fs0.flatten)++O++(Fs.set i []).flatten:=by simpa [keepG] using hO
       have ndE:=E.nd
       rw [append_assoc] at ndE
       have dis:=(List.nodup_append.mp ndE).2.2
       rcases List.mem_append.mp hO' with z | z
       ·rcases List.mem_append.mp z with z | z
        ·exact dis a ha a (mem_append_right _ (sub a (mem_append_left _ z))) rfl
        ·exact dis a ha a (mem_append_left _ z) rfl
       ·exact dis a ha a (mem_append_right _ (sub a (mem_append_right _ z))) rfl
      | view=>cases hsv
      | lst s=>exact ha
      | tup ss=>exact ha
     exact o3.mut hsv (mem_append_left _ hlin) (fun z=>lnG (hG' l z)) hp
  have fin:=EnvOk.put (i:=i) (p:=⟨.lst s,.list (ds++[p.d])⟩) (v:=.ref l) E4 ownL rfl (fun a ha=>?_) (by rw [length_set];exact hi)
  ·rw [set_set,set_set,zCK h1] at fin
   exact fin
  ·rcases List.mem_cons.mp ha with z | z
   ·rw [z];exact hHe
   ·rw [zBI] at z
    rcases List.mem_append.mp z with z | z
    ·exact E.fresh a (sub a (mem_append_left _ (mem_cons_of_mem _ z)))
    ·exact fr a (hG' a z)
theorem tA_one {QL:List V->Hp->Prop} (h1:tE K W fa σ H fun v H'=>QL [v] H'):tA K W (eCons fa eNil) σ H QL:=by
 obtain ⟨He,O,Fs,U,E,h1⟩:=h1
 refine ⟨He,O,Fs,U,E,?_⟩
 unfold eCons eNil
 cases e:fa U with
 | ok p U'=>
  rw [e] at h1
  intro vs H' Gs Fs' A
  match vs,Gs,A.len1,A.len2 with
  | [v],[G],_,_=>exact h1 v H' G Fs' ⟨A.same,by simpa using A.env,by simpa using A.new,by simpa using A.own 0 v p G rfl rfl rfl⟩
 | er c U'=>rw [e] at h1;exact h1
 | no=>rw [e] at h1;exact h1
theorem isOwnL_eq {o:Option (Option PV)} (h:zFR o=true):∃s ds,o=some (some ⟨.lst s,.list ds⟩):=by
 unfold zFR at h
 split at h
 ·exact ⟨_,_,rfl⟩
 ·cases h
theorem EnvOk.ownL {H:Hp} {O:List Addr} {U:Ev} {i:Nat} {s:Sh} (E:EnvOk K He O Fs H σ U) (h:U[i]?=some (some ⟨.lst s,.list ds⟩)):∃l vs,σ[i]?=some (some (.ref l))/\H l=some (.lst vs)/\vs.length=ds.length:=by
 obtain ⟨hv,v,F,h1,h2,h3⟩:=E.slot i _ h
 cases h3 with
 | @lst _ l vs _ Fs0 hsv hp hl hf nd q=>exact ⟨l,vs,h1,hp,hl⟩
theorem rd_append {i:Nat} (h:tS K W (zAV i fa) D σ H):tDrop (tBM K "list" zDP (tVar i) (tA K W (eCons fa eNil))) D σ H:=by
 obtain ⟨He,O,Fs,U,E,h⟩:=h
 unfold zAV at h
 cases ho:zFR U[i]? with
 | false=>rw [ho] at h;exact h.elim
 | true=>
  rw [ho] at h
  obtain ⟨s,ds,e0⟩:=isOwnL_eq ho
  obtain ⟨l,vs,h1,h2,h3⟩:=E.ownL e0
  refine ⟨.ref l,h1,.inl ⟨rfl,vs,.of h2⟩,tA_one (tS_of (D:=D) ⟨He,O,Fs,U,E,h⟩ fun He O Fs U1 p v H1 G Fs1 _ fr A w=>?_)⟩
  unfold appK at w
  split at w
  ·rename_i s1 ds1 e1
   cases hc:(T.coer s1 p&&decide (ds1.length<sizeLine)) with
   | false=>rw [hc] at w;exact w.elim
   | true=>
    rw [hc] at w
    simp only [Bool.and_eq_true,decide_eq_true_eq] at hc
    obtain ⟨l1,vs1,q1,q2,q3,Fs',E'⟩:=app_env A.env A.own fr e1 hc.1
    rw [h1] at q1
    cases q1
    exact ⟨l,vs1,v,rfl,rfl,q2,by rw [q3];exact hc.2,w σ _ Fs' E'⟩
  ·exact w.elim
def forGo (i:Nat) (body:FS):List PySem.PyData->Ev->OutS
 | [],U=>.nx U
 | d::r,U=>if i<U.length then (match body (U.set i (some ⟨.leaf,d⟩)) with
  | .nx U'=>forGo i body r U'
  | .ct U'=>forGo i body r U'
  | .bk U'=>.nx U'
  | .rt p=>.rt p
  | .er c U'=>.er c U'
  | .no=>.no) else .no
def sFor (i:Nat) (fi:FI) (body:FS):FS:=fun U=>match fi U with
 | .ok t U1=>if t.st then forGo i body t.ds U1 else .no
 | .er c U1=>.er c U1
 | .no=>.no
theorem EnvOk.rebase {H:Hp} {O:List Addr} {U:Ev} (E:EnvOk K He O Fs H σ U):EnvOk K (hid H Fs.flatten) O Fs H σ U/\Same He (hid H Fs.flatten):=
 ⟨⟨E.len1,E.len2,hid_le,E.nd,E.inH,fun a ha=>by unfold hid;rw [if_pos ha],E.slot⟩,fun b o e=>zBA (E.same b o e) fun z=>by have:=E.fresh b z;rw [e] at this;cases this⟩
theorem EnvOk.unbase {H:Hp} {O:List Addr} {U:Ev} (E:EnvOk K He' O Fs H σ U) (s:Same He He'):EnvOk K He O Fs H σ U:=
 ⟨E.len1,E.len2,s.trans E.same,E.nd,E.inH,fun a ha=>s.free (E.fresh a ha),E.slot⟩
theorem RetOk.unbase {H:Hp} {O:List Addr} {p:PV} {v:V} (r:RetOk K He' O p v H G) (s:Same He He'):RetOk K He O p v H G:=
 ⟨s.trans r.same,fun a ha=>s.free (r.fresh a ha),r.inH,r.nd,r.own,r.nv⟩
theorem rd_for {i:Nat} {fi:FI} {body:FS} (h:tS K W (sFor i fi body) D σ H):tFor (tI K W fi) (gName i) (tS K W body) D σ H:=by
 obtain ⟨He,O,Fs,U,E,h⟩:=h
 refine ⟨He,O,Fs,U,E,?_⟩
 unfold sFor at h
 cases e:fi U with
 | er c U1=>rw [e] at h;exact fun H' Fs' s E'=>h σ H' Fs' E'
 | no=>rw [e] at h;exact h
 | ok t U1=>
  rw [e] at h
  intro J H1 Fs1 vs P s1 E1 n1 it hP hP1 hst hr
  have h:zCG K W He O D (if t.st then forGo i body t.ds U1 else .no):=h
  cases ht:t.st with
  | false=>rw [ht] at h;exact h.elim
  | true=>
   rw [ht] at h
   have h:zCG K W He O D (forGo i body t.ds U1):=h
   obtain ⟨E1',sHe⟩:=E1.rebase
   have hlen:vs.length=t.ds.length:=hr.1
   refine ⟨fun k m σ' H'=>m=vs.length-k/\k<=vs.length/\∃Uk Fk,EnvOk K (hid H1 Fs1.flatten) O Fk H' σ' Uk/\zCG K W He O D (forGo i body (t.ds.drop k) Uk),⟨vs.length,by simp,Nat.zero_le _,U1,Fs1,E1',by simpa using h⟩,?_⟩
   rintro k m σ' H' ⟨rfl,hk,Uk,Fk,Ek,hw⟩
   have hPk:P H':=hst ht H' Ek.same
   by_cases hlt:k<vs.length
   case neg=>
    left
    have hke:k=vs.length:=by omega
    have:t.ds.drop k=[]:=List.drop_eq_nil_of_le (by omega)
    rw [this] at hw
    exact ⟨by rw [hke];exact it.stop H' hPk,hw σ' H' Fk (Ek.unbase sHe)⟩
   case pos=>
    right
    have hv:vs[k]?=some vs[k]:=getElem?_eq_getElem hlt
    have hkd:k<t.ds.length:=by omega
    have hd:t.ds[k]?=some t.ds[k]:=getElem?_eq_getElem hkd
    have hdr:t.ds.drop k=t.ds[k]::t.ds.drop (k+1):=drop_eq_getElem_cons hkd
    rw [hdr] at hw
    generalize hdk:t.ds[k]=d at hd hw
    generalize hvk:vs[k]=v at hv
    obtain ⟨hgo,hyld⟩:=it.go k H' v hPk hv
    simp only [forGo] at hw
    by_cases hi:i<Uk.length
    case neg=>rw [if_neg hi] at hw;exact hw.elim
    rw [if_pos hi] at hw
    have rep:Rep K (hid H' (O++Fk.flatten)) v d:=by
     refine (hr.2 k v d hv hd).mono fun b o hb=>?_
     have hb1:hid H1 Fs1.flatten b=some o:=sub_hid b o hb
     have hbO:b∉O:=fun z=>by
      unfold hid at hb
      rw [if_pos (mem_append_left _ z)] at hb
      cases hb
     have hbF:b∉Fk.flatten:=fun z=>by
      have:=Ek.fresh b z
      rw [hb1] at this
      cases this
     exact zBA (Ek.same b o hb1) fun z=>(List.mem_append.mp z).elim hbO hbF
    have Ep:EnvOk K (hid H1 Fs1.flatten) O (Fk.set i []) H' (σ'.set i (some v)) (Uk.set i (some ⟨.leaf,d⟩)):=
     EnvOk.put (G:=[]) (p:=⟨.leaf,d⟩) (v:=v) Ek (.leaf rep) rfl (fun a ha=>by simp at ha) hi
    refine ⟨hgo,fun σ2 H2=>∃Uk Fk,EnvOk K (hid H1 Fs1.flatten) O Fk H2 σ2 Uk/\zCG K W He O D (forGo i body (t.ds.drop (k+1)) Uk),fun σ2 H2 q=>⟨vs.length-(k+1),by omega,rfl,hlt,q⟩,fun x Hx hx=>?_⟩
    obtain ⟨rfl,rfl⟩:=hyld x Hx hx
    show tS K W body _ (σ'.set i (some x)) Hx
    refine ⟨hid H1 Fs1.flatten,O,_,_,Ep,?_⟩
    cases eb:body (Uk.set i (some ⟨.leaf,d⟩)) with
    | nx U'=>rw [eb] at hw;exact fun σ2 H2 F2 E2=>⟨U',F2,E2,hw⟩
    | ct U'=>rw [eb] at hw;exact fun σ2 H2 F2 E2=>⟨U',F2,E2,hw⟩
    | bk U'=>rw [eb] at hw;exact fun σ2 H2 F2 E2=>hw σ2 H2 F2 (E2.unbase sHe)
    | rt p=>rw [eb] at hw;exact fun u H2 G r=>hw u H2 G (r.unbase sHe)
    | er c U'=>rw [eb] at hw;exact fun σ2 H2 F2 E2=>hw σ2 H2 F2 (E2.unbase sHe)
    | no=>rw [eb] at hw;exact hw
end
inductive Res where
 | ok (p:PV) | er (c:Str) | no
def spD (K:Fg) (n:Nat) (den:List PySem.PyData->Res):Sp:=fun vs H Q _=>vs.length=n/\∃O ds,O.Nodup/\(∀a∈O,H a≠none)/\Reps K (hid H O) vs ds/\match den ds with
 | .ok p=>∀v H' G,RetOk K H O p v H' G->Q v H'
 | .er _=>False
 | .no=>False
def zAO (n:Nat) (ds:List PySem.PyData):Ev:=ds.map (fun d=>some ⟨.leaf,d⟩)++List.replicate (n-ds.length) none
def denOf (n:Nat) (g:FS) (ds:List PySem.PyData):Res:=match g (zAO n ds) with
 | .nx _=>.ok ⟨.leaf,.none⟩
 | .rt p=>.ok p
 | .er c _=>.er c
 | _=>.no
section
variable {P:Program} {w:World} {K:Fg} {mg:Str->Option Value} {base:Heap}
theorem env_start {H:Hp} {O:List Addr} (hn:vs.length<=N.length) (nd:O.Nodup) (inH:∀a∈O,H a≠none) (rs:Reps K (hid H O) vs ds) :
  EnvOk K H O (List.replicate N.length []) H (L2.start N vs) (zAO N.length ds):=by
 have fl:(List.replicate N.length ([]:List Addr)).flatten=[]:=by simp
 have hl:=rs.1
 refine ⟨by simp [L2.start,zAO,hl],by simp [zAO];omega,Same.refl _,by rw [fl];simpa using nd,by rw [fl];simpa using inH,fun a ha=>by rw [fl] at ha;simp at ha,fun i p hp=>?_⟩
 unfold zAO at hp
 by_cases hi:i<ds.length
 ·rw [getElem?_append_left (by simpa using hi),getElem?_map,getElem?_eq_getElem hi] at hp
  cases hp
  refine ⟨rfl,vs[i]'(by omega),[],?_,?_,?_⟩
  ·unfold L2.start
   rw [getElem?_append_left (by simp;omega),getElem?_map,getElem?_eq_getElem (by omega)]
   rfl
  ·rw [getElem?_replicate,if_pos (by omega)]
  ·refine .leaf ?_
   rw [fl,append_nil]
   exact rs.2 i _ _ (getElem?_eq_getElem _) (getElem?_eq_getElem hi)
 ·rw [getElem?_append_right (by simpa using hi),getElem?_replicate] at hp
  split at hp<;>cases hp
theorem fn_den {st:Stmt} {f:Addr} {k:Nat} {g:FS} (F:Fun K x qual st f fd) (S:FnScope N ps (zAH st))
  (hb:∀(cdv:Value) (A:Around) (outer:List Env) (s:Shared) (H:Hp) (E:XK),Room k (A.deeper (envOfC qual (zAH st) s.heap.objs.size f cdv)) ->
   PSs (cxOf CX0 P w K mg base N qual (zAH st) f cdv A outer s H E).nox (zA2 st) (tS K W0 g)):FnOk P w K mg base CX0 (k+1) f fd ps (spD K ps.length (denOf N.length g)):=by
 have hpl:ps.length<=N.length:=by have:=congrArg List.length S.pre;rw [length_take] at this;omega
 refine F.ok S (fun vs H Q E h=>h.1) (fun cdv A outer s H vs Q E hr h=>⟨_,hb cdv A outer s H E hr,?_⟩)
 obtain ⟨hl,O,ds,nd,inH,rs,w⟩:=h
 refine ⟨H,O,List.replicate N.length [],zAO N.length ds,env_start (by omega) nd inH rs,?_⟩
 unfold denOf at w
 cases e:g (zAO N.length ds) with
 | nx U'=>
  rw [e] at w
  exact fun σ' H' Fs' E'=>w .non H' [] ⟨E'.same,(fun _ z=>nomatch z),(fun _ z=>nomatch z),nodup_nil,.leaf .non,rfl⟩
 | rt p=>rw [e] at w;exact w
 | bk U'=>rw [e] at w;exact w.elim
 | ct U'=>rw [e] at w;exact w.elim
 | er c U'=>rw [e] at w;exact w.elim
 | no=>rw [e] at w;exact w.elim
end
def eCall (n:Nat) (den:List PySem.PyData->Res) (fl:FL):F1:=fun U=>(fl U).bind fun ps U'=>if ps.length=n then (match den (ps.map (·.d)) with
 | .ok p=>if ps.all (T.coer .leaf) then .ok p U' else if scalD p.d then .ok ⟨.leaf,p.d⟩ U' else .ok ⟨.view,p.d⟩ U'
 | _=>.no) else .no
section
variable {K:Fg} {W:XW} {σ:St} {H:Hp} {Q:VK} {fl:FL}
theorem rd_call {den:List PySem.PyData->Res} {E:XK} (h:tE K W (eCall n den fl) σ H Q):tCall (spD K n den) [] E (tA K W fl) σ H Q:=by
 obtain ⟨He,O,Fs,U,E0,h⟩:=h
 refine ⟨He,O,Fs,U,E0,?_⟩
 unfold eCall at h
 cases e:fl U with
 | er c U'=>rw [e] at h;exact h
 | no=>rw [e] at h;exact h
 | ok ps U1=>
  rw [e] at h
  intro vs H1 Gs Fs1 A
  have h:Wants K W He O Fs H σ Q (if ps.length=n then (match den (ps.map (·.d)) with | .ok p=>if ps.all (T.coer .leaf) then .ok p U1 else if scalD p.d then .ok ⟨.leaf,p.d⟩ U1 else .ok ⟨.view,p.d⟩ U1 | _=>.no) else .no):=h
  by_cases hn:ps.length=n
  case neg=>rw [if_neg hn] at h;exact h.elim
  rw [if_pos hn] at h
  have hl:(vs++[]).length=n:=by rw [append_nil,A.len1];exact hn
  cases ed:den (ps.map (·.d)) with
  | er c=>rw [ed] at h;exact h.elim
  | no=>rw [ed] at h;exact h.elim
  | ok p=>
   rw [ed] at h
   have h:Wants K W He O Fs H σ Q (if ps.all (T.coer .leaf) then .ok p U1 else if scalD p.d then .ok ⟨.leaf,p.d⟩ U1 else .ok ⟨.view,p.d⟩ U1):=h
   obtain ⟨n1,n2,n3⟩:=List.nodup_append.mp A.env.nd
   obtain ⟨m1,m2,m3⟩:=List.nodup_append.mp n1
   have newF:∀a∈Fs1.flatten,a∈Fs.flatten\/H a=none:=fun a ha=>A.new a (mem_append_right _ ha)
   cases hc:ps.all (T.coer .leaf) with
   | true=>
    rw [hc] at h
    have h:Wants K W He O Fs H σ Q (.ok p U1):=h
    refine ⟨hl,O++Fs1.flatten,ps.map (·.d),A.env.dropL.nd,A.env.dropL.inH,?_,?_⟩
    ·rw [append_nil]
     refine ⟨A.reps.1,fun i v d h1 h2=>?_⟩
     rw [getElem?_map] at h2
     cases e2:ps[i]? with
     | none=>rw [e2] at h2;cases h2
     | some q=>
      rw [e2] at h2
      cases h2
      have hi:=(List.getElem?_eq_some_iff.mp e2).1
      have e3:Gs[i]?=some (Gs[i]'(by rw [A.len2];exact hi)):=getElem?_eq_getElem _
      have o:=A.own i v q _ h1 e2 e3
      have o2:=o.coer (s:=.leaf) (O':=O++Fs1.flatten) (List.all_eq_true.mp hc q (mem_of_getElem? e2)) sub3 fun a ha z=>by
       exfalso
       have hG:=zA0 e3 ha
       rcases List.mem_append.mp z with y | y
       ·exact m3 a hG a y rfl
       ·exact n3 a (mem_append_left _ hG) a y rfl
      cases o2 with
      | leaf r=>exact r
    ·rw [ed]
     intro v H2 G r
     refine h v H2 G Fs1 ⟨A.same.trans r.same,A.env.dropL.hide r.same r.nd r.fresh r.inH,fun a ha=>?_,by rw [append_assoc];exact r.own⟩
     rcases List.mem_append.mp ha with z | z
     ·exact .inr (A.same.free (r.fresh a z))
     ·exact newF a z
   | false=>
    rw [hc] at h
    have h:Wants K W He O Fs H σ Q (if scalD p.d then .ok ⟨.leaf,p.d⟩ U1 else .ok ⟨.view,p.d⟩ U1):=h
    refine ⟨hl,[],ps.map (·.d),nodup_nil,(fun _ z=>nomatch z),by rw [append_nil,hid_nil];exact A.reps,?_⟩
    rw [ed]
    intro v H2 G r
    cases hs:scalD p.d with
    | true=>
     rw [hs] at h
     exact Wants.scal h (r.own.rep.sc hs) (A.same.trans r.same) (A.env.dropL.grow r.same) (fun a ha=>ha) E0.ndO newF
    | false=>
     rw [hs] at h
     have h:Wants K W He O Fs H σ Q (.ok ⟨.view,p.d⟩ U1):=h
     exact h v H2 [] Fs1 ⟨A.same.trans r.same,by simpa using A.env.dropL.grow r.same,by simpa using newF,.view r.own.rep⟩
end
theorem b_len:bootBuiltins "len"=some (.builtin "len"):=by decide +kernel
theorem b_all:bootBuiltins "all"=some (.builtin "all"):=by decide +kernel
theorem b_any:bootBuiltins "any"=some (.builtin "any"):=by decide +kernel
theorem b_max:bootBuiltins "max"=some (.builtin "max"):=by decide +kernel
theorem b_isinstance:bootBuiltins "isinstance"=some (.builtin "isinstance"):=by decide +kernel
theorem b_int:bootBuiltins "int"=some (.type "int"):=by decide +kernel
theorem zGL:bootBuiltins "list"=some (.type "list"):=by decide +kernel
theorem b_tuple:bootBuiltins "tuple"=some (.type "tuple"):=by decide +kernel
theorem b_bool:bootBuiltins "bool"=some (.type "bool"):=by decide +kernel
theorem b_str:bootBuiltins "str"=some (.type "str"):=by decide +kernel
section
variable {X:Cx} {W:XW} {a b c e:Expr} {es:List Expr} {pos:Pos} {fa fb fc:F1} {fl:FL} {ga gb:FB} {g1 g2:FS}
theorem de_cmp {op:CmpOp} {r:R2} {g:PySem.PyData->PySem.PyData->Option PySem.PyData} (ho:OpR X (compareOp op) r) (hg:GOp X.K r g) (ha:PE X a (tE X.K W fa)) (hb:PE X b (tE X.K W fb)) (hm:behindInMarks op b=false:=by with_unfolding_all rfl) :
  PE X (.Compare a [op] [b] pos) (tE X.K W (eOp g fa fb)):=PEimp (zF2 ho ha hb hm) fun _ _ _=>rd_op hg
theorem dt_cmp {op:CmpOp} {r:R2} {g:PySem.PyData->PySem.PyData->Option PySem.PyData} (ho:OpR X (compareOp op) r) (hg:GOp X.K r g) (ha:PE X a (tE X.K W fa)) (hb:PE X b (tE X.K W fb)) (hm:behindInMarks op b=false:=by with_unfolding_all rfl) :
  PT X (.Compare a [op] [b] pos) (tT X.K W (bOf gBool (eOp g fa fb))):=PTimp (pt_cmpR ho ha hb hm) fun σ H QB=>rd_test fun Q=>rd_op hg
theorem de_chain {op:CmpOp} {r r':R2} {g:PySem.PyData->PySem.PyData->Option PySem.PyData} (ho:OpR X (compareOp op) r) (hg:GOp X.K r g) (ho':OpR X (compareOp op') r') (hg':GOp X.K r' g') (ha:PE X a (tE X.K W fa)) (hb:PE X b (tE X.K W fb)) (hc:PE X c (tE X.K W fc))
  (hm:lastMarks [op,op'] [b,c]=false:=by with_unfolding_all rfl):PE X (.Compare a [op,op'] [b,c] pos) (tE X.K W (zC4 g g' fa fb fc)):=PEimp (pe_chain ho ho' ha hb hc hm) fun _ _ _=>rd_chain hg hg'
theorem dt_chain {op:CmpOp} {r r':R2} {g:PySem.PyData->PySem.PyData->Option PySem.PyData} (ho:OpR X (compareOp op) r) (hg:GOp X.K r g) (ho':OpR X (compareOp op') r') (hg':GOp X.K r' g') (ha:PE X a (tE X.K W fa)) (hb:PE X b (tE X.K W fb)) (hc:PE X c (tE X.K W fc))
  (hm:lastMarks [op,op'] [b,c]=false:=by with_unfolding_all rfl):PT X (.Compare a [op,op'] [b,c] pos) (tT X.K W (bOf gBool (zC4 g g' fa fb fc))):=PTimp (pt_chain ho ho' ha hb hc hm) fun σ H QB=>rd_test fun Q=>rd_chain hg hg'
theorem da_nil:PA X [] (tA X.K W eNil):=PAimp zAS fun _ _ _=>rd_nil
theorem da_cons (ha:PE X e (tE X.K W fa)) (hr:PA X es (tA X.K W fl)) (hs:starEach (e::es) X.env=(false,eval e X.env)::starEach es X.env:=by rfl):PA X (e::es) (tA X.K W (eCons fa fl)):=PAimp (zAE ha hr hs) fun _ _ _=>rd_cons
theorem de_bi {id:String} {r:List V->Hp->VK->Prop} {g:List PySem.PyData->Option PySem.PyData} {p:Pos} (hc:CallR X (.builtin id) r) (hg:GCall X.K r g) (hv:bootBuiltins x=some (.builtin id)) (hm:X.mg x=none) (ha:PA X (e::es) (tA X.K W fl)) (hG:Gl X x:=by rfl)
  (hn:x ≠ "__name__":=by decide) (hdb:(x==("__debug__":Str))=false:=by decide) (he:starEach (e::es) X.env=(false,eval e X.env)::starEach es X.env:=by rfl) (hpl:(backTo pos (starEach es X.env)).any (·.1)=false:=by rfl) :
  PE X (.Call (.Name x p) (e::es) [] pos) (tE X.K W (eCB g fl)):=PEimp (zCZ hc hG hm hv ha hn hdb he hpl) fun _ _ _=>rd_cb hg
theorem de_ty {id:String} {r:List V->Hp->VK->Prop} {g:List PySem.PyData->Option PySem.PyData} {p:Pos} (hc:CallR X (.type id) r) (hg:GCall X.K r g) (hv:bootBuiltins x=some (.type id)) (hm:X.mg x=none) (ha:PA X (e::es) (tA X.K W fl)) (hG:Gl X x:=by rfl)
  (hn:x ≠ "__name__":=by decide) (hdb:(x==("__debug__":Str))=false:=by decide) (he:starEach (e::es) X.env=(false,eval e X.env)::starEach es X.env:=by rfl) (hpl:(backTo pos (starEach es X.env)).any (·.1)=false:=by rfl) :
  PE X (.Call (.Name x p) (e::es) [] pos) (tE X.K W (eCB g fl)):=PEimp (zDH hc hG hm hv ha hn hdb he hpl) fun _ _ _=>rd_cb hg
theorem de_listOf {p:Pos} (hm:X.mg "list"=none) (ha:PE X e (tE X.K W fa)) (hG:Gl X "list":=by rfl) (hs:starEach [e] X.env=[(false,eval e X.env)]:=by rfl) :
  PE X (.Call (.Name "list" p) [e] [] pos) (tE X.K W (zCB fa)):=PEimp (zDH call_list_of hG hm zGL (da_cons ha da_nil hs) (by decide) (by decide) hs rfl) fun _ _ _=>rd_listOf
theorem de_call {f:Addr} {k:Nat} {den:List PySem.PyData->Res} {p:Pos} (F:FnOk X.prog X.w X.K X.mg X.base CX0 k f fd ps (spD X.K n den)) (hr:Room k X.A) (hm:X.mg x=some (.ref f)) (hk:PySem.W.keepIn X.K (.ref f)=true)
  (hb:Binds X.K fd ps []) (ha:PA X (e::es) (tA X.K W fl)) (hg:Gl X x:=by rfl) (hdb:(x==("__debug__":Str))=false:=by decide) (he:starEach (e::es) X.env=(false,eval e X.env)::starEach es X.env:=by rfl)
  (hpl:(backTo pos (starEach es X.env)).any (·.1)=false:=by rfl):PE X (.Call (.Name x p) (e::es) [] pos) (tE X.K W (eCall n den fl)):=PEimp (zEF F hr hg hm hk hb .nil pass0 ha hdb he hpl) fun _ _ _=>rd_call
theorem di_r1 {p:Pos} (hm:X.mg "range"=none) (ha:PA X [a] (tA X.K W fl)) (hg:Gl X "range":=by rfl) (hs:starEach [a] X.env=[(false,eval a X.env)]:=by rfl):PI X tg (.Call (.Name "range" p) [a] [] pos) (tI X.K W (iR1 fl)):=PIimp (zDG hg hm ha hs) fun _ _ _=>rd_iR1
theorem di_r2 {p:Pos} (hm:X.mg "range"=none) (ha:PA X [a,b] (tA X.K W fl)) (hg:Gl X "range":=by rfl) (hs:starEach [a,b] X.env=[(false,eval a X.env),(false,eval b X.env)]:=by rfl) (hs2:starEach [b] X.env=[(false,eval b X.env)]:=by rfl) :
  PI X tg (.Call (.Name "range" p) [a,b] [] pos) (tI X.K W (iR2 fl)):=PIimp (pi_range2 hg hm ha hs hs2) fun _ _ _=>rd_iR2
def bTrue:FB:=fun U=>.ok true U
theorem de_comp {fi:FI} {fe:F1} {fc:FB} (s:Sh) (i:Nat) (S:CompSc X.N [i] X.env.scope scope) (hN:X.N.Nodup) (hi':PI X (.Name x px) iter (tI X.K W fi))
  (hc:∀cells C s₀ H₀ ex,PF (blk X scope cells C s₀ H₀ ex) ifs (tT X.K W0 fc)) (he:∀cells C s₀ H₀ ex,PE (blk X scope cells C s₀ H₀ ex) elt (tE X.K W0 fe))
  (hcalm:X.calm=true:=by rfl) (hx:X.N[i]?=some x:=by rfl) (hl:∀cells C s₀ H₀ ex,Loc (blk X scope cells C s₀ H₀ ex).env.scope x:=by first | exact fun _ _ _ _ _=>Or.inl rfl | exact fun _ _ _ _ _=>Or.inr rfl)
  (hf:∀cells C s₀ H₀ ex,(blk X scope cells C s₀ H₀ ex).fn x=true\/(blk X scope cells C s₀ H₀ ex).env.scope.names.lookup x=some .local:=by first | exact fun _ _ _ _ _=>Or.inr rfl | exact fun _ _ _ _ _=>Or.inl rfl)
  (hs:∀x,foldedSetIterable iter X.env x=pure x:=by intro _;rfl):PE X (.ListComp elt [⟨.Name x px,iter,ifs,0⟩] scope pos) (tE X.K W (eComp s i fi fc fe)):=
 PEimp (zE8 S hcalm hi' (fun cells C s₀ H₀ ex=>zB3 (X:=blk X scope cells C s₀ H₀ ex) (i:=i) hN hx (hl cells C s₀ H₀ ex) (hf cells C s₀ H₀ ex)) hc he hs) fun _ _ _=>rd_comp
theorem ds_set (own:Bool) (i:Nat) (hN:X.N.Nodup) (ha:PE X a (tE X.K W fa)) (hi:X.N[i]?=some x:=by rfl) (hx:Loc X.env.scope x:=by first | exact Or.inl rfl | exact Or.inr rfl) (hs:swapsWith a (some (.Name x pos')) pos.line X.env=pure false:=by rfl)
  (hf:X.fn x=true\/X.env.scope.names.lookup x=some .local:=by first | exact .inl rfl | exact .inr rfl):PS X (.Assign [.Name x pos'] a pos) (tS X.K W (sSet own i fa)):=PSimp (zDF hN hi hx ha hs hf) fun _ _ _=>zGS
theorem ds_setComp (own:Bool) (j:Nat) {spos:Pos} {fi:FI} {fe:F1} {fc:FB} (s:Sh) (i:Nat) (S:CompSc X.N [i] X.env.scope scope) (hN:X.N.Nodup) (hi':PI X (.Name x px) iter (tI X.K W fi))
  (hc:∀cells C s₀ H₀ ex,PF (blk X scope cells C s₀ H₀ ex) ifs (tT X.K W0 fc)) (he:∀cells C s₀ H₀ ex,PE (blk X scope cells C s₀ H₀ ex) elt (tE X.K W0 fe))
  (hsw:swapsWith (.ListComp elt [⟨.Name x px,iter,ifs,0⟩] scope pos) (some (.Name y pos')) spos.line X.env=pure true:=by rfl)
  (hy:X.N[j]?=some y:=by rfl) (hly:X.env.scope.names.lookup y=some .local:=by rfl)
  (hcalm:X.calm=true:=by rfl) (hx:X.N[i]?=some x:=by rfl) (hl:∀cells C s₀ H₀ ex,Loc (blk X scope cells C s₀ H₀ ex).env.scope x:=by first | exact fun _ _ _ _ _=>Or.inl rfl | exact fun _ _ _ _ _=>Or.inr rfl)
  (hf:∀cells C s₀ H₀ ex,(blk X scope cells C s₀ H₀ ex).fn x=true\/(blk X scope cells C s₀ H₀ ex).env.scope.names.lookup x=some .local:=by first | exact fun _ _ _ _ _=>Or.inr rfl | exact fun _ _ _ _ _=>Or.inl rfl)
  (hs:∀x,foldedSetIterable iter X.env x=pure x:=by intro _;rfl):PS X (.Assign [.Name y pos'] (.ListComp elt [⟨.Name x px,iter,ifs,0⟩] scope pos) spos) (tS X.K W (sSet own j (eComp s i fi fc fe))):=
 PSimp (ps_setComp hN hy hly S hcalm hi' (fun cells C s₀ H₀ ex=>zB3 (X:=blk X scope cells C s₀ H₀ ex) (i:=i) hN hx (hl cells C s₀ H₀ ex) (hf cells C s₀ H₀ ex)) hc he hsw hs) fun D σ H h=>by
  have h2:tAsg (tE X.K W (eComp s i fi fc fe)) (gName j) D σ H:=zGS h
  exact rd_comp h2
theorem ds_append (i:Nat) {p:Pos} (ha:PE X a (tE X.K W fa)) (hN:X.N[i]?=some x:=by rfl) (hv:Vis X.env.scope x:=by first | exact Or.inl rfl | exact Or.inr (Or.inl rfl) | exact Or.inr (Or.inr rfl)) (hd:(x==("__debug__":Str))=false:=by decide)
  (hcd:(x==("__classdict__":Str))=false:=by decide) (hs:starEach [a] X.env=[(false,eval a X.env)]:=by rfl)
  (hbase:attributeBase (.Name x p) "append" X.env (eval (.Name x p) X.env)=eval (.Name x p) X.env:=by rfl) (hline:(apos.endLine==cpos.line)=true:=by rfl)
  (hfew:((backTo cpos (starEach [a] X.env)).all (fun x=>!x.1)&&(backToKw cpos (keywordEach [] X.env)).all (fun x=>x.1.isSome)
   && decide ([a].length+([]:List Keyword).length+(if ([]:List Keyword).isEmpty then 0 else 1)<30))=true:=by rfl)
  (hsw:swapsWith (.Call (.Attribute (.Name x p) "append" apos) [a] [] cpos) none pos.line X.env=pure false:=by rfl) :
  PS X (.Expr (.Call (.Attribute (.Name x p) "append" apos) [a] [] cpos) pos) (tS X.K W (zAV i fa)):=
 PSimp (zCA (pe_bm PySem.F.plainAttrs_list PySem.F.slot_list_append PySem.F.type_list_append zCR (zCD hN hv hd hcd) (da_cons ha da_nil hs) hbase hfew hline hs rfl) hsw) fun _ _ _=>rd_append
theorem ds_for (i:Nat) {body:List Stmt} {fi:FI} {g:FS} (hp:PassesOwn (model X.prog X.w) X.A X.env X.xe) (hN:X.N.Nodup) (hi':PI X (.Name x px) iter (tI X.K W fi)) (hb:PSs X body (tS X.K W g)) (hcalm:X.calm=true:=by rfl)
  (hx:X.N[i]?=some x:=by rfl) (hl:Loc X.env.scope x:=by first | exact Or.inl rfl | exact Or.inr rfl) (hf:X.fn x=true\/X.env.scope.names.lookup x=some .local:=by first | exact .inl rfl | exact .inr rfl)
  (hs:∀x,foldedSetIterable iter X.env x=pure x:=by intro _;rfl):PS X (.For (.Name x px) iter body [] pos) (tS X.K W (sFor i fi g)):=
 PSimp (zB1 hp hcalm hi' (zB3 hN hx hl hf) hb hs) fun _ _ _=>rd_for
end
structure Cp (X:Cx) (N gl:List Str) (vs cs ls lo gs:List Nat):Prop where
 hN:X.N=N
 nd:N.Nodup
 nm:∀x∈N,(x==("__debug__":Str))=false/\(x==("__classdict__":Str))=false
 ng:∀x∈gl,(x==("__debug__":Str))=false/\x ≠ "__name__"
 vis:∀(i:Nat) x,N[i]?=some x->vs.contains i=true->Vis X.env.scope x
 cel:∀(i:Nat) x,N[i]?=some x->cs.contains i=true->X.env.scope.names.lookup x=some .cell\/X.env.scope.names.lookup x=some .free
 loc:∀(i:Nat) x,N[i]?=some x->ls.contains i=true->Loc X.env.scope x/\(X.fn x=true\/X.env.scope.names.lookup x=some .local)
 loo:∀(i:Nat) x,N[i]?=some x->lo.contains i=true->X.env.scope.names.lookup x=some .local
 glb:∀(j:Nat) x,gl[j]?=some x->gs.contains j=true->Gl X x
 calm:X.calm=true
 kind:X.env.scope.kind=.function
def zDY (sc:Scope) (ks:List NameKind) (o:Option Str):Bool:=match o with
 | some x=>(match sc.names.lookup x with
  | some k=>ks.any fun z=>decide (z=k)
  | none=>false)
 | none=>true
def cpB (N gl:List Str) (vs cs ls lo gs:List Nat) (sc:Scope):Bool:=
 decide (sc.kind=.function)&&(vs.all fun i=>zDY sc [.local,.cell,.free] N[i]?)&&(cs.all fun i=>zDY sc [.cell,.free] N[i]?)&&(ls.all fun i=>zDY sc [.local,.cell] N[i]?)&&(lo.all fun i=>zDY sc [.local] N[i]?)&&(gs.all fun j=>zDY sc [.globalImplicit] gl[j]?)
def nmB (N gl:List Str):Bool:=decide N.Nodup&&(N.all fun x=>!(x==("__debug__":Str))&&!(x==("__classdict__":Str)))&&(gl.all fun x=>!(x==("__debug__":Str))&&!decide (x = "__name__"))
theorem zBO {sc:Scope} {ks:List NameKind} (h:zDY sc ks (some x)=true):∃k∈ks,sc.names.lookup x=some k:=by
 unfold zDY at h
 simp only at h
 split at h
 ·rename_i k e
  simp only [any_eq_true,decide_eq_true_eq] at h
  obtain ⟨z,hz,rfl⟩:=h
  exact ⟨z,hz,e⟩
 ·cases h
theorem zFU {P:Nat->Bool} {l:List Nat} {i:Nat} (h:l.all P=true) (hi:l.contains i=true):P i=true:=by
 rw [all_eq_true] at h
 exact h i (by simpa using hi)
structure CpB (N gl:List Str) (vs cs ls lo gs:List Nat) (sc:Scope):Prop where
 kind:sc.kind=.function
 vis:∀(i:Nat) x,N[i]?=some x->vs.contains i=true->Vis sc x
 cel:∀(i:Nat) x,N[i]?=some x->cs.contains i=true->sc.names.lookup x=some .cell\/sc.names.lookup x=some .free
 loc:∀(i:Nat) x,N[i]?=some x->ls.contains i=true->Loc sc x
 loo:∀(i:Nat) x,N[i]?=some x->lo.contains i=true->sc.names.lookup x=some .local
 glb:∀(j:Nat) x,gl[j]?=some x->gs.contains j=true->sc.names.lookup x=some .globalImplicit
theorem zG0 {vs:List Nat} {sc:Scope} (h:cpB N gl vs cs ls lo gs sc=true):CpB N gl vs cs ls lo gs sc:=by
 unfold cpB at h
 simp only [Bool.and_eq_true,decide_eq_true_eq] at h
 obtain ⟨⟨⟨⟨⟨h0,h1⟩,h2⟩,h3⟩,h4⟩,h5⟩:=h
 refine ⟨h0,fun i x e hi=>?_,fun i x e hi=>?_,fun i x e hi=>?_,fun i x e hi=>?_,fun i x e hi=>?_⟩
 ·have q:=zFU h1 hi
  rw [e] at q
  obtain ⟨k,hk,q⟩:=zBO q
  simp only [mem_cons,not_mem_nil,or_false] at hk
  rcases hk with rfl | rfl | rfl
  ·exact .inl q
  ·exact .inr (.inl q)
  ·exact .inr (.inr q)
 ·have q:=zFU h2 hi
  rw [e] at q
  obtain ⟨k,hk,q⟩:=zBO q
  simp only [mem_cons,not_mem_nil,or_false] at hk
  rcases hk with rfl | rfl
  ·exact .inl q
  ·exact .inr q
 ·have q:=zFU h3 hi
  rw [e] at q
  obtain ⟨k,hk,q⟩:=zBO q
  simp only [mem_cons,not_mem_nil,or_false] at hk
  rcases hk with rfl | rfl
  ·exact .inl q
  ·exact .inr q
 ·have q:=zFU h4 hi
  rw [e] at q
  obtain ⟨k,hk,q⟩:=zBO q
  simp only [mem_cons,not_mem_nil,or_false] at hk
  rw [hk] at q
  exact q
 ·have q:=zFU h5 hi
  rw [e] at q
  obtain ⟨k,hk,q⟩:=zBO q
  simp only [mem_cons,not_mem_nil,or_false] at hk
  rw [hk] at q
  exact q
theorem nmB_ok (h:nmB N gl=true):N.Nodup/\(∀x∈N,(x==("__debug__":Str))=false/\(x==("__classdict__":Str))=false)/\∀x∈gl,(x==("__debug__":Str))=false/\x ≠ "__name__":=by
 unfold nmB at h
 simp only [Bool.and_eq_true,decide_eq_true_eq,all_eq_true,Bool.not_eq_true',decide_eq_false_iff_not] at h
 exact ⟨h.1.1,h.1.2,h.2⟩
theorem Cp.fn {P:Program} {w:World} {base:Heap} {vs:List Nat} {sc:Scope} {f:Addr} {cd:Value} {outer:List Env} {s:Shared} {H:Hp} {E:XK}
  (h:cpB N gl vs cs ls lo gs sc=true) (h':nmB N gl=true):Cp (cxOf CX0 P w K mg base N qual sc f cd A outer s H E).nox N gl vs cs ls lo gs:=by
 obtain ⟨a,b,c⟩:=nmB_ok h'
 have q:=zG0 h
 exact ⟨rfl,a,b,c,q.vis,q.cel,fun i x e hi=>⟨q.loc i x e hi,.inl rfl⟩,q.loo,q.glb,rfl,q.kind⟩
theorem relab {env:Env} {x:Str} {k:NameKind}:∀{names:List (Str×NameKind)},names.lookup x=some k ->
  (names.map fun (n,k)=>if (k==NameKind.free&&env.scope.kind==.function&&env.kindOf n==some .cell) then (n,NameKind.cell) else (n,k)).lookup x=some k \/
  (k=.free/\(names.map fun (n,k)=>if (k==NameKind.free&&env.scope.kind==.function&&env.kindOf n==some .cell) then (n,NameKind.cell) else (n,k)).lookup x=some .cell)
 | [],h=>by simp at h
 | (n,k')::r,h=>by
  have ih:=@relab env x k r
  rw [map_cons]
  show List.lookup x ((if (k'==NameKind.free&&env.scope.kind==.function&&env.kindOf n==some .cell)=true then (n,NameKind.cell) else (n,k'))::_)=_\/_/\List.lookup x ((if (k'==NameKind.free&&env.scope.kind==.function&&env.kindOf n==some .cell)=true then (n,NameKind.cell) else (n,k'))::_)=_
  by_cases hc:(k'==NameKind.free&&env.scope.kind==.function&&env.kindOf n==some .cell)=true
  ·rw [if_pos hc]
   cases hx:x==n with
   | true=>
    simp only [lookup_cons,hx] at h ⊢
    cases h
    simp only [Bool.and_eq_true,beq_iff_eq] at hc
    exact .inr ⟨hc.1.1,trivial⟩
   | false=>
    simp only [lookup_cons,hx] at h ⊢
    exact ih h
  ·rw [if_neg hc]
   cases hx:x==n with
   | true=>
    simp only [lookup_cons,hx] at h ⊢
    cases h
    exact .inl rfl
   | false=>
    simp only [lookup_cons,hx] at h ⊢
    exact ih h
theorem zDE {k:NameKind} (h:scope.names.lookup x=some k):(relabel scope env).names.lookup x=some k\/(k=.free/\(relabel scope env).names.lookup x=some .cell):=relab h
theorem Cp.blk {X:Cx} {N gl:List Str} {vs cs ls lo gs vs' cs' ls' lo' gs':List Nat} {scope:Scope} (S:Cp X N gl vs cs ls lo gs) (h:cpB N gl vs' cs' ls' lo' gs' scope=true) (cells C s₀ H₀ ex) :
  Cp (blk X scope cells C s₀ H₀ ex) N gl vs' cs' ls' lo' gs':=by
 have q:=zG0 h
 refine ⟨S.hN,S.nd,S.nm,S.ng,fun i x e hi=>?_,fun i x e hi=>?_,fun i x e hi=>?_,fun i x e hi=>?_,fun i x e hi=>?_,S.calm,q.kind⟩
 ·show Vis (relabel scope X.env) x
  rcases q.vis i x e hi with z | z | z
  ·rcases zDE (env:=X.env) z with y | ⟨y,_⟩
   ·exact .inl y
   ·cases y
  ·rcases zDE (env:=X.env) z with y | ⟨y,_⟩
   ·exact .inr (.inl y)
   ·cases y
  ·rcases zDE (env:=X.env) z with y | ⟨_,y⟩
   ·exact .inr (.inr y)
   ·exact .inr (.inl y)
 ·show (relabel scope X.env).names.lookup x=some .cell\/(relabel scope X.env).names.lookup x=some .free
  rcases q.cel i x e hi with z | z
  ·rcases zDE (env:=X.env) z with y | ⟨y,_⟩
   ·exact .inl y
   ·cases y
  ·rcases zDE (env:=X.env) z with y | ⟨_,y⟩
   ·exact .inr y
   ·exact .inl y
 ·show Loc (relabel scope X.env) x/\((scope.names.any fun y=>y.1==x&&y.2==.cell)=true\/(relabel scope X.env).names.lookup x=some .local)
  rcases q.loc i x e hi with z | z
  ·rcases zDE (env:=X.env) z with y | ⟨y,_⟩
   ·exact ⟨.inl y,.inr y⟩
   ·cases y
  ·rcases zDE (env:=X.env) z with y | ⟨y,_⟩
   ·refine ⟨.inr y,.inl ?_⟩
    rw [any_eq_true]
    exact ⟨(x,.cell),lookup_mem z,by simp⟩
   ·cases y
 ·show (relabel scope X.env).names.lookup x=some .local
  rcases zDE (env:=X.env) (q.loo i x e hi) with y | ⟨y,_⟩
  ·exact y
  ·cases y
 ·show (relabel scope X.env).names.lookup x=some .globalImplicit
  rcases zDE (env:=X.env) (q.glb i x e hi) with y | ⟨y,_⟩
  ·exact y
  ·cases y
def compB (N:List Str) (i:Nat) (cs:List Nat) (sc:Scope):Bool:=
 decide (sc.kind=.function)&&(sc.names.all fun p=>!decide (p.2=.free)||cs.any fun j=>decide (N[j]?=some p.1)) &&
 ((List.range N.length).all fun j=>j==i||(sc.names.all fun p=>!decide (some p.1=N[j]?)||(!decide (p.2=.local)&&!decide (p.2=.cell)))) &&
 (sc.names.all fun p=>!decide (p.2=.local)||decide (sc.names.lookup p.1=some .local)) &&
 (sc.names.all fun p=>!decide (p.2=.free)||sc.names.all fun q=>!decide (q.1=p.1)||!decide (q.2=.cell))
theorem compB_ok {vs:List Nat} {i:Nat} (S:Cp X N gl vs cs ls lo gs) (h:compB N i cs scope=true):CompSc X.N [i] X.env.scope scope:=by
 unfold compB at h
 simp only [Bool.and_eq_true,decide_eq_true_eq,all_eq_true,Bool.or_eq_true,Bool.not_eq_true',decide_eq_false_iff_not,any_eq_true,mem_range,beq_iff_eq] at h
 obtain ⟨⟨⟨⟨h0,h1⟩,h2⟩,h3⟩,h4⟩:=h
 refine ⟨h0,fun n hn=>?_,fun j x e hj=>?_,fun x hx e=>?_,fun n hn hc=>?_⟩
 ·rcases h1 _ hn with z | ⟨j,hj,e⟩
  ·exact absurd rfl z
  ·exact S.cel j n e (by simpa using hj)
 ·rw [S.hN] at e
  rcases h2 j (List.getElem?_eq_some_iff.mp e).1 with z | z
  ·rw [z];exact List.mem_singleton.mpr rfl
  ·exfalso
   rcases hj with y | y
   ·rcases z _ y with w | w
    ·exact w e.symm
    ·exact w.1 rfl
   ·rcases z _ y with w | w
    ·exact w e.symm
    ·exact w.2 rfl
 ·rcases h3 x hx with z | z
  ·exact absurd e z
  ·exact z
 ·rcases h4 _ hn with z | z
  ·exact z rfl
  ·rcases z _ hc with w | w
   ·exact w rfl
   ·exact w rfl
structure Fx (X Y:Cx):Prop where
 prog:Y.prog=X.prog
 w:Y.w=X.w
 K:Y.K=X.K
 mg:Y.mg=X.mg
 base:Y.base=X.base
 A:Y.A=X.A
def Rm (X:Cx):Prop:=X.A.units+64<cLine
def Cal (X:Cx) (x:Str) (n:Nat) (den:List PySem.PyData->Res):Prop:=∃(k:Nat) (f:Addr) (fd:FuncData) (ps:List Str),FnOk X.prog X.w X.K X.mg X.base CX0 k f fd ps (spD X.K n den)/\Room k X.A/\X.mg x=some (.ref f)/\PySem.W.keepIn X.K (.ref f)=true/\Binds X.K fd ps []
def Con (X:Cx) (x:Str) (d:PySem.PyData):Prop:=∃u v,X.mg x=some u/\RelV v u/\∀H,Rep X.K H v d
section
variable {X:Cx} {N gl:List Str} {vs cs ls lo gs:List Nat} {W:XW} {a b c e:Expr} {es:List Expr} {pos p:Pos} {fa fb fc:F1} {fl:FL} {ga gb:FB} {g1 g2:FS}
theorem cm (S:Cp X N gl vs cs ls lo gs) (i:Nat) (hN:N[i]?=some x) (hv:vs.contains i=true):PE X (.Name x pos) (tE X.K W (eMove i)):=by
 have m:=S.nm x (mem_of_getElem? hN)
 exact de_move (zCD (by rw [S.hN];exact hN) (S.vis i x hN hv) m.1 m.2)
theorem Cp.g (S:Cp X N gl vs cs ls lo gs) {j:Nat} (hj:gl[j]?=some x) (hg:gs.contains j=true):Gl X x/\(x==("__debug__":Str))=false/\x ≠ "__name__":=
 ⟨S.glb j x hj hg,S.ng x (mem_of_getElem? hj)⟩
def rLtA:R2:=fun x y H Q=>rI0 (fun i j=>.bl (decide (i<j))) x y H Q\/∃i j,x=.str i/\y=.str j/\Q (.bl (decide (i.cps.toList<j.cps.toList))) H
theorem ol_lt:OpR X (compareOp .Lt) rLtA:=op_lt.or op_lt_str
def gGeS:PySem.PyData->PySem.PyData->Option PySem.PyData
 | .str i,.str j=>some (.bool (!decide (i.cps.toList<j.cps.toList)))
 | _,_=>none
abbrev gGeA:PySem.PyData->PySem.PyData->Option PySem.PyData:=fun a b=>(gGe a b).or (gGeS a b)
def rGeA:R2:=fun x y H Q=>rI0 (fun i j=>.bl (decide (j<=i))) x y H Q\/∃i j,x=.str i/\y=.str j/\Q (.bl (!decide (i.cps.toList<j.cps.toList))) H
theorem op_ge_str:OpR X (compareOp .GtE) (fun x y H Q=>∃i j,x=.str i/\y=.str j/\Q (.bl (!decide (i.cps.toList<j.cps.toList))) H):=by
 intro pins s σ H x y v u Q I rx ry h
 obtain ⟨i,j,rfl,rfl,q⟩:=h
 obtain ⟨t,rfl⟩:=rx
 obtain ⟨t',rfl⟩:=ry
 exact PySem.P.ge_str (zGJ I q rfl)
theorem ol_ge:OpR X (compareOp .GtE) rGeA:=op_ge.or op_ge_str
theorem gop_geS:GOp K (fun x y H Q=>∃i j,x=.str i/\y=.str j/\Q (.bl (!decide (i.cps.toList<j.cps.toList))) H) gGeS:=by
 intro x y H Q a b d ra rb e k
 cases ra<;>cases rb<;>simp only [gGeS] at e<;>try cases e
 rename_i i j
 exact ⟨i,j,rfl,rfl,k _ (.bl _)⟩
theorem gop_ge:GOp K rGeA gGeA:=(zEV fun _ _=>.bl _).or gop_geS
structure Ck (X:Cx) (op:CmpOp) (r:R2) (g:PySem.PyData->PySem.PyData->Option PySem.PyData):Prop where
 o:OpR X (compareOp op) r
 g:GOp X.K r g
theorem q_lt (R:Rm X):Ck X .Lt rLtA gLt:=⟨ol_lt,gop_lt⟩
theorem q_le (R:Rm X):Ck X .LtE (rI0 fun i j=>.bl (decide (i<=j))) gLe:=⟨op_le,zEV fun _ _=>.bl _⟩
theorem q_gt (R:Rm X):Ck X .Gt (rI0 fun i j=>.bl (decide (j<i))) gGt:=⟨op_gt,zEV fun _ _=>.bl _⟩
theorem q_ge (R:Rm X):Ck X .GtE rGeA gGeA:=⟨ol_ge,gop_ge⟩
theorem q_eq (R:Rm X):Ck X .Eq (rEqD X.K false) gEq:=⟨zGW R,gop_eq⟩
theorem q_ne (R:Rm X):Ck X .NotEq (rEqD X.K true) gNe:=⟨op_neD R,gop_ne⟩
theorem q_in (R:Rm X):Ck X .In (rInD X.K false) (gIn false):=⟨op_inD R,gop_in⟩
theorem zEC (R:Rm X):Ck X .NotIn (rInD X.K true) (gIn true):=⟨op_notInD R,gop_in⟩
theorem ct {op:CmpOp} {r:R2} {g:PySem.PyData->PySem.PyData->Option PySem.PyData} (k:Ck X op r g) (ha:PE X a (tE X.K W fa)) (hb:PE X b (tE X.K W fb)) (hm:behindInMarks op b=false):PT X (.Compare a [op] [b] pos) (tT X.K W (bOf gBool (eOp g fa fb))):=dt_cmp k.o k.g ha hb hm
abbrev Blk (X:Cx) (N gl:List Str) (vs cs ls lo gs:List Nat) (R:Cx->Prop):Prop:=∀Y:Cx,Cp Y N gl vs cs ls lo gs->Fx X Y->R Y
theorem co {fi:FI} {fe:F1} {fc:FB} {vs' cs' lo' gs':List Nat} (S:Cp X N gl vs cs ls lo gs) (s:Sh) (i:Nat) (hx:N[i]?=some x) (h1:compB N i cs scope=true) (h2:cpB N gl vs' cs' [i] lo' gs' scope=true)
  (hi':PI X (.Name x px) iter (tI X.K W fi)) (hc:Blk X N gl vs' cs' [i] lo' gs' fun Y=>PF Y ifs (tT Y.K W0 fc)) (he:Blk X N gl vs' cs' [i] lo' gs' fun Y=>PE Y elt (tE Y.K W0 fe)) (hs:∀x,foldedSetIterable iter X.env x=pure x) :
  PE X (.ListComp elt [⟨.Name x px,iter,ifs,0⟩] scope pos) (tE X.K W (eComp s i fi fc fe)):=by
 have B:=fun cells C s₀ H₀ ex=>S.blk h2 cells C s₀ H₀ ex
 have L:=fun cells C s₀ H₀ ex=>(B cells C s₀ H₀ ex).loc i x hx (by simp)
 exact de_comp (X:=X) s i (compB_ok S h1) (by rw [S.hN];exact S.nd) hi' (fun cells C s₀ H₀ ex=>hc _ (B cells C s₀ H₀ ex) ⟨rfl,rfl,rfl,rfl,rfl,rfl⟩) (fun cells C s₀ H₀ ex=>he _ (B cells C s₀ H₀ ex) ⟨rfl,rfl,rfl,rfl,rfl,rfl⟩)
  S.calm (by rw [S.hN];exact hx) (fun cells C s₀ H₀ ex=>(L cells C s₀ H₀ ex).1) (fun cells C s₀ H₀ ex=>(L cells C s₀ H₀ ex).2) hs
theorem swaps_true {gens:List Comprehension} {line:Nat} (hk:X.env.scope.kind=.function) (hy:X.env.scope.names.lookup y=some .local) (hl:(pos'.line==pos.line)=true)
  (hn:(scope.names.any fun (n,k)=>n==y&&(k==NameKind.local||k==NameKind.cell))=false):swapsWith (.ListComp elt gens scope pos) (some (.Name y pos')) line X.env=pure true:=by
 have e1:(X.env.blockKind==ScopeKind.function)=true:=by unfold Env.blockKind;rw [hk];rfl
 have e2:(X.env.kindOf y==some NameKind.local)=true:=by unfold Env.kindOf;rw [hy];rfl
 show (pure (X.env.blockKind==.function&&X.env.kindOf y==some .local&&pos'.line==pos.line&&!(scope.names.any fun (n,k)=>n==y&&(k==NameKind.local||k==NameKind.cell))):Sem Bool)=pure true
 rw [e1,e2,hl,hn]
 rfl
theorem cs_append (S:Cp X N gl vs cs ls lo gs) (i:Nat) (hi:N[i]?=some x) (hv:vs.contains i=true) (ha:PE X a (tE X.K W fa)) (hs:starEach [a] X.env=[(false,eval a X.env)])
  (hbase:attributeBase (.Name x p) "append" X.env (eval (.Name x p) X.env)=eval (.Name x p) X.env) (hline:(apos.endLine==cpos.line)=true)
  (hfew:((backTo cpos (starEach [a] X.env)).all (fun x=>!x.1)&&(backToKw cpos (keywordEach [] X.env)).all (fun x=>x.1.isSome)
   && decide ([a].length+([]:List Keyword).length+(if ([]:List Keyword).isEmpty then 0 else 1)<30))=true)
  (hsw:swapsWith (.Call (.Attribute (.Name x p) "append" apos) [a] [] cpos) none pos.line X.env=pure false) :
  PS X (.Expr (.Call (.Attribute (.Name x p) "append" apos) [a] [] cpos) pos) (tS X.K W (zAV i fa)):=
 ds_append i ha (by rw [S.hN];exact hi) (S.vis i x hi hv) (S.nm x (mem_of_getElem? hi)).1 (S.nm x (mem_of_getElem? hi)).2 hs hbase hline hfew hsw
end
def eU (g:PySem.PyData->Option PySem.PyData) (fa:F1):F1:=eBind fa fun p U=>match g p.d with
 | some d=>.ok ⟨.leaf,d⟩ U
 | none=>.no
def gNeg:PySem.PyData->Option PySem.PyData
 | .int i=>some (.int (-i))
 | _=>none
def eRep (fa fb:F1):F1:=eBind fa fun p=>eBind fb fun q=>fun U=>match p.s,p.d,q.d with
 | .lst .leaf,.list ds,.int k=>if inRng k&&decide (ds.length*k.toNat<=sizeLine) then .ok ⟨.lst .leaf,.list (List.replicate k.toNat ds).flatten⟩ U else .no
 | _,_,_=>.no
def zA8:Option (Option PV)->Bool
 | some (some ⟨.lst .leaf,.list _⟩)=>true
 | _=>false
def setK (i:Nat) (p q:PV) (U:Ev):OutS:=match U[i]? with
 | some (some ⟨.lst .leaf,.list ds⟩)=>(match q.d with
  | .int k=>(match ixN ds.length k with
   | some j=>if T.coer .leaf p then .nx (U.set i (some ⟨.lst .leaf,.list (ds.set j p.d)⟩)) else .no
   | none=>.no)
  | _=>.no)
 | _=>.no
def sSetI (i:Nat) (fv fk:F1):FS:=fun U=>if zA8 U[i]? then sOf fv (fun p=>sOf fk (setK i p)) U else .no
def zDW (n:Nat) (ss:List Sh) (ds:List PySem.PyData):Ev:=(ss.zip ds).map (fun x=>some ⟨x.1,x.2⟩)++List.replicate (n-ds.length) none
section
variable {K:Fg} {W:XW} {σ:St} {H:Hp} {Q:VK} {D:Ends} {fa fb:F1} {fl:FL}
theorem rd_un {r:V->Hp->VK->Prop} {g:PySem.PyData->Option PySem.PyData} (hg:∀x H Q a d,Rep K H x a->g a=some d->(∀v,Sc v d->Q v H)->r x H Q) (h:tE K W (eU g fa) σ H Q):tUn r (tE K W fa) σ H Q:=by
 refine zD8 h fun He O Fs U1 p v H1 G Fs1 nd A h1=>?_
 cases e:g p.d with
 | none=>rw [e] at h1;exact h1.elim
 | some d=>
  rw [e] at h1
  exact hg v H1 Q p.d d A.own.rep e fun u hu=>Wants.scal h1 hu A.same A.env.dropL (fun a ha=>ha) nd fun a ha=>A.new a (mem_append_right _ ha)
theorem zEJ:∀{Fs:List (List Addr)},(∀F∈Fs,F=[])->Fs.flatten=[]
 | [],_=>rfl
 | F::r,h=>by rw [flatten_cons,h F mem_cons_self,zEJ fun G hG=>h G (mem_cons_of_mem _ hG)];rfl
theorem Own.leaves {O:List Addr} {v:V} (h:Own K O H (.lst .leaf) G v (.list ds)):∃l vs,v=.ref l/\G=[l]/\H l=some (.lst vs)/\vs.length=ds.length/\∀(j:Nat) u d,vs[j]?=some u->ds[j]?=some d->Rep K (hid H O) u d:=by
 cases h with
 | @lst _ l vs _ Fs hsv hp hl hf nd q=>
  have hF:∀F∈Fs,F=[]:=fun F hF=>by
   obtain ⟨j,hj,e⟩:=getElem_of_mem hF
   have o:=q j (vs[j]'(by omega)) (ds[j]'(by omega)) F (getElem?_eq_getElem _) (getElem?_eq_getElem _) (by rw [getElem?_eq_getElem hj,e])
   cases o
   rfl
  refine ⟨l,vs,rfl,by rw [zEJ hF],hp,hl,fun j u d h1 h2=>?_⟩
  have hj:=(List.getElem?_eq_some_iff.mp h2).1
  have o:=q j u d (Fs[j]'(by omega)) h1 h2 (getElem?_eq_getElem _)
  generalize Fs[j]'(by omega)=F at o
  cases o with
  | leaf r=>exact r
theorem Own.mkLeaves {O:List Addr} {l:Addr} (hp:H l=some (.lst vs)) (hl:vs.length=ds.length) (q:∀(j:Nat) u d,vs[j]?=some u->ds[j]?=some d->Rep K (hid H O) u d):Own K O H (.lst .leaf) [l] (.ref l) (.list ds):=by
 have hF:(List.replicate ds.length ([]:List Addr)).flatten=[]:=zEJ fun F hF=>(List.mem_replicate.mp hF).2
 have o:Own K O H (.lst .leaf) (l::(List.replicate ds.length ([]:List Addr)).flatten) (.ref l) (.list ds):=by
  refine .lst rfl hp hl (by simp) (by rw [hF];simp) fun j u d F h1 h2 h3=>?_
  have:F=[]:=(List.mem_replicate.mp (mem_of_getElem? h3)).2
  subst this
  exact .leaf (q j u d h1 h2)
 rw [hF] at o
 exact o
theorem tS_two {k:PV->PV->Ev->OutS} (h:tS K W (sOf fa fun p=>sOf fb (k p)) D σ H)
  (hk:∀He O U2 p q v u H1 H2 G1 G2 Fs2,O.Nodup->Same H H1->Same H1 H2->EnvOk K He (G2++(G1++O)) Fs2 H2 σ U2->(∀a∈G2++G1,He a=none) ->
   Own K (G2++(G1++O)++Fs2.flatten) H2 p.s G1 v p.d->Own K (G2++(G1++O)++Fs2.flatten) H2 q.s G2 u q.d->zCG K W He O D (k p q U2)->R v u H2) :
  tE K W fa σ H fun v H1=>tE K W fb σ H1 fun u H2=>R v u H2:=by
 refine tS_of h fun He O Fs U1 p v H1 G1 Fs1 _ fr A1 h1=>?_
 refine ⟨He,G1++O,Fs1,U1,A1.env,?_⟩
 unfold sOf at h1
 have nd:O.Nodup:=(List.nodup_append.mp A1.env.ndO).2.1
 cases e:fb U1 with
 | ok q U2=>
  rw [e] at h1
  intro u H2 G2 Fs2 A2
  refine hk He O U2 p q v u H1 H2 G1 G2 Fs2 nd A1.same A2.same A2.env (fun a ha=>?_) (A1.own.mono A2.same fun a ha=>?_) A2.own h1
  ·rcases List.mem_append.mp ha with z | z
   ·exact A2.freshG A1.env a z
   ·exact fr a z
  ·rcases List.mem_append.mp ha with z | z
   ·rcases List.mem_append.mp z with z | z
    ·rcases A2.new a (mem_append_left _ z) with y | y
     ·exact .inl (mem_append_right _ y)
     ·exact .inr y
    ·exact .inl (mem_append_left _ z)
   ·rcases A2.new a (mem_append_right _ z) with y | y
    ·exact .inl (mem_append_right _ y)
    ·exact .inr y
 | er c U2=>
  rw [e] at h1
  intro H2 Fs2 hs E2
  exact h1 σ H2 Fs2 E2.dropL
 | no=>
  rw [e] at h1
  exact h1
theorem tE_mono {Q':VK} (h:tE K W fa σ H Q) (hq:∀v H',Q v H'->Q' v H'):tE K W fa σ H Q':=by
 obtain ⟨He,O,Fs,U,E,h⟩:=h
 refine ⟨He,O,Fs,U,E,?_⟩
 cases e:fa U with
 | ok p U'=>rw [e] at h;exact fun v H' G Fs' A=>hq v H' (h v H' G Fs' A)
 | er c U'=>rw [e] at h;exact h
 | no=>rw [e] at h;exact h
theorem EnvOk.chg {O:List Addr} {U:Ev} {i:Nat} (E:EnvOk K He O Fs H σ U) (h:U[i]?=some (some ⟨.lst .leaf,.list ds⟩)) :
  ∃l vs,σ[i]?=some (some (.ref l))/\H l=some (.lst vs)/\vs.length=ds.length/\(∀(j:Nat) u d,vs[j]?=some u->ds[j]?=some d->Rep K (hid H (O++Fs.flatten)) u d) /\
   ∀(vs':List V) (ds':List PySem.PyData),vs'.length=ds'.length->(∀(j:Nat) u d,vs'[j]?=some u->ds'[j]?=some d->Rep K (hid H (O++Fs.flatten)) u d)->∃Fs',EnvOk K He O Fs' (upd H l (.lst vs')) σ (U.set i (some ⟨.lst .leaf,.list ds'⟩)):=by
 obtain ⟨hv,v,F,h1,E1,o1,sub⟩:=E.move h
 have hi:i<U.length:=(List.getElem?_eq_some_iff.mp h).1
 obtain ⟨_,v0,F0,h10,h20,o0⟩:=E.slot i _ h
 obtain ⟨l,vs,rfl,rfl,hp,hl,hr⟩:=o1.leaves
 obtain ⟨l',vs',e0,e1,hp',hl',hr'⟩:=o0.leaves
 rw [h1] at h10
 cases h10
 cases e0
 rw [hp] at hp'
 cases hp'
 refine ⟨l,vs,h1,hp,hl,hr',fun ws ds' hw q=>?_⟩
 have hlF:l∈Fs.flatten:=sub l (mem_append_left _ (List.mem_singleton.mpr rfl))
 have hHe:He l=none:=E.fresh l hlF
 have E4:=E1.mutO (o:=.lst ws) (mem_append_left _ (List.mem_singleton.mpr rfl)) hp hHe
 have ownL:Own K ([l]++O++(Fs.set i []).flatten) (upd H l (.lst ws)) (.lst .leaf) [l] (.ref l) (.list ds'):=by
  refine Own.mkLeaves zAF hw fun j u d a1 a2=>?_
  rw [hid_upd (mem_append_left _ (mem_append_left _ (List.mem_singleton.mpr rfl)))]
  refine (q j u d a1 a2).mono (zAP (Same.refl _) fun a ha=>.inl ?_)
  rcases List.mem_append.mp ha with z | z
  ·rcases List.mem_append.mp z with z | z
   ·rw [List.mem_singleton.mp z];exact mem_append_right _ hlF
   ·exact mem_append_left _ z
  ·exact mem_append_right _ (sub a (mem_append_right _ z))
 have fin:=EnvOk.put (i:=i) (p:=⟨.lst .leaf,.list ds'⟩) (v:=.ref l) E4 ownL rfl (fun a ha=>by rw [List.mem_singleton.mp ha];exact hHe) (by rw [length_set];exact hi)
 rw [set_set,set_set,zCK h1] at fin
 exact ⟨_,fin⟩
theorem zBV {o:Option (Option PV)} (h:zA8 o=true):∃ds,o=some (some ⟨.lst .leaf,.list ds⟩):=by
 unfold zA8 at h
 split at h
 ·exact ⟨_,rfl⟩
 ·cases h
theorem rd_setI {i:Nat} (h:tS K W (sSetI i fa fb) D σ H):tAsg (tE K W fa) (L2.gSub (tVar i) (tE K W fb) rSetL) D σ H:=by
 obtain ⟨He,O,Fs,U,E,h⟩:=h
 unfold sSetI at h
 cases ho:zA8 U[i]? with
 | false=>rw [ho] at h;exact h.elim
 | true=>
  rw [ho] at h
  obtain ⟨ds,e0⟩:=zBV ho
  obtain ⟨l,vs,h1,h2,h3,_,_⟩:=E.chg e0
  refine tE_mono (tS_two (D:=D) (R:=fun v u H2=>rSetL (.ref l) u v H2 fun H3=>D.nx σ H3) ⟨He,O,Fs,U,E,h⟩ fun He O U2 p q v u H1 H2 G1 G2 Fs2 nd s1 s2 E2 fr o1 o2 w=>?_) fun v H' q=>⟨.ref l,h1,q⟩
  unfold setK at w
  split at w
  ·rename_i ds1 e1
   split at w
   ·rename_i k ek
    split at w
    ·rename_i j ej
     cases hc:T.coer .leaf p with
     | false=>rw [hc] at w;exact w.elim
     | true=>
      rw [hc] at w
      have E3:EnvOk K He O Fs2 H2 σ U2:=E2.drop (fun a ha=>mem_append_right _ (mem_append_right _ ha)) nd
      obtain ⟨l1,vs1,q1,q2,q3,q4,q5⟩:=E3.chg e1
      rw [h1] at q1
      cases q1
      have hu:=o2.rep
      rw [ek] at hu
      cases hu
      have ov:Own K (O++Fs2.flatten) H2 .leaf [] v p.d:=by
       refine o1.coer (s:=.leaf) hc (fun a ha=>?_) fun a ha z=>?_
       ·rcases List.mem_append.mp ha with z | z
        ·exact mem_append_left _ (mem_append_right _ (mem_append_right _ z))
        ·exact mem_append_right _ z
       ·exfalso
        have ndE:=E2.nd
        rw [append_assoc] at ndE
        have n2:=(List.nodup_append.mp ndE).2.1
        rw [append_assoc] at n2
        exact (List.nodup_append.mp n2).2.2 a ha a z rfl
      cases ov with
      | leaf rv=>
       have ixl:ixN vs1.length k=some j:=by rw [q3];exact ej
       obtain ⟨Fs',E4⟩:=q5 (vs1.set j v) (ds1.set j p.d) (by rw [length_set,length_set,q3]) fun m x d a1 a2=>by
        by_cases hm:m=j
        ·subst hm
         rw [getElem?_set] at a1 a2
         rw [if_pos rfl] at a1 a2
         split at a1
         ·split at a2
          ·cases a1;cases a2;exact rv
          ·cases a2
         ·cases a1
        ·rw [getElem?_set_ne (Ne.symm hm)] at a1 a2
         exact q4 m x d a1 a2
       exact ⟨l,vs1,k,j,rfl,rfl,q2,ixl,w σ _ Fs' E4⟩
    ·exact w.elim
   ·exact w.elim
  ·exact w.elim
end
section
variable {P:Program} {w:World} {K:Fg} {mg:Str->Option Value} {base:Heap}
theorem env_startM {H:Hp} {O:List Addr} {ss:List Sh} (hn:ss.length<=N.length) (hv:vs.length=ss.length) (hG:Gs.length=ss.length) (hd:ds.length=ss.length) (nd:(Gs.flatten++O).Nodup) (inH:∀a∈Gs.flatten++O,H a≠none) (nv:∀s∈ss,s.isView=false)
  (ow:∀(i:Nat) v d G s,vs[i]?=some v->ds[i]?=some d->Gs[i]?=some G->ss[i]?=some s->Own K (Gs.flatten++O) H s G v d) :
  EnvOk K (hid H Gs.flatten) O (Gs++List.replicate (N.length-ss.length) []) H (L2.start N vs) (zDW N.length ss ds):=by
 have fl:(Gs++List.replicate (N.length-ss.length) ([]:List Addr)).flatten=Gs.flatten:=by simp
 have pm:(O++Gs.flatten).Perm (Gs.flatten++O):=perm_append_comm
 refine ⟨by simp [L2.start,zDW,hd,hv],by simp [zDW,hd,hG],hid_le,by rw [fl];exact pm.nodup_iff.mpr nd,fun a ha=>inH a (by rw [fl] at ha;exact pm.mem_iff.mp ha),fun a ha=>by rw [fl] at ha;unfold hid;rw [if_pos ha],fun i p hp=>?_⟩
 unfold zDW at hp
 have hzl:((ss.zip ds).map (fun x=>some (⟨x.1,x.2⟩:PV))).length=ss.length:=by simp [hd]
 by_cases hi:i<ss.length
 ·rw [getElem?_append_left (by rw [hzl];exact hi),getElem?_map] at hp
  have hz:(ss.zip ds)[i]?=some (ss[i]'hi,ds[i]'(by omega)):=by
   rw [getElem?_eq_getElem (by simp;omega),List.getElem_zip]
  rw [hz] at hp
  cases hp
  refine ⟨nv _ (getElem_mem _),vs[i]'(by omega),Gs[i]'(by omega),?_,?_,?_⟩
  ·unfold L2.start
   rw [getElem?_append_left (by simp;omega),getElem?_map,getElem?_eq_getElem (by omega)]
   rfl
  ·rw [getElem?_append_left (by omega),getElem?_eq_getElem]
  ·refine (ow i _ _ _ _ (getElem?_eq_getElem _) (getElem?_eq_getElem (by omega)) (getElem?_eq_getElem (by omega)) (getElem?_eq_getElem hi)).perm fun a ha=>?_
   rw [fl] at ha
   exact pm.mem_iff.mp ha
 ·rw [getElem?_append_right (by rw [hzl];omega),getElem?_replicate] at hp
  split at hp<;>cases hp
end
theorem Own.step {O:List Addr} {H:Hp} {s:Sh} {v:V} {d:PySem.PyData} (h:Own K O H s G v d) (hs:s.isView=false) (e:Same (hid H M) H') (hM:∀a∈M,a∈O) (hG:∀a∈G,a∉M) (hO:∀a∈O',a∈O\/hid H M a=none):Own K O' H' s G v d:=by
 induction h with
 | view r=>cases hs
 | leaf r=>
  refine .leaf (r.mono fun b o q=>?_)
  have hb:b∉O:=fun z=>by unfold hid at q;rw [if_pos z] at q;cases q
  have q1:H b=some o:=hid_le b o q
  have q2:hid H M b=some o:=zBA q1 fun z=>hb (hM b z)
  exact zBA (e b o q2) fun z=>(hO b z).elim hb fun y=>by rw [q2] at y;cases y
 | lst hv hp hl hf nd q ih=>exact .lst hv (e _ _ (zBA hp (hG _ mem_cons_self))) hl hf nd fun i v d F h1 h2 h3=>ih i v d F h1 h2 h3 hv fun a ha=>hG a (mem_cons_of_mem _ (zA0 h3 ha))
 | @tup ss p vs ds Fs hv hp hn hl hf hs' nd q ih=>
  have q2:hid H M p=some (.tup vs):=zBA hp fun z=>hn (hM _ z)
  exact .tup hv (e _ _ q2) (fun z=>(hO _ z).elim hn fun y=>by rw [q2] at y;cases y) hl hf hs' nd fun i v d F s h1 h2 h3 h4=>ih i v d F s h1 h2 h3 h4 (hv _ (mem_of_getElem? h4)) fun a ha=>hG a (zA0 h3 ha)
section
variable {K:Fg} {W:XW} {σ:St} {H:Hp} {Q:VK} {D:Ends} {fa fb:F1} {fl:FL}
theorem EnvOk.step {O:List Addr} {U:Ev} (E:EnvOk K He (M++O) Fs H σ U) (e:Same (hid H M) H') (hHe:∀a∈M,He a=none) (gn:G.Nodup) (gf:∀a∈G,hid H M a=none) (gi:∀a∈G,H' a≠none):EnvOk K He (G++O) Fs H' σ U:=by
 have nd:=E.nd
 rw [append_assoc] at nd
 obtain ⟨n1,n2,n3⟩:=List.nodup_append.mp nd
 have st:∀a∈O++Fs.flatten,H' a≠none/\a∉G:=fun a ha=>by
  have h1:H a≠none:=E.inH a (by rw [append_assoc];exact mem_append_right _ ha)
  cases h2:H a with
  | none=>exact absurd h2 h1
  | some o=>
   have h3:hid H M a=some o:=zBA h2 fun z=>n3 a z a ha rfl
   exact ⟨by rw [e a o h3];exact Option.some_ne_none _,fun z=>by have:=gf a z;rw [h3] at this;cases this⟩
 refine ⟨E.len1,E.len2,fun b o q=>e b o (zBA (E.same b o q) fun z=>by have:=hHe b z;rw [q] at this;cases this),?_,fun a ha=>?_,E.fresh,fun i p q=>?_⟩
 ·rw [append_assoc]
  exact List.nodup_append.mpr ⟨gn,n2,fun a ha b hb z=>(st b hb).2 (z▸ha)⟩
 ·rw [append_assoc] at ha
  rcases List.mem_append.mp ha with z | z
  ·exact gi a z
  ·exact (st a z).1
 ·obtain ⟨hv,v,F,h1,h2,h3⟩:=E.slot i p q
  refine ⟨hv,v,F,h1,h2,h3.step hv e (fun a ha=>mem_append_left _ (mem_append_left _ ha)) (fun a ha z=>n3 a z a (mem_append_right _ (zA0 h2 ha)) rfl) fun a ha=>?_⟩
  rw [append_assoc] at ha
  rcases List.mem_append.mp ha with z | z
  ·exact .inr (gf a z)
  ·exact .inl (by rw [append_assoc];exact mem_append_right _ z)
end
section
variable {X:Cx}
theorem un_neg:UnR X (unaryOp .USub) (fun x H Q=>∃i,x=.int i/\Q (.int (-i)) H):=by
 intro pins s σ H x v Q I rx h
 obtain ⟨i,rfl,q⟩:=h
 obtain ⟨t,rfl⟩:=rx
 exact neg_int ⟨.int (-i),H,I.tok _,⟨_,rfl⟩,q⟩
end
section
variable {X:Cx}
variable {N gl:List Str} {vs cs ls lo gs:List Nat} {W:XW} {a b c e:Expr} {es:List Expr} {pos p:Pos} {fa fb fc:F1} {fl:FL} {g:FS}
end
def zDZ:Expr->Bool
 | .Starred ..=>true
 | _=>false
theorem zAA {e:Expr} (h:zDZ e=false):starEach (e::es) env=(false,eval e env)::starEach es env:=by
 cases e<;>first | rfl | cases h
theorem zAN {a:Expr} (h:zDZ a=false):starEach [a] env=[(false,eval a env)]:=zAA h
theorem star_two {a b:Expr} (h:zDZ a=false) (h2:zDZ b=false):starEach [a,b] env=[(false,eval a env),(false,eval b env)]:=by rw [zAA h,zAN h2]
def DefOk (P:Program) (w:World) (K:Fg) (mg:Str->Option Value) (base:Heap) (j:Nat) (x:Str) (n:Nat) (den:List PySem.PyData->Res):Prop:=
 ∃(f:Addr) (fd:FuncData) (ps:List Str),FnOk P w K mg base CX0 j f fd ps (spD K n den)/\mg x=some (.ref f)/\PySem.W.keepIn K (.ref f)=true/\Binds K fd ps []
def ConK (K:Fg) (mg:Str->Option Value) (x:Str) (d:PySem.PyData):Prop:=∃u v,mg x=some u/\RelV v u/\∀H,Rep K H v d
theorem DefOk.cal {j k:Nat} {den:List PySem.PyData->Res} (h:DefOk X.prog X.w X.K X.mg X.base j x n den) (hr:Room k X.A) (hj:decide (j<=k)=true):Cal X x n den:=by
 obtain ⟨f,fd,ps,F,a,b,c⟩:=h
 exact ⟨j,f,fd,ps,F,hr.mono (of_decide_eq_true hj),a,b,c⟩
def toV:PySem.PyData->V
 | .none=>.non
 | .bool b=>.bl b
 | .int i=>.int i
 | .str x=>.str x
 | _=>.non
def chkV:List Value->List PySem.PyData->Bool
 | .int i _::r,.int j::ds=>decide (i=j)&&chkV r ds
 | .str x _::r,.str y::ds=>decide (x=y)&&chkV r ds
 | [],[]=>true
 | _,_=>false
theorem zF7:∀{us:List Value} {ds:List PySem.PyData},chkV us ds=true->Vals (ds.map toV) us/\∀d∈ds,Sc (toV d) d
 | [],[],_=>⟨.nil,fun d hd=>(nomatch hd)⟩
 | .int i t::r,.int j::ds,h=>by
  simp only [chkV,Bool.and_eq_true,decide_eq_true_eq] at h
  obtain ⟨rfl,h⟩:=h
  obtain ⟨a,b⟩:=zF7 h
  refine ⟨.cons ⟨t,rfl⟩ a,fun d hd=>?_⟩
  rcases List.mem_cons.mp hd with z | z
  ·rw [z];exact .int i
  ·exact b d z
 | .str i t::r,.str j::ds,h=>by
  simp only [chkV,Bool.and_eq_true,decide_eq_true_eq] at h
  obtain ⟨rfl,h⟩:=h
  obtain ⟨a,b⟩:=zF7 h
  refine ⟨.cons ⟨t,rfl⟩ a,fun d hd=>?_⟩
  rcases List.mem_cons.mp hd with z | z
  ·rw [z];exact .str i
  ·exact b d z
def chkT (its:Array Value) (ds:List PySem.PyData):Bool:=decide (its.size<=sizeLine)&&chkV its.toList ds
theorem con_tup {dd:Option Addr} {its:Array Value} {sl:Array (Option Value)} (hm:mg x=some (.ref a)) (l:K.lookup a=some ⟨.type "tuple",dd,.seq its n,sl⟩) (h:chkT its ds=true):ConK K mg x (.tuple ds):=by
 unfold chkT at h
 simp only [Bool.and_eq_true,decide_eq_true_eq] at h
 obtain ⟨v,s⟩:=zF7 h.2
 refine ⟨.ref a,.ref a,hm,rfl,fun H=>.tup (vs:=ds.map toV) (.inr ⟨_,its,n,l,rfl,rfl,h.1,v⟩) (by simp) fun i v d h1 h2=>?_⟩
 rw [getElem?_map,h2] at h1
 cases h1
 exact (s d (mem_of_getElem? h2)).rep
theorem con_int {i:Int} {t:Tok} (hm:mg x=some (.int i t)):ConK K mg x (.int i):=⟨.int i t,.int i,hm,⟨t,rfl⟩,fun H=>.int i⟩
theorem law_sp {m:List PySem.PyData->Res} {H:Hp} {ns:List Int} {E:XK} (h:m [.list (ns.map .int)]=.ok ⟨.leaf,.bool true⟩) (hS:SqL K H a (ns.map V.int)):spD K 1 m [.ref a] H (fun v _=>v=.bl true) E:=by
 refine ⟨rfl,[],[.list (ns.map .int)],nodup_nil,(fun _ z=>nomatch z),⟨rfl,fun i v d h1 h2=>?_⟩,?_⟩
 ·rw [hid_nil]
  match i,h1,h2 with
  | 0,h1,h2=>
   cases h1
   cases h2
   refine .lst hS (by simp) fun i v d h1 h2=>?_
   rw [getElem?_map] at h1 h2
   cases e:ns[i]? with
   | none=>rw [e] at h1;cases h1
   | some z=>
    rw [e] at h1 h2
    cases h1
    cases h2
    exact .int z
  | i+1,h1,h2=>simp at h1
 ·rw [h]
  intro v H' G r
  have o:=r.own.rep
  cases o
  rfl
end T
namespace TQ
open PySem PySem.Spec L2 T
open PyProof.Rows hiding St
variable {x:Str} {op':CmpOp} {r':R2} {g':PySem.PyData->PySem.PyData->Option PySem.PyData} {scope:Scope} {px pos':Pos} {iter elt tg:Expr} {ifs:List Expr} {fi:FI} {fe:F1} {vs' cs' lo' gs':List Nat}
structure Q (p:Prop):Prop where
 p:p
section
variable {X:Cx} {N gl:List Str} {vs cs ls lo gs:List Nat} {W:XW} {a b c e:Expr} {es:List Expr} {pos p:Pos} {fa fb fc:F1} {fl:FL} {ga gb:FB} {g1 g2 g:FS}
theorem w_cv (S:Cp X N gl vs cs ls lo gs) (i:Nat) (hN:N[i]?=some x) (hv:vs.contains i=true):Q (PE X (.Name x pos) (tE X.K W (eVar i))):=⟨by
 have m:=S.nm x (mem_of_getElem? hN)
 exact de_var (zCD (by rw [S.hN];exact hN) (S.vis i x hN hv) m.1 m.2)⟩
theorem w_cm (S:Cp X N gl vs cs ls lo gs) (i:Nat) (hN:N[i]?=some x) (hv:vs.contains i=true):Q (PE X (.Name x pos) (tE X.K W (eMove i))):=⟨T.cm S i hN hv⟩
theorem w_ck (S:Cp X N gl vs cs ls lo gs) (j:Nat) {d:PySem.PyData} (hj:gl[j]?=some x) (hg:gs.contains j=true) (h:Con X x d):Q (PE X (.Name x pos) (tE X.K W (eK d))):=⟨by
 obtain ⟨u,v,h1,h2,h3⟩:=h
 have q:=S.g hj hg
 exact de_glob q.1 h1 h2 h3 q.2.1⟩
theorem w_de_int {j:Int} {k pos}:Q (PE X (.Constant (.int j) k pos) (tE X.K W (eK (.int j)))):=⟨PEimp zEE fun _ _ _=>rd_k fun _=>.int j⟩
theorem zA4 {j:Bool} {k pos}:Q (PE X (.Constant (.bool j) k pos) (tE X.K W (eK (.bool j)))):=⟨PEimp pe_bl fun _ _ _=>rd_k fun _=>.bl j⟩
theorem w_de_none {k pos}:Q (PE X (.Constant .none k pos) (tE X.K W (eK .none))):=⟨PEimp zFO fun _ _ _=>rd_k fun _=>.non⟩
theorem w_de_str {j:Str} {k pos}:Q (PE X (.Constant (.str j) k pos) (tE X.K W (eK (.str j)))):=⟨PEimp zGV fun _ _ _=>rd_k fun _=>.str j⟩
theorem zAU (ha:Q (PE X a (tE X.K W fa))) (hb:Q (PE X b (tE X.K W fb))):Q (PE X (.BinOp a .Add b pos) (tE X.K W (eOp gAddI fa fb))):=⟨have ha:=ha.p;have hb:=hb.p;PEimp (pe_op op_add ha hb) fun _ _ _=>rd_op (zEV fun _ _=>.int _)⟩
theorem w_de_sub (ha:Q (PE X a (tE X.K W fa))) (hb:Q (PE X b (tE X.K W fb))):Q (PE X (.BinOp a .Sub b pos) (tE X.K W (eOp gSub fa fb))):=⟨have ha:=ha.p;have hb:=hb.p;PEimp (pe_op op_sub ha hb) fun _ _ _=>rd_op (zEV fun _ _=>.int _)⟩
theorem zDB (ha:Q (PE X a (tE X.K W fa))) (hb:Q (PE X b (tE X.K W fb))):Q (PE X (.BinOp a .Mult b pos) (tE X.K W (eOp gMul fa fb))):=⟨have ha:=ha.p;have hb:=hb.p;PEimp (pe_op op_mul ha hb) fun _ _ _=>rd_op (gop_I (fun i j h=>by
 simp only [cMul,Bool.or_eq_true,Bool.and_eq_true,decide_eq_true_eq] at h
 exact h) fun _ _=>.int _)⟩
theorem zBJ (ha:Q (PE X a (tE X.K W fa))) (hb:Q (PE X b (tE X.K W fb))):Q (PE X (.BinOp a .FloorDiv b pos) (tE X.K W (eOp gDiv fa fb))):=⟨have ha:=ha.p;have hb:=hb.p;PEimp (pe_op op_fdiv ha hb) fun _ _ _=>rd_op (gop_I (fun i j h=>by
 simp only [cDiv,Bool.and_eq_true,decide_eq_true_eq] at h
 exact h) fun _ _=>.int _)⟩
theorem zAT (ha:Q (PE X a (tE X.K W fa))) (hb:Q (PE X b (tE X.K W fb))):Q (PE X (.BinOp a .Mod b pos) (tE X.K W (eOp gMod fa fb))):=⟨have ha:=ha.p;have hb:=hb.p;PEimp (pe_op op_mod ha hb) fun _ _ _=>rd_op (gop_I (fun i j h=>by
 simp only [cMod,decide_eq_true_eq] at h
 exact h) fun _ _=>.int _)⟩
theorem w_de_pow (ha:Q (PE X a (tE X.K W fa))) (hb:Q (PE X b (tE X.K W fb))):Q (PE X (.BinOp a .Pow b pos) (tE X.K W (eOp gPow fa fb))):=⟨have ha:=ha.p;have hb:=hb.p;PEimp (pe_op op_pow ha hb) fun _ _ _=>rd_op (gop_I (fun i j h=>by
 simp only [cPow,Bool.and_eq_true,decide_eq_true_eq] at h
 exact ⟨h.1.1,h.1.2,h.2⟩) fun _ _=>.int _)⟩
theorem w_ce_neg (ha:Q (PE X a (tE X.K W fa))):Q (PE X (.UnaryOp .USub a pos) (tE X.K W (eU gNeg fa))):=⟨have ha:=ha.p;PEimp (pe_un un_neg ha) fun _ _ _=>rd_un fun x H Q a d r e k=>by
 cases r<;>simp only [gNeg] at e<;>cases e
 exact ⟨_,rfl,k _ (.int _)⟩⟩
theorem w_de_not (ha:Q (PE X a (tE X.K W fa))):Q (PE X (.UnaryOp .Not a pos) (tE X.K W (eNot fa))):=⟨have ha:=ha.p;PEimp (pe_not ha) fun _ _ _=>rd_not⟩
theorem w_ce {op:CmpOp} {r:R2} {g:PySem.PyData->PySem.PyData->Option PySem.PyData} (k:Ck X op r g) (ha:Q (PE X a (tE X.K W fa))) (hb:Q (PE X b (tE X.K W fb))) (hm:behindInMarks op b=false):Q (PE X (.Compare a [op] [b] pos) (tE X.K W (eOp g fa fb))):=⟨have ha:=ha.p;have hb:=hb.p;de_cmp k.o k.g ha hb hm⟩
theorem w_ce2 {op:CmpOp} {r:R2} {g:PySem.PyData->PySem.PyData->Option PySem.PyData} (k:Ck X op r g) (k':Ck X op' r' g') (ha:Q (PE X a (tE X.K W fa))) (hb:Q (PE X b (tE X.K W fb))) (hc:Q (PE X c (tE X.K W fc))) (hm:lastMarks [op,op'] [b,c]=false):Q (PE X (.Compare a [op,op'] [b,c] pos) (tE X.K W (zC4 g g' fa fb fc))):=⟨have ha:=ha.p;have hb:=hb.p;have hc:=hc.p;de_chain k.o k.g k'.o k'.g ha hb hc hm⟩
theorem zCU {op} (h:Q (PE X a (tE X.K W fa))):Q (PE X (.BoolOp op [a] pos) (tE X.K W fa)):=⟨L2.pe_one h.p⟩
theorem zB6 (ha:Q (PE X a (tE X.K W fa))) (hb:Q (PE X (.BoolOp .And (b::es) pos) (tE X.K W fb))):Q (PE X (.BoolOp .And (a::b::es) pos) (tE X.K W (eAnd fa fb))):=⟨have ha:=ha.p;have hb:=hb.p;PEimp (pe_and ha hb) fun _ _ _=>rd_and⟩
theorem w_de_if (hc:Q (PT X c (tT X.K W ga))) (ha:Q (PE X a (tE X.K W fa))) (hb:Q (PE X b (tE X.K W fb))):Q (PE X (.IfExp c a b pos) (tE X.K W (eIf ga fa fb))):=⟨have hc:=hc.p;have ha:=ha.p;have hb:=hb.p;PEimp (pe_ifExp hc ha hb) fun _ _ _=>rd_if⟩
theorem w_de_idx (ha:Q (PE X a (tE X.K W fa))) (hb:Q (PE X b (tE X.K W fb))) (hs:zFJ b):Q (PE X (.Subscript a b pos) (tE X.K W (eIdx fa fb))):=⟨have ha:=ha.p;have hb:=hb.p;PEimp (pe_ix zDI ha hb hs) fun _ _ _=>rd_idx⟩
theorem zAZ (s:Sh) (h:Q (PA X es (tA X.K W fl))):Q (PE X (.List es pos) (tE X.K W (eList s fl))):=⟨have h:=h.p;PEimp (zGF h) fun _ _ _=>rd_list⟩
theorem w_de_tup {x1} (h:Q (PA X es (tA X.K W fl))):Q (PE X (.Tuple es x1 pos) (tE X.K W (eTup fl))):=⟨have h:=h.p;PEimp (zCQ h) fun _ _ _=>rd_tup⟩
theorem w_da_nil :Q (PA X [] (tA X.K W eNil)):=⟨T.da_nil ⟩
theorem w_da_cons (ha:Q (PE X e (tE X.K W fa))) (hr:Q (PA X es (tA X.K W fl))) (hs:starEach (e::es) X.env=(false,eval e X.env)::starEach es X.env):Q (PA X (e::es) (tA X.K W (eCons fa fl))):=⟨T.da_cons ha.p hr.p hs⟩
theorem w_co {fc:FB} (S:Cp X N gl vs cs ls lo gs) (s:Sh) (i:Nat) (hx:N[i]?=some x) (h1:compB N i cs scope=true) (h2:cpB N gl vs' cs' [i] lo' gs' scope=true) (hi':Q (PI X (.Name x px) iter (tI X.K W fi))) (hc:Blk X N gl vs' cs' [i] lo' gs' fun Y=>Q (PF Y ifs (tT Y.K W0 fc))) (he:Blk X N gl vs' cs' [i] lo' gs' fun Y=>Q (PE Y elt (tE Y.K W0 fe))) (hs:∀x,foldedSetIterable iter X.env x=pure x):Q (PE X (.ListComp elt [⟨.Name x px,iter,ifs,0⟩] scope pos) (tE X.K W (eComp s i fi fc fe))):=⟨T.co S s i hx h1 h2 hi'.p (fun Y S F=>(hc Y S F).p) (fun Y S F=>(he Y S F).p) hs⟩
theorem zCO {y:Str} {spos:Pos} {fc:FB} (S:Cp X N gl vs cs ls lo gs) (own:Bool) (j:Nat) (s:Sh) (i:Nat) (hy:N[j]?=some y) (hyl:lo.contains j=true) (hx:N[i]?=some x) (hsl:(pos'.line==pos.line)=true) (hsn:(scope.names.any fun (n,k)=>n==y&&(k==NameKind.local||k==NameKind.cell))=false) (h1:compB N i cs scope=true) (h2:cpB N gl vs' cs' [i] lo' gs' scope=true) (hi':Q (PI X (.Name x px) iter (tI X.K W fi))) (hc:Blk X N gl vs' cs' [i] lo' gs' fun Y=>Q (PF Y ifs (tT Y.K W0 fc))) (he:Blk X N gl vs' cs' [i] lo' gs' fun Y=>Q (PE Y elt (tE Y.K W0 fe))) (hs:∀x,foldedSetIterable iter X.env x=pure x):Q (PS X (.Assign [.Name y pos'] (.ListComp elt [⟨.Name x px,iter,ifs,0⟩] scope pos) spos) (tS X.K W (sSet own j (eComp s i fi fc fe)))):=⟨by
 have hi':=hi'.p
 have hc:=fun Y S F=>(hc Y S F).p
 have he:=fun Y S F=>(he Y S F).p
 have B:=fun cells C s₀ H₀ ex=>S.blk h2 cells C s₀ H₀ ex
 have L:=fun cells C s₀ H₀ ex=>(B cells C s₀ H₀ ex).loc i x hx (by simp)
 exact ds_setComp (X:=X) own j s i (compB_ok S h1) (by rw [S.hN];exact S.nd) hi' (fun cells C s₀ H₀ ex=>hc _ (B cells C s₀ H₀ ex) ⟨rfl,rfl,rfl,rfl,rfl,rfl⟩) (fun cells C s₀ H₀ ex=>he _ (B cells C s₀ H₀ ex) ⟨rfl,rfl,rfl,rfl,rfl,rfl⟩)
  (swaps_true S.kind (S.loo j y hy hyl) hsl hsn) (by rw [S.hN];exact hy) (S.loo j y hy hyl) S.calm (by rw [S.hN];exact hx) (fun cells C s₀ H₀ ex=>(L cells C s₀ H₀ ex).1) (fun cells C s₀ H₀ ex=>(L cells C s₀ H₀ ex).2) hs⟩
theorem w_cb_len (S:Cp X N gl vs cs ls lo gs) (j:Nat) (hj:gl[j]?=some ("len":Str)) (hg:gs.contains j=true) (hm:X.mg "len"=none) (ha:Q (PA X (e::es) (tA X.K W fl))) (he:starEach (e::es) X.env=(false,eval e X.env)::starEach es X.env) (hpl:(backTo pos (starEach es X.env)).any (·.1)=false):Q (PE X (.Call (.Name "len" p) (e::es) [] pos) (tE X.K W (eCB gLen fl))):=⟨have ha:=ha.p;de_bi (call_len_seq.or call_len_str) gc_len b_len hm ha (S.g hj hg).1 (S.g hj hg).2.2 (S.g hj hg).2.1 he hpl⟩
theorem zCJ (S:Cp X N gl vs cs ls lo gs) (j:Nat) (hj:gl[j]?=some ("all":Str)) (hg:gs.contains j=true) (hm:X.mg "all"=none) (ha:Q (PA X (e::es) (tA X.K W fl))) (he:starEach (e::es) X.env=(false,eval e X.env)::starEach es X.env) (hpl:(backTo pos (starEach es X.env)).any (·.1)=false):Q (PE X (.Call (.Name "all" p) (e::es) [] pos) (tE X.K W (eCB (gAll false) fl))):=⟨have ha:=ha.p;de_bi (call_allD S.calm) gc_all b_all hm ha (S.g hj hg).1 (S.g hj hg).2.2 (S.g hj hg).2.1 he hpl⟩
theorem w_cb_max (S:Cp X N gl vs cs ls lo gs) (j:Nat) (hj:gl[j]?=some ("max":Str)) (hg:gs.contains j=true) (hm:X.mg "max"=none) (ha:Q (PA X (e::es) (tA X.K W fl))) (he:starEach (e::es) X.env=(false,eval e X.env)::starEach es X.env) (hpl:(backTo pos (starEach es X.env)).any (·.1)=false):Q (PE X (.Call (.Name "max" p) (e::es) [] pos) (tE X.K W (eCB gMax fl))):=⟨have ha:=ha.p;de_bi (call_max2 S.calm) gc_max b_max hm ha (S.g hj hg).1 (S.g hj hg).2.2 (S.g hj hg).2.1 he hpl⟩
theorem w_cb_int (S:Cp X N gl vs cs ls lo gs) (j:Nat) (hj:gl[j]?=some ("int":Str)) (hg:gs.contains j=true) (hm:X.mg "int"=none) (ha:Q (PA X (e::es) (tA X.K W fl))) (he:starEach (e::es) X.env=(false,eval e X.env)::starEach es X.env) (hpl:(backTo pos (starEach es X.env)).any (·.1)=false):Q (PE X (.Call (.Name "int" p) (e::es) [] pos) (tE X.K W (eCB gInt fl))):=⟨have ha:=ha.p;de_ty call_int1 gc_int b_int hm ha (S.g hj hg).1 (S.g hj hg).2.2 (S.g hj hg).2.1 he hpl⟩
theorem zD6 (S:Cp X N gl vs cs ls lo gs) (j:Nat) (hj:gl[j]?=some ("list":Str)) (hg:gs.contains j=true) (hm:X.mg "list"=none) (ha:Q (PE X e (tE X.K W fa))) (hs:starEach [e] X.env=[(false,eval e X.env)]):Q (PE X (.Call (.Name "list" p) [e] [] pos) (tE X.K W (zCB fa))):=⟨have ha:=ha.p;de_listOf hm ha (S.g hj hg).1 hs⟩
theorem w_cc {n:Nat} {den:List PySem.PyData->Res} (S:Cp X N gl vs cs ls lo gs) (j:Nat) (hj:gl[j]?=some x) (hg:gs.contains j=true) (C:Cal X x n den) (ha:Q (PA X (e::es) (tA X.K W fl))) (he:starEach (e::es) X.env=(false,eval e X.env)::starEach es X.env) (hpl:(backTo pos (starEach es X.env)).any (·.1)=false):Q (PE X (.Call (.Name x p) (e::es) [] pos) (tE X.K W (eCall n den fl))):=⟨by
 have ha:=ha.p
 obtain ⟨k,f,fd,ps,F,hr,hm,hk,hb⟩:=C
 exact de_call F hr hm hk hb ha (S.g hj hg).1 (S.g hj hg).2.1 he hpl⟩
theorem w_cr1 (S:Cp X N gl vs cs ls lo gs) (j:Nat) (hj:gl[j]?=some ("range":Str)) (hg:gs.contains j=true) (hm:X.mg "range"=none) (ha:Q (PA X [a] (tA X.K W fl))) (hs:starEach [a] X.env=[(false,eval a X.env)]):Q (PI X tg (.Call (.Name "range" p) [a] [] pos) (tI X.K W (iR1 fl))):=⟨have ha:=ha.p;di_r1 hm ha (S.g hj hg).1 hs⟩
theorem w_cr2 (S:Cp X N gl vs cs ls lo gs) (j:Nat) (hj:gl[j]?=some ("range":Str)) (hg:gs.contains j=true) (hm:X.mg "range"=none) (ha:Q (PA X [a,b] (tA X.K W fl))) (hs:starEach [a,b] X.env=[(false,eval a X.env),(false,eval b X.env)]) (hs2:starEach [b] X.env=[(false,eval b X.env)]):Q (PI X tg (.Call (.Name "range" p) [a,b] [] pos) (tI X.K W (iR2 fl))):=⟨have ha:=ha.p;di_r2 hm ha (S.g hj hg).1 hs hs2⟩
theorem zBE (ha:Q (PE X a (tE X.K W fa))):Q (PI X tg a (tI X.K W (iSeq fa))):=⟨have ha:=ha.p;PIimp (zB2 ha) fun _ _ _=>rd_iSeq⟩
theorem w_ct {op:CmpOp} {r:R2} {g:PySem.PyData->PySem.PyData->Option PySem.PyData} (k:Ck X op r g) (ha:Q (PE X a (tE X.K W fa))) (hb:Q (PE X b (tE X.K W fb))) (hm:behindInMarks op b=false):Q (PT X (.Compare a [op] [b] pos) (tT X.K W (bOf gBool (eOp g fa fb)))):=⟨T.ct k ha.p hb.p hm⟩
theorem w_ct2 {op:CmpOp} {r:R2} {g:PySem.PyData->PySem.PyData->Option PySem.PyData} (k:Ck X op r g) (k':Ck X op' r' g') (ha:Q (PE X a (tE X.K W fa))) (hb:Q (PE X b (tE X.K W fb))) (hc:Q (PE X c (tE X.K W fc))) (hm:lastMarks [op,op'] [b,c]=false):Q (PT X (.Compare a [op,op'] [b,c] pos) (tT X.K W (bOf gBool (zC4 g g' fa fb fc)))):=⟨have ha:=ha.p;have hb:=hb.p;have hc:=hc.p;dt_chain k.o k.g k'.o k'.g ha hb hc hm⟩
theorem zBD (ha:Q (PT X a (tT X.K W ga))):Q (PT X (.UnaryOp .Not a pos) (tT X.K W (bNot ga))):=⟨have ha:=ha.p;PTimp (zFM ha) fun _ _ _=>rd_bNot⟩
theorem zCC (ha:Q (PT X a (tT X.K W ga))):Q (PW X (.BoolOp .And [a] pos) (tT X.K W ga)):=⟨have ha:=ha.p;pw_and1 ha⟩
theorem w_dw_or1 (ha:Q (PT X a (tT X.K W ga))):Q (PW X (.BoolOp .Or [a] pos) (tT X.K W ga)):=⟨have ha:=ha.p;pw_or1 ha⟩
theorem zCW (ha:Q (PT X a (tT X.K W ga))) (hb:Q (PW X (.BoolOp .And (b::es) pos) (tT X.K W gb))):Q (PW X (.BoolOp .And (a::b::es) pos) (tT X.K W (bAnd ga gb))):=⟨have ha:=ha.p;have hb:=hb.p;PWimp (pw_and ha hb) fun _ _ _=>rd_bAnd⟩
theorem w_dw_or (ha:Q (PT X a (tT X.K W ga))) (hb:Q (PW X (.BoolOp .Or (b::es) pos) (tT X.K W gb))):Q (PW X (.BoolOp .Or (a::b::es) pos) (tT X.K W (bOr ga gb))):=⟨have ha:=ha.p;have hb:=hb.p;PWimp (pw_or ha hb) fun _ _ _=>rd_bOr⟩
theorem w_pw_pt (h:Q (PW X a (tT X.K W ga))):Q (PT X a (tT X.K W ga)):=⟨L2.PW.pt h.p⟩
theorem w_dt_tru (ha:Q (PE X a (tE X.K W fa))) (he:∀whole,isTrue a X.env whole=(do let v <-whole;standAt a.pos;holding [v] (truthy v))):Q (PT X a (tT X.K W (bOf gTru fa))):=⟨have ha:=ha.p;PTimp (zE2 ha he) fun _ _ _=>rd_tru⟩
theorem zAR :Q (PSs X [] (tS X.K W sNext)):=⟨zGN zBM fun _ _ _=>rd_next⟩
theorem zA3 {st:Stmt} (h1:Q (PS X st (tS X.K W g1))):Q (PSs X [st] (tS X.K W g1)):=⟨have h1:=h1.p;zAL h1⟩
theorem zAD {st:Stmt} {rest:List Stmt} (h1:Q (PS X st (tS X.K W g1))) (h2:Q (PSs X rest (tS X.K W g2))):Q (PSs X (st::rest) (tS X.K W (sSeq g1 g2))):=⟨have h1:=h1.p;have h2:=h2.p;zGN (zAJ h1 h2) fun _ _ _=>rd_seq⟩
theorem w_ds_ret (ha:Q (PE X a (tE X.K W fa))):Q (PS X (.Return (some a) pos) (tS X.K W (sRet fa))):=⟨have ha:=ha.p;PSimp (zBL ha) fun _ _ _=>rd_ret⟩
theorem zAY {A B:List Stmt} (hc:Q (PT X c (tT X.K W ga))) (ha:Q (PSs X A (tS X.K W g1))) (hb:Q (PSs X B (tS X.K W g2))):Q (PS X (.If c A B pos) (tS X.K W (sIf ga g1 g2))):=⟨have hc:=hc.p;have ha:=ha.p;have hb:=hb.p;PSimp (ps_if hc ha hb) fun _ _ _=>rd_ifS⟩
theorem zCX (S:Cp X N gl vs cs ls lo gs) (i:Nat) {body:List Stmt} {g:FS} (hx:N[i]?=some x) (hl:ls.contains i=true) (hp:PassesOwn (model X.prog X.w) X.A X.env X.xe) (hi':Q (PI X (.Name x px) iter (tI X.K W fi))) (hb:Q (PSs X body (tS X.K W g))) (hs:∀x,foldedSetIterable iter X.env x=pure x):Q (PS X (.For (.Name x px) iter body [] pos) (tS X.K W (sFor i fi g))):=⟨have hi':=hi'.p;have hb:=hb.p;ds_for i hp (by rw [S.hN];exact S.nd) hi' hb S.calm (by rw [S.hN];exact hx) (S.loc i x hx hl).1 (S.loc i x hx hl).2 hs⟩
theorem w_cs_set (S:Cp X N gl vs cs ls lo gs) (own:Bool) (i:Nat) (hi:N[i]?=some x) (hl:ls.contains i=true) (hs:swapsWith a (some (.Name x pos')) pos.line X.env=pure false) (ha:Q (PE X a (tE X.K W fa))):Q (PS X (.Assign [.Name x pos'] a pos) (tS X.K W (sSet own i fa))):=⟨have ha:=ha.p;ds_set own i (by rw [S.hN];exact S.nd) ha (by rw [S.hN];exact hi) (S.loc i x hi hl).1 hs (S.loc i x hi hl).2⟩
theorem zBY (S:Cp X N gl vs cs ls lo gs) (i:Nat) {apos cpos:Pos} (hi:N[i]?=some x) (hv:vs.contains i=true) (ha:Q (PE X a (tE X.K W fa))) (hs:starEach [a] X.env=[(false,eval a X.env)]) (hbase:attributeBase (.Name x p) "append" X.env (eval (.Name x p) X.env)=eval (.Name x p) X.env) (hline:(apos.endLine==cpos.line)=true) (hfew:((backTo cpos (starEach [a] X.env)).all (fun x=>!x.1)&&(backToKw cpos (keywordEach [] X.env)).all (fun x=>x.1.isSome)
   && decide ([a].length+([]:List Keyword).length+(if ([]:List Keyword).isEmpty then 0 else 1)<30))=true) (hsw:swapsWith (.Call (.Attribute (.Name x p) "append" apos) [a] [] cpos) none pos.line X.env=pure false):Q (PS X (.Expr (.Call (.Attribute (.Name x p) "append" apos) [a] [] cpos) pos) (tS X.K W (zAV i fa))):=⟨T.cs_append S i hi hv ha.p hs hbase hline hfew hsw⟩
theorem zA9 :Q (PF X [] (tT X.K W0 bTrue)):=⟨PFimp zGU fun σ H Q h=>by
 obtain ⟨He,O,Fs,U,E,h⟩:=h
 exact h H Fs (Same.refl _) E fun _ z=>.inl z⟩
theorem w_df_one (h:Q (PT X c (tT X.K W0 ga))):Q (PF X [c] (tT X.K W0 ga)):=⟨have h:=h.p;pf_one h⟩
end
end TQ
namespace T
open PySem PySem.Spec L2
open PyProof.Rows hiding St
variable {K:Fg} {c:String} {X:Cx} {σ:St} {pins:List (Addr×Obj)} {h':Heap} {t':Nat} {fp:List Addr} {elts:List Expr} {pos:Pos}
def sNo:FS:=fun _=>.no
section
variable {X:Cx} {W:XW} {e:Expr} {fa:F1} {pos:Pos}
end
def tyD:PySem.PyData->String
 | .none => "NoneType"
 | .bool _ => "bool"
 | .int _ => "int"
 | .str _ => "str"
 | .list _ => "list"
 | .tuple _ => "tuple"
 | .dict _ => "dict"
def isTy (t c:String):Bool:=t==c||(t == "bool"&&c == "int")
def kinds:List String:=["bool", "int", "str", "list", "tuple"]
theorem kit_all (hc:c∈kinds):∀t∈["NoneType", "bool", "int", "str", "list", "tuple"],PySem.W.kitOne K (.type t) (.type c)=some (isTy t c):=by
 intro t ht
 unfold kinds at hc
 simp only [mem_cons,not_mem_nil,or_false] at hc ht
 rcases hc with rfl | rfl | rfl | rfl | rfl<;>rcases ht with rfl | rfl | rfl | rfl | rfl | rfl<;>kernel_rfl
section
variable {X:Cx} {pins:List (Addr×Obj)} {σ:St} {H:Hp} {s:Shared} {A:Around} {E:Value->Shared->Prop} {Q:Value->Shared->Prop} {c:Value} {b:Bool}
theorem isinst_rep {x:V} {u:Value} {d:PySem.PyData} (I:Inv X pins σ H s) (rx:RelV x u) (r:Rep X.K H x d) (e:PySem.W.kitOne X.K (.type (tyD d)) c=some b) (h:∀tk,Q (.bool b) { s with toks:=tk }) :
  wpAny (model X.prog X.w) A (call (.builtin "isinstance") [u,c]) Q E s:=by
 cases r with
 | non=>exact zB5 I rx .non e h
 | bl y=>exact zB5 I rx (.bl y) e h
 | int i=>exact zB5 I rx (.int i) e h
 | str y=>exact zB5 I rx (.str y) e h
 | @lst p vs ds hs hl q=>
  rcases hs with (z | ⟨o,z⟩) | ⟨o,its,n,hk,hc,hd,hz,_⟩
  ·exact zB5 I rx (.lst z) e h
  ·exact zB5 I rx (.frz z) e h
  ·cases (show u=Value.ref p from rx)
   exact PySem.W.kia_one PySem.W.kitx_list I.kIn ⟨o,I.kIn _ o hk,hc⟩ e nofun h
 | @tup p vs ds hs hl q=>
  rcases hs with (z | ⟨o,z⟩) | ⟨o,its,n,hk,hc,hd,hz,_⟩
  ·exact zB5 I rx (.tup z) e h
  ·cases (show u=Value.ref p from rx)
   obtain ⟨_,_,_,n,p1,h1,h2,_⟩:=(show ObjOk X.prog X.w H s.heap p (.frz o (.tup vs)) from I.hok p _ z)
   exact PySem.W.kia_one PySem.W.kitx_tuple I.kIn ⟨p1,h1,h2⟩ e nofun h
  ·cases (show u=Value.ref p from rx)
   exact PySem.W.kia_one PySem.W.kitx_tuple I.kIn ⟨o,I.kIn _ o hk,hc⟩ e nofun h
end
def rIsi (K:Fg) (c:String):List V->Hp->VK->Prop:=fun xs H Q=>∃x d,xs=[x,.ty c]/\Rep K H x d/\Q (.bl (isTy (tyD d) c)) H
theorem call_isi (hc:c∈kinds):CallR X (.builtin "isinstance") (rIsi X.K c):=by
 intro pins s σ H xs us Q I rv h
 obtain ⟨x,d,rfl,r,q⟩:=h
 match us,rv with
 | [u,t],.cons r1 (.cons r2 .nil)=>
  cases (show t=Value.type c from r2)
  have ht:tyD d∈["NoneType", "bool", "int", "str", "list", "tuple"]:=by cases r<;>simp [tyD]
  exact isinst_rep I r1 r (kit_all hc _ ht) fun tk=>⟨.bl _,H,I.tok tk,rfl,q⟩
def eIsi (c:String) (fa:F1):F1:=eBind fa fun p U=>.ok ⟨.leaf,.bool (isTy (tyD p.d) c)⟩ U
theorem rd_isi {W:XW} {H:Hp} {Q:VK} {fa:F1} (h:tE K W (eIsi c fa) σ H Q):tCB (rIsi K c) (tCons (tE K W fa) (tCons (tC (.ty c)) tNil)) σ H Q:=by
 show tE K W fa σ H fun x H1=>rIsi K c [x,.ty c] H1 Q
 refine zD8 h fun He O Fs U1 p v H1 G Fs1 nd A w=>?_
 exact ⟨v,p.d,rfl,A.own.rep,Wants.scal w (.bl _) A.same A.env.dropL (fun a ha=>ha) nd fun a ha=>A.new a (mem_append_right _ ha)⟩
section
variable {K:Fg} {W:XW} {σ:St} {H:Hp} {Q:VK} {D:Ends} {fa fb:F1} {fl:FL}
theorem EnvOk.chgF {He:Hp} {O:List Addr} {Fs:List (List Addr)} {U:Ev} {i:Nat} {ds:List PySem.PyData} (E:EnvOk K He O Fs H σ U) (h:U[i]?=some (some ⟨.lst .leaf,.list ds⟩)) :
  ∃l vs,σ[i]?=some (some (.ref l))/\H l=some (.lst vs)/\vs.length=ds.length/\(∀(j:Nat) u d,vs[j]?=some u->ds[j]?=some d->Rep K (hid H (O++Fs.flatten)) u d) /\
   ∀(vs':List V) (ds':List PySem.PyData),vs'.length=ds'.length->(∀(j:Nat) u d,vs'[j]?=some u->ds'[j]?=some d->Rep K (hid H (O++Fs.flatten)) u d)->EnvOk K He O Fs (upd H l (.lst vs')) σ (U.set i (some ⟨.lst .leaf,.list ds'⟩)):=by
 obtain ⟨hv,v,F,h1,E1,o1,sub⟩:=E.move h
 have hi:i<U.length:=(List.getElem?_eq_some_iff.mp h).1
 obtain ⟨_,v0,F0,h10,h20,o0⟩:=E.slot i _ h
 obtain ⟨l,vs,rfl,rfl,hp,hl,hr⟩:=o1.leaves
 obtain ⟨l',vs',e0,e1,hp',hl',hr'⟩:=o0.leaves
 rw [h1] at h10
 cases h10
 cases e0
 rw [hp] at hp'
 cases hp'
 refine ⟨l,vs,h1,hp,hl,hr',fun ws ds' hw q=>?_⟩
 have hlF:l∈Fs.flatten:=sub l (mem_append_left _ (List.mem_singleton.mpr rfl))
 have hHe:He l=none:=E.fresh l hlF
 have E4:=E1.mutO (o:=.lst ws) (mem_append_left _ (List.mem_singleton.mpr rfl)) hp hHe
 have ownL:Own K ([l]++O++(Fs.set i []).flatten) (upd H l (.lst ws)) (.lst .leaf) [l] (.ref l) (.list ds'):=by
  refine Own.mkLeaves zAF hw fun j u d a1 a2=>?_
  rw [hid_upd (mem_append_left _ (mem_append_left _ (List.mem_singleton.mpr rfl)))]
  refine (q j u d a1 a2).mono (zAP (Same.refl _) fun a ha=>.inl ?_)
  rcases List.mem_append.mp ha with z | z
  ·rcases List.mem_append.mp z with z | z
   ·rw [List.mem_singleton.mp z];exact mem_append_right _ hlF
   ·exact mem_append_left _ z
  ·exact mem_append_right _ (sub a (mem_append_right _ z))
 have fin:=EnvOk.put (i:=i) (p:=⟨.lst .leaf,.list ds'⟩) (v:=.ref l) E4 ownL rfl (fun a ha=>by rw [List.mem_singleton.mp ha];exact hHe) (by rw [length_set];exact hi)
 rw [set_set,set_set,zCK h1] at fin
 rw [e1] at h20
 rw [zCK h20] at fin
 exact fin
end
theorem Inv.turnedL {H:Hp} {s:Shared} (I:L2.Inv X pins σ H s) (k:∀b o,b∉fp->s.heap.get? b=some o->h'.get? b=some o) (hf:∀b∈fp,FpOk X pins H b):L2.Inv X pins σ H { s with heap:=h',toks:=t' }:=by
 have nit:∀b u,H b=some u->b∉fp:=fun b u e z=>by have:=(hf b z).1;rw [e] at this;cases this
 have hL:X.env.locals∉fp:=fun z=>(hf _ z).2.1 rfl
 refine I.step (g':=s.gens) (d':=s.drawn) (ch:=fp) (fun b hb=>?_) (fun b o _ _ hc e _=>k b o hc e) (fun b o _ _ hc e _=>⟨o.slots,k b o hc e⟩) (fun _ _ _ _ n=>n)
  (fun b o hc e=>⟨o,k b o hc e⟩) (fun _ _ e=>e) (fun _ _ _ e=>e) (fun b ps e=>⟨#[],by rw [e];simp⟩) (fun m hm=>?_) (fun b u e=>?_) I.bare
 ·obtain ⟨f0,f1,f2,f3,f4,f5⟩:=hf b hb
  exact ⟨f3,f1,f4,f5⟩
 ·obtain ⟨o,es,ep,ho,r⟩:=hm
  exact ⟨o,es,ep,k _ o hL ho,r⟩
 ·refine (I.hok b u e).stay (fun c v hc q=>k c v ?_ q) (fun _ q=>q) fun _ _ q=>q
  rcases hc with z | z
  ·rw [z];exact nit b u e
  ·exact nit c _ z
theorem Inv.turnedT {H:Hp} {s:Shared} {T:Addr} {xs:List V} (I:L2.Inv X pins σ H s) (k:∀b o,b∉fp->s.heap.get? b=some o->h'.get? b=some o) (hf:∀b∈fp,FpOk X pins H b) (hT:s.heap.objs.size<=T)
  (new:ObjOk X.prog X.w (upd H T (.tup xs)) h' T (.tup xs)):L2.Inv X pins σ (upd H T (.tup xs)) { s with heap:=h',toks:=t' }:=by
 have hTn:H T=none:=I.hok.fresh hT
 have nit:∀b u,H b=some u->b∉fp:=fun b u e z=>by have:=(hf b z).1;rw [e] at this;cases this
 have up:∀b u,H b=some u->upd H T (.tup xs) b=some u:=fun b u e=>by rw [zAI (zAX e hTn)];exact e
 have hL:X.env.locals∉fp:=fun z=>(hf _ z).2.1 rfl
 refine I.step (g':=s.gens) (d':=s.drawn) (ch:=fp) (fun b hb=>?_) (fun b o _ _ hc e _=>k b o hc e) (fun b o _ _ hc e _=>⟨o.slots,k b o hc e⟩) (fun b o _ e n=>by rw [zAI (Nat.ne_of_lt (Nat.lt_of_lt_of_le (Heap.lt_size e) hT))];exact n)
  (fun b o hc e=>⟨o,k b o hc e⟩) (fun b _ e=>up b _ e) (fun b _ _ e=>up b _ e) (fun b ps e=>⟨#[],by rw [up b _ e];simp⟩) (fun m hm=>?_) (fun b u e=>?_) I.bare
 ·obtain ⟨f0,f1,f2,f3,f4,f5⟩:=hf b hb
  exact ⟨f3,f1,f4,f5⟩
 ·obtain ⟨o,es,ep,ho,r⟩:=hm
  exact ⟨o,es,ep,k _ o hL ho,r⟩
 ·by_cases hb:b=T
  ·subst hb
   rw [zAF] at e
   cases e
   exact new
  ·rw [zAI hb] at e
   refine (I.hok b u e).stay (fun c v hc q=>k c v ?_ q) (fun c q=>up c _ q) fun c _ q=>up c _ q
   rcases hc with z | z
   ·rw [z];exact nit b u e
   ·exact nit c _ z
def Ite (K:Fg) (a:Addr):It:=
 ⟨fun i H=>∃xs x,SqL K H a xs/\xs[i]?=some x,fun i H x H'=>∃T v,x=.ref T/\H T=none/\H'=upd H T (.tup [.int i,v])/\∀xs,SqL K H a xs->xs[i]?=some v,fun i H=>∃xs,SqL K H a xs/\xs.length<=i⟩
theorem turn_enum {P:Program} {w:World} {k:Nat} (a e it:Addr) (hei:e≠it) (hae:a≠e) (hai:a≠it) :
  Turn P w K (.Tuple elts k pos) (Ite K a) [e,it] e (fun i h=>(∃old,IsEnum h e it i old)/\h.IsListIter it a i) where
 mem:=by simp
 obj:=fun i h st b hb=>by
  obtain ⟨⟨old,he⟩,o,e1,c,d⟩:=st
  simp only [mem_cons,not_mem_nil,or_false] at hb
  rcases hb with rfl | rfl
  ·exact ⟨_,he,fun v z=>by
    have z':Data.fields _=Data.cell v:=z
    cases z'⟩
  ·exact ⟨o,e1,fun v z=>by rw [d] at z;cases z⟩
 keep:=fun i h h' st kk=>by
  obtain ⟨⟨old,he⟩,hit⟩:=st
  exact ⟨⟨old,kk e (by simp) _ he⟩,hit.at fun o q=>kk it (by simp) o q⟩
 item:=by
  intro X hP hw hK hc i pins s σ H E I hf st hg
  subst hP hw hK
  obtain ⟨xs,x,hq,hx⟩:=hg
  obtain ⟨its,rv,p,hz⟩:=I.list hq
  obtain ⟨u,hu,ru⟩:=rv.get hx
  have W:=WalksT.enumerate (prog:=X.prog) (w:=X.w) (A:=X.A) (I.ok.hd hc) e it a hei hae hai its.toArray
  have hil:i<its.toArray.size:=by
   have:=(List.getElem?_eq_some_iff.mp hu).1
   simpa using this
  refine W.item i s _ _ hil ⟨st.1,st.2,p.isList⟩ fun T vals h' tk hv hT hTT hMid kk=>?_
  obtain ⟨t,y,hy,rfl⟩:=hv
  have ey:y=u:=by
   rw [List.getElem?_toArray,hu] at hy
   exact (Option.some.inj hy).symm
  subst ey
  refine ⟨.ref T,rfl,W.go elts k pos i T _ _ _ hMid fun h2 st2 kk2=>?_⟩
  have hTn:H T=none:=I.hok.fresh hT
  have hTw:T∉[e,it]:=W.apart i T _ hMid
  have kAll:∀b o,b∉[e,it]->s.heap.get? b=some o->h2.get? b=some o:=fun b o hb q=>kk2 b o hb (kk b o hb q)
  have I1:L2.Inv X pins σ H { s with heap:=h2,toks:=tk }:=Inv.turnedL I kAll hf
  have tT:h2.IsTuple T #[.int i t,y]:=by
   obtain ⟨o,q1,q2⟩:=hTT
   exact ⟨o,kk2 T o hTw q1,q2⟩
  have hvs:Vals [.int (i:Int),x] [.int i t,y]:=.cons (show RelV (.int (i:Int)) (.int i t) from ⟨t,rfl⟩) (.cons ru .nil)
  have I3:L2.Inv X pins σ (upd H T (.tup [.int i,x])) { s with heap:=h2,toks:=tk }:=Inv.turnedT (t':=tk) I kAll hf hT ⟨by show 2<=sizeLine;decide,[.int i t,y],hvs,(show IsTup h2 T _ from tT)⟩
  refine ⟨.ref T,upd H T (.tup [.int i,x]),I3,rfl,⟨T,x,rfl,hTn,rfl,fun ys hy=>by rw [I.list_inj hy hq];exact hx⟩,⟨st2.1,st2.2.1⟩,fun b hb=>?_⟩
  have hbT:b≠T:=fun z=>by rw [z] at hb;exact hTw hb
  rw [zAI hbT]
  exact (hf b hb).1
 done:=by
  intro X hP hw hK hc i pins s σ H E I hf st hg
  subst hP hw hK
  obtain ⟨xs,hq,hx⟩:=hg
  obtain ⟨its,rv,p,hz⟩:=I.list hq
  have hl:=rv.length
  obtain ⟨⟨old,he⟩,hit⟩:=st
  refine wpAny_pyNext_enum_end (I.ok.hd hc) he hit p.isList (Array.getElem?_eq_none (by simp;omega)) fun h' hk=>⟨rfl,Inv.turnedL (t':=s.toks) I (fun b o hb q=>hk b o (fun z=>hb (by simp [z])) q) hf⟩
 self:=fun _ _ _ _ _ st h=>by
  obtain ⟨⟨old,he⟩,hit⟩:=st
  exact wpAny_pyIter_enum he h
def iEnum (K:Fg) (ta:TA):TI:=fun σ H R=>ta σ H fun vs H1=>∃a,vs=[.ref a]/\(∃xs,SqL K H1 a xs)/\R (Ite K a) H1
theorem pi_enum {kt:Nat} {ptg:Pos} {l:Expr} {ta:TA} {p:Pos} (hg:Gl X "enumerate") (hm:X.mg "enumerate"=none) (ha:PA X [l] ta) (hs:starEach [l] X.env=[(false,eval l X.env)]) :
  PI X (.Tuple elts kt ptg) (.Call (.Name "enumerate" p) [l] [] pos) (iEnum X.K ta):=by
 intro pins s σ H R I h
 refine Call_ (zET I hg hm boot_enumerate (PyProof.Rows.callWith_type1 (thn (ha pos pins s σ H _ I h) fun us s1 ⟨vs,H1,I1,r1,q1⟩=>?_) hs rfl))
 obtain ⟨a,e,⟨xs,hq⟩,q⟩:=q1
 subst e
 obtain ⟨u,rfl,ru⟩:=r1.one
 cases ru
 obtain ⟨its,rv,pl,hz⟩:=I1.list hq
 refine call_enumerate_list pl.isList fun h' he hit hsz hk=>?_
 have ha1:a<s1.heap.objs.size:=by
  obtain ⟨o,q1,_⟩:=pl.isList
  exact Heap.lt_size q1
 refine wpAny_pyIter_enum (s:={ s1 with heap:=h' }) he ?_
 have I2:L2.Inv X pins σ H1 { s1 with heap:=h' }:=I1.kept (t':=s1.toks) hk
 refine ⟨s1.heap.objs.size+1,[s1.heap.objs.size+1,s1.heap.objs.size],_,Ite X.K a,H1,rfl,I2,turn_enum a _ _ (Nat.succ_ne_self _) (Nat.ne_of_lt (Nat.lt_succ_of_lt ha1)) (Nat.ne_of_lt ha1),⟨⟨_,he⟩,hit⟩,fun b hb=>?_,q⟩
 simp only [mem_cons,not_mem_nil,or_false] at hb
 have hb2:s1.heap.objs.size<=b:=by
  rcases hb with z | z
  ·rw [z];exact Nat.le_succ _
  ·rw [z];exact Nat.le_refl _
 have f:=I1.fpOk hb2 (I1.hok.fresh hb2)
 exact f
def zFS (N:List Str) (is:List Nat) (cs:List Nat) (sc:Scope):Bool:=
 decide (sc.kind=.function)&&(sc.names.all fun p=>!decide (p.2=.free)||cs.any fun j=>decide (N[j]?=some p.1)) &&
 ((List.range N.length).all fun j=>is.contains j||(sc.names.all fun p=>!decide (some p.1=N[j]?)||(!decide (p.2=.local)&&!decide (p.2=.cell)))) &&
 (sc.names.all fun p=>!decide (p.2=.local)||decide (sc.names.lookup p.1=some .local)) &&
 (sc.names.all fun p=>!decide (p.2=.free)||sc.names.all fun q=>!decide (q.1=p.1)||!decide (q.2=.cell))
theorem zEL {N gl:List Str} {vs cs ls lo gs is:List Nat} {scope:Scope} (S:Cp X N gl vs cs ls lo gs) (h:zFS N is cs scope=true):CompSc X.N is X.env.scope scope:=by
 unfold zFS at h
 simp only [Bool.and_eq_true,decide_eq_true_eq,all_eq_true,Bool.or_eq_true,Bool.not_eq_true',decide_eq_false_iff_not,any_eq_true,mem_range] at h
 obtain ⟨⟨⟨⟨h0,h1⟩,h2⟩,h3⟩,h4⟩:=h
 refine ⟨h0,fun n hn=>?_,fun j x e hj=>?_,fun x hx e=>?_,fun n hn hc=>?_⟩
 ·rcases h1 _ hn with z | ⟨j,hj,e⟩
  ·exact absurd rfl z
  ·exact S.cel j n e (by simpa using hj)
 ·rw [S.hN] at e
  rcases h2 j (List.getElem?_eq_some_iff.mp e).1 with z | z
  ·simpa using z
  ·exfalso
   rcases hj with y | y
   ·rcases z _ y with w | w
    ·exact w e.symm
    ·exact w.1 rfl
   ·rcases z _ y with w | w
    ·exact w e.symm
    ·exact w.2 rfl
 ·rcases h3 x hx with z | z
  ·exact absurd e z
  ·exact z
 ·rcases h4 _ hn with z | z
  ·exact z rfl
  ·rcases z _ hc with w | w
   ·exact w rfl
   ·exact w rfl
end T
namespace TQ
open PySem PySem.Spec L2 T
open PyProof.Rows hiding St
section
variable {X:Cx} {N gl:List Str} {vs cs ls lo gs:List Nat} {W:XW} {a b c e:Expr} {es:List Expr} {pos p:Pos} {fa fb fc:F1} {fl:FL} {ga gb:FB} {g1 g2 g:FS}
theorem w_ds_no {st:Stmt}:Q (PS X st (tS X.K W sNo)):=⟨fun pins s σ H D I h=>by
 obtain ⟨He,O,Fs,U,E,h⟩:=h
 exact h.elim⟩
theorem zDA (ha:Q (PE X e (tE X.K W fa))) (hs:swapsWith e none pos.line X.env=pure false):Q (PS X (.Expr e pos) (tS X.K W (sDrop fa))):=⟨have ha:=ha.p;PSimp (zCA ha hs) fun _ _ _=>rd_drop⟩
theorem zCI {X:Cx} {N gl:List Str} {vs cs ls lo gs:List Nat} {W:XW} {a:Expr} {pos p p2:Pos} {fa:F1} {c:String} {x:Str} (S:Cp X N gl vs cs ls lo gs) (j k:Nat) (hj:gl[j]?=some ("isinstance":Str)) (hg:gs.contains j=true) (hk:gl[k]?=some x) (hg2:gs.contains k=true) (hc:kinds.contains c=true) (hv:bootBuiltins x=some (.type c)) (hm:X.mg "isinstance"=none) (hm2:X.mg x=none) (ha:Q (PE X a (tE X.K W fa))) (hs:starEach [a,.Name x p2] X.env=(false,eval a X.env)::starEach [.Name x p2] X.env) (hs2:starEach [.Name x p2] X.env=(false,eval (.Name x p2) X.env)::starEach [] X.env) (hpl:(backTo pos (starEach [.Name x p2] X.env)).any (·.1)=false):Q (PE X (.Call (.Name "isinstance" p) [a,.Name x p2] [] pos) (tE X.K W (eIsi c fa))):=⟨have ha:=ha.p;PEimp (zCZ (call_isi (by simpa using hc)) (S.g hj hg).1 hm b_isinstance (zAE ha (zAE (pe_bltn (v:=.ty c) (S.g hk hg2).1 hm2 hv rfl (S.g hk hg2).2.2 (S.g hk hg2).2.1) zAS hs2) hs) (S.g hj hg).2.2 (S.g hj hg).2.1 hs hpl) fun _ _ _=>rd_isi⟩
end
end TQ
namespace L2
open PySem PySem.Spec PyProof.Rows
variable {o:Option V} {u:Option Value} {pos:Pos} {X:Cx}
section
variable {κ:Type} [DecidableEq κ]
def valV (kvs:List (κ×V)) (k:κ):Option V:=(kvs.find? fun kv=>decide (kv.1=k)).map (·.2)
def putK (kvs:List (κ×V)) (k:κ) (v:V):List (κ×V):=
 if (kvs.any fun kv=>decide (kv.1=k))=true then kvs.map (fun kv=>if kv.1=k then (kv.1,v) else kv) else kvs++[(k,v)]
theorem zD0 {p:κ×V} {r:List (κ×V)} {k:κ} (e:p.1=k):valV (p::r) k=some p.2:=by simp [valV,find?_cons,e]
theorem zCY {p:κ×V} {r:List (κ×V)} {k:κ} (e:¬p.1=k):valV (p::r) k=valV r k:=by simp [valV,find?_cons,e]
theorem zD1 (k:κ):∀kvs:List (κ×V),(kvs.any fun kv=>decide (kv.1=k))=(valV kvs k).isSome
 | []=>rfl
 | p::r=>by
  rw [List.any_cons]
  by_cases e:p.1=k
  ·simp only [zD0 e,decide_eq_true e,Bool.true_or,Option.isSome_some]
  ·rw [zCY e,decide_eq_false e,Bool.false_or];exact zD1 k r
theorem putK_new {kvs:List (κ×V)} {k:κ} (v:V) (h:valV kvs k=none):putK kvs k v=kvs++[(k,v)]:=by
 unfold putK
 rw [zD1,h]
 exact if_neg (by decide)
theorem RelO.isSome_eq (r:RelO o u):o.isSome=u.isSome:=by
 cases o with
 | none=>cases u with
  | none=>rfl
  | some _=>exact (show False from r).elim
 | some _=>cases u with
  | none=>exact (show False from r).elim
  | some _=>rfl
theorem RelO.getD {d:V} {d':Value} (r:RelO o u) (rd:RelV d d'):RelV (o.getD d) (u.getD d'):=by
 cases o with
 | none=>cases u with
  | none=>exact rd
  | some _=>exact (show False from r).elim
 | some _=>cases u with
  | none=>exact (show False from r).elim
  | some _=>exact r
end
theorem kV_is {P:Program} {w:World} {k:Key} {u:Value} (r:RelV (kV k) u):(zBC P w).is k u=true:=by
 cases k with
 | inl i=>obtain ⟨t,e⟩:=(show ∃t,u=Value.int i t from r);subst e;exact mixKind_int P w i t
 | inr x=>obtain ⟨t,e⟩:=(show ∃t,u=Value.str x t from r);subst e;exact mixKind_str P w x t
theorem items_are {P:Program} {w:World}:∀{ks:List Key} {us:List Value},Vals (ks.map kV) us->ItemsAre (zBC P w) ks us
 | [],_,r=>by rw [List.map_nil] at r;cases r;exact .nil
 | k::ks,_,r=>by
  rw [map_cons] at r
  cases r with
  | cons h t=>exact .cons (kV_is h) (items_are t)
section
variable {X:Cx} {pins:List (Addr×Obj)} {σ:St} {H:Hp} {s:Shared} {a:Addr} {y v:V} {u r:Value} {o:Option V} {A:Around} {E:Value->Shared->Prop}
theorem Inv.big (I:Inv X pins σ H s):sysModules<s.heap.objs.size:=by
 have h:mainGlobals<s.heap.objs.size:=(I.mod.glob.keeps I.bk).lt
 exact Nat.lt_trans (by decide) h
theorem zFH {h':Heap} {t':Nat} {ob:HO} (I:Inv X pins σ H s) (mu:Mut (H a)) (hs:Heap.SameBut a s.heap h') (he:∃q,h'.get? a=some q) (new:ObjOk X.prog X.w (upd H a ob) h' a ob) :
  Inv X pins σ (upd H a ob) { s with heap:=h',toks:=t' }:=
 I.write (x:=a) (e:=a) mu (.inl rfl) (fun b q hb z=>(hs.2 b hb).trans z) he new
end
def NoSl (i:Expr):Prop:=∀ov iv,subscripted i false ov iv=operate [ov,iv] (getItem ov iv)
theorem subD_of {prog:Program} {w:World} {A:Around} {E:Value->Shared->Prop} {s:Shared} {env:Env} {value slice:Expr} {T id:String} {Q:Value->Shared->Prop}
  (hl:typeLookup (.type T) "__getitem__"=pure (some (.builtin id))) (hs:NoSl slice)
  (h:wpAny (model prog w) A (eval value env) (fun o s₁=>wpAny (model prog w) A (eval slice env) (fun i s₂=>s₂.TypeIs o T/\wpAny (model prog w) A (getItem o i) Q E s₂) E s₁) E s) :
  wpAny (model prog w) A (eval (.Subscript value slice pos) env) Q E s:=by
 refine Subscript_ (wpAny_mono h (fun o s₁ h₁=>wpAny_mono h₁ (fun i s₂ h₂=>?_) fun _ _ x=>x) fun _ _ x=>x)
 obtain ⟨hT,h₂⟩:=h₂
 unfold subscriptTail
 refine wpAny_bind ?_
 rw [getitemInPython_of_ne hT.not_modules]
 refine wpAny_bind (wpAny_specialOf hT hl ?_)
 have fin:wpAny (model prog w) A (subscripted slice false o i) (fun r s₃=>wpAny (model prog w) A (letTemporaryGo value o r >>= fun _=>pure r) Q E s₃) E s₂:=by
  rw [hs o i]
  exact wpAny_operating (wpAny_mono h₂ (fun r s₃ h₃=>wpAny_bind (wpAny_letTemporaryGo (wpAny_pure h₃))) fun _ _ x=>x)
 first
  | exact wpAny_pure (wpAny_bind fin)
  | exact wpAny_bind (wpAny_pure (wpAny_bind fin))
  | exact wpAny_bind fin
def tPairs:List (TE×TE)->St->Hp->(List (V×V)->Hp->Prop)->Prop
 | [],_,H,Q=>Q [] H
 | (tk,tv)::r,σ,H,Q=>tk σ H fun x H1=>tv σ H1 fun y H2=>tPairs r σ H2 fun ps H3=>Q ((x,y)::ps) H3
abbrev VV:List (V×V)->List (Value×Value)->Prop:=Paired fun p q=>RelV p.1 q.1/\RelV p.2 q.2
def PPs (X:Cx) (pos:Pos) (keys:List (Option Expr)) (values:List Expr) (trs:List (TE×TE)):Prop:=
 ∀(pins:List (Addr×Obj)) (s:Shared) (σ:St) (H:Hp) (Q:List (V×V)->Hp->Prop),Inv X pins σ H s->tPairs trs σ H Q ->
  wpAny (model X.prog X.w) X.A (evalPairs (pairTrees keys values X.env pos)) (fun vs s'=>∃ps H',Inv X pins σ H' s'/\VV ps vs/\Q ps H') X.xe s
theorem pps_nil:PPs X pos [] [] []:=fun pins s σ H Q I h=>pairTrees_nil_walk ⟨[],H,I,.nil,h⟩
theorem pps_cons {k v:Expr} {ks:List (Option Expr)} {vs:List Expr} {tk tv:TE} {trs:List (TE×TE)} (hk:PE X k tk) (hv:PE X v tv) (hr:PPs X pos ks vs trs) :
  PPs X pos (some k::ks) (v::vs) ((tk,tv)::trs):=fun pins s σ H Q I h=>
 pairTrees_cons_walk (thn (hk pins s σ H _ I h) fun u s1 ⟨x,H1,I1,rx,q1⟩=>thn (hv pins s1 σ H1 _ I1 q1) fun w2 s2 ⟨y,H2,I2,ry,q2⟩=>
  thn (hr pins s2 σ H2 _ I2 q2) fun ws s3 ⟨ps,H3,I3,rel,q3⟩=>⟨(x,y)::ps,H3,I3,.cons ⟨rx,ry⟩ rel,q3⟩)
end L2
namespace T
open PySem PySem.Spec L2
open PyProof.Rows hiding St
variable {K:Fg} {X:Cx} {He H1:Hp} {Fs Fs1:List (List Addr)} {U1:Ev}
def zDQ:PySem.PyData->Bool
 | .none=>true
 | _=>false
def gIsN (neg:Bool):PySem.PyData->PySem.PyData->Option PySem.PyData
 | a,.none=>some (.bool (if neg then !zDQ a else zDQ a))
 | _,_=>none
theorem none_iff {H:Hp} {x:V} {a:PySem.PyData} (r:Rep K H x a):decide (x=V.non)=zDQ a:=by
 cases r<;>simp [zDQ]
theorem gop_isN:GOp K (fun x y H Q=>y=.non/\Q (.bl (decide (x=.non))) H) (gIsN false):=by
 intro x y H Q a b d ra rb e k
 cases rb<;>simp only [gIsN] at e<;>try cases e
 exact ⟨rfl,by rw [none_iff ra];exact k _ (.bl _)⟩
theorem gop_notN:GOp K (fun x y H Q=>y=.non/\Q (.bl (!decide (x=.non))) H) (gIsN true):=by
 intro x y H Q a b d ra rb e k
 cases rb<;>simp only [gIsN] at e<;>try cases e
 exact ⟨rfl,by rw [none_iff ra];exact k _ (.bl _)⟩
theorem q_is (R:Rm X):Ck X .Is (fun x y H Q=>y=.non/\Q (.bl (decide (x=.non))) H) (gIsN false):=⟨op_isN,gop_isN⟩
theorem q_isnot (R:Rm X):Ck X .IsNot (fun x y H Q=>y=.non/\Q (.bl (!decide (x=.non))) H) (gIsN true):=⟨op_notN,gop_notN⟩
section
variable {K:Fg} {W:XW} {σ:St} {H:Hp} {Q:VK} {D:Ends} {fa fb:F1} {fl:FL}
theorem leafTup {O:List Addr} {vs:List V} {ds:List PySem.PyData} {p:Addr} (E:EnvOk K He O Fs1 H1 σ U1) (s:Same H H1) (n:∀a∈Fs1.flatten,a∈Fs.flatten\/H a=none)
  (hr:Reps K (hid H1 (O++Fs1.flatten)) vs ds) (hp:H1 p=none):Aft K He O Fs H σ U1 ⟨.leaf,.tuple ds⟩ (.ref p) (upd H1 p (.tup vs)) [] Fs1:=by
 refine ⟨s.trans (zAG hp),by rw [nil_append];exact E.grow (zAG hp),by rw [nil_append];exact n,.leaf ?_⟩
 rw [nil_append]
 have hn:p∉O++Fs1.flatten:=fun z=>E.inH p z hp
 exact .tup (.of (zBA zAF hn)) hr.1 fun i v d h1 h2=>(hr.2 i v d h1 h2).mono (zAP (zAG hp) fun a ha=>.inl ha)
theorem leafOld {O:List Addr} {v:V} {d:PySem.PyData} (E:EnvOk K He O Fs1 H1 σ U1) (s:Same H H1) (n:∀a∈Fs1.flatten,a∈Fs.flatten\/H a=none)
  (hr:Rep K (hid H1 (O++Fs1.flatten)) v d):Aft K He O Fs H σ U1 ⟨.leaf,d⟩ v H1 [] Fs1:=
 ⟨s,by rw [nil_append];exact E,by rw [nil_append];exact n,.leaf (by rw [nil_append];exact hr)⟩
end
def idxK (i:Nat) (q:PV) (U:Ev):Out PV:=match U[i]?,q.d with
 | some (some ⟨.lst .leaf,.list ds⟩),.int k=>(match ixN ds.length k with
  | some j=>(match ds[j]? with
   | some d=>.ok ⟨.leaf,d⟩ U
   | none=>.no)
  | none=>.no)
 | _,_=>.no
def eIdxO (i:Nat) (fb:F1):F1:=fun U=>if zA8 U[i]? then (fb U).bind (idxK i) else .no
section
variable {K:Fg} {W:XW} {σ:St} {H:Hp} {Q:VK} {D:Ends} {fa fb:F1} {fl:FL}
theorem rd_idxO {i:Nat} (h:tE K W (eIdxO i fb) σ H Q):tOp (rIx K) (tVar i) (tE K W fb) σ H Q:=by
 obtain ⟨He,O,Fs,U,E,h⟩:=h
 unfold eIdxO at h
 cases ho:zA8 U[i]? with
 | false=>rw [ho] at h;exact h.elim
 | true=>
  rw [ho] at h
  obtain ⟨ds,e0⟩:=zBV ho
  obtain ⟨l,vs,h1,h2,h3,_,_⟩:=E.chgF e0
  refine ⟨.ref l,h1,?_⟩
  refine zD8 (k:=idxK i) ⟨He,O,Fs,U,E,h⟩ fun He O Fs U1 q u H1 G Fs1 nd A w=>?_
  unfold idxK at w
  split at w
  ·rename_i ds1 k e1 e2
   obtain ⟨l1,vs1,q1,q2,q3,q4,_⟩:=A.go.chgF e1
   rw [h1] at q1
   cases q1
   have r:=A.own.rep
   rw [e2] at r
   cases r
   cases hj:ixN ds1.length k with
   | none=>rw [hj] at w;exact w.elim
   | some j=>
    rw [hj] at w
    have w:Wants K W He O Fs H σ Q (match ds1[j]? with | some d=>.ok ⟨.leaf,d⟩ U1 | none=>.no):=w
    cases hd:ds1[j]? with
    | none=>rw [hd] at w;exact w.elim
    | some d=>
     rw [hd] at w
     have hjl:j<vs1.length:=by rw [q3];exact (List.getElem?_eq_some_iff.mp hd).1
     have hv:vs1[j]?=some (vs1[j]'hjl):=getElem?_eq_getElem _
     refine .inl ⟨l,vs1,k,vs1[j]'hjl,rfl,rfl,.of q2,zG1 q3 hj hv,?_⟩
     exact w _ _ _ _ (leafOld A.go A.same A.newF (q4 j _ d hv hd))
  ·exact w.elim
end
section
variable {X:Cx} {N gl:List Str} {vs cs ls lo gs:List Nat} {W:XW} {a b c e:Expr} {es:List Expr} {pos p:Pos} {fa fb fc:F1} {fl:FL} {g:FS}
end
end T
namespace TQ
open PySem PySem.Spec L2 T
open PyProof.Rows hiding St
section
variable {X:Cx} {N gl:List Str} {vs cs ls lo gs:List Nat} {W:XW} {a b c e:Expr} {es:List Expr} {pos p:Pos} {fa fb fc:F1} {fl:FL} {ga gb:FB} {g1 g2 g:FS}
theorem zCP (S:Cp X N gl vs cs ls lo gs) (i:Nat) {x:Str} (hi:N[i]?=some x) (hv:vs.contains i=true) (hb:Q (PE X b (tE X.K W fb))) (hs:zFJ b):Q (PE X (.Subscript (.Name x p) b pos) (tE X.K W (eIdxO i fb))):=⟨by
 have hb:=hb.p
 have m:=S.nm x (mem_of_getElem? hi)
 exact PEimp (pe_ix zDI (zCD (by rw [S.hN];exact hi) (S.vis i x hi hv) m.1 m.2) hb hs) fun _ _ _=>rd_idxO⟩
end
end TQ
namespace T
open PySem PySem.Spec L2
open PyProof.Rows hiding St
variable {ds:List D} {fi:FI} {fe:F1} {α:Type} {g:D->D->Option D} {a b:Bool} {ga gb:FB} {g1 g2:FS} {o:OutS}
def putN:List Nat->List PV->Ev->Option Ev
 | [],[],U=>some U
 | i::is,p::ps,U=>if decide (i<U.length)&&!p.s.isView then putN is ps (U.set i (some p)) else none
 | _,_,_=>none
def setN:List Nat->List V->St->St
 | i::is,v::vs,σ=>setN is vs (σ.set i (some v))
 | _,_,σ=>σ
def pvs:List Sh->List PySem.PyData->List PV
 | s::ss,d::ds=>⟨s,d⟩::pvs ss ds
 | _,_=>[]
def unpN (p:PV):Option (List PV):=match p.s,p.d with
 | .tup ss,.tuple ds=>some (pvs ss ds)
 | .leaf,.tuple ds=>some (ds.map fun d=>⟨.leaf,d⟩)
 | _,_=>none
def sUnpN (is:List Nat) (f:F1):FS:=sOf f fun p U=>match unpN p with
 | some ps=>if ps.length=is.length then (match putN is ps U with
  | some U'=>.nx U'
  | none=>.no) else .no
 | none=>.no
def zGY:List Nat->TGs
 | []=>gNil
 | i::is=>gCons (gName i) (zGY is)
theorem zEI {H:Hp} {Q:St->Hp->Prop}:∀{is:List Nat} {vs:List V} {σ:St},vs.length=is.length->Q (setN is vs σ) H->zGY is vs σ H Q
 | [],[],_,_,q=>⟨rfl,q⟩
 | i::is,v::vs,σ,hl,q=>⟨v,vs,rfl,zEI (is:=is) (vs:=vs) (by simpa using hl) q⟩
 | [],_::_,_,hl,_=>by simp at hl
 | _::_,[],_,hl,_=>by simp at hl
section
variable {K:Fg} {W:XW} {σ:St} {H:Hp} {D:Ends} {fa:F1}
theorem zE1 {He:Hp} {O:List Addr}:∀{is:List Nat} {ps:List PV} {vs:List V} {Gs:List (List Addr)} {Fs:List (List Addr)} {σ:St} {U U':Ev},vs.length=ps.length->Gs.length=ps.length->EnvOk K He (Gs.flatten++O) Fs H σ U->(∀a∈Gs.flatten,He a=none) ->
  (∀(k:Nat) v p G,vs[k]?=some v->ps[k]?=some p->Gs[k]?=some G->Own K (Gs.flatten++O++Fs.flatten) H p.s G v p.d)->putN is ps U=some U'->∃Fs',EnvOk K He O Fs' H (setN is vs σ) U'
 | [],[],[],[],Fs,σ,U,U',_,_,E,_,_,h=>by
  cases h
  exact ⟨Fs,by simpa [setN] using E⟩
 | i::is,p::ps,v::vs,G::Gs,Fs,σ,U,U',h1,h2,E,fr,o,h=>by
  unfold putN at h
  split at h
  ·rename_i hc
   simp only [Bool.and_eq_true,decide_eq_true_eq,Bool.not_eq_true'] at hc
   obtain ⟨hi,n1⟩:=hc
   have fl:(G::Gs).flatten++O=G++(Gs.flatten++O):=by simp [append_assoc]
   rw [fl] at E o
   have E1:=EnvOk.put (i:=i) E (o 0 v p G rfl rfl rfl) n1 (fun a ha=>fr a (by simp [ha])) hi
   refine zE1 (is:=is) (ps:=ps) (vs:=vs) (Gs:=Gs) (by simpa using h1) (by simpa using h2) E1 (fun a ha=>fr a (mem_append_right G ha)) (fun k v' p' G' a1 a2 a3=>?_) h
   refine (o (k+1) v' p' G' (by simpa using a1) (by simpa using a2) (by simpa using a3)).perm fun a ha=>?_
   rcases List.mem_append.mp ha with z | z
   ·exact mem_append_left _ (mem_append_right _ z)
   ·obtain ⟨F,hF⟩:=E.lt hi
    rcases List.mem_append.mp ((zBF (G:=G) hF).mem_iff.mp (mem_append_right _ z)) with y | y
    ·exact mem_append_left _ (mem_append_left _ y)
    ·exact mem_append_right _ y
  ·cases h
 | [],_::_,_,_,_,_,_,_,_,_,_,_,_,h=>by cases h
 | _::_,[],_,_,_,_,_,_,_,_,_,_,_,h=>by cases h
 | [],[],_::_,_,_,_,_,_,h,_,_,_,_,_=>by simp at h
 | [],[],[],_::_,_,_,_,_,_,h,_,_,_,_=>by simp at h
 | _::_,_::_,[],_,_,_,_,_,h,_,_,_,_,_=>by simp at h
 | _::_,_::_,_::_,[],_,_,_,_,_,h,_,_,_,_=>by simp at h
theorem pvs_len:∀{ss:List Sh} {ds:List PySem.PyData},ss.length=ds.length->(pvs ss ds).length=ds.length
 | [],[],_=>rfl
 | _::ss,_::ds,h=>by simp only [pvs,length_cons];rw [pvs_len (ss:=ss) (ds:=ds) (by simpa using h)]
 | [],_::_,h=>by simp at h
 | _::_,[],h=>by simp at h
theorem pvs_at:∀{ss:List Sh} {ds:List PySem.PyData} {k:Nat} {p:PV},(pvs ss ds)[k]?=some p->ss[k]?=some p.s/\ds[k]?=some p.d
 | [],_,k,p,h=>by simp [pvs] at h
 | _::_,[],k,p,h=>by simp [pvs] at h
 | s::ss,d::ds,0,p,h=>by
  simp only [pvs,List.getElem?_cons_zero,Option.some.injEq] at h
  subst h
  exact ⟨rfl,rfl⟩
 | s::ss,d::ds,k+1,p,h=>by
  simp only [pvs,List.getElem?_cons_succ] at h ⊢
  exact pvs_at h
theorem zFZ {n:Nat}:(List.replicate n ([]:List Addr)).flatten=[]:=by
 induction n with
 | zero=>rfl
 | succ n ih=>rw [List.replicate_succ,flatten_cons,ih];rfl
theorem rd_unpN {is:List Nat} (h:tS K W (sUnpN is fa) D σ H):tAsg (tE K W fa) (gTup K is.length (zGY is)) D σ H:=by
 refine tS_of h fun He O Fs U1 p v H1 G Fs1 _ fr A w=>?_
 obtain ⟨s,d⟩:=p
 have o:=A.own
 have E:=A.env
 dsimp only at w o
 cases hu:unpN ⟨s,d⟩ with
 | none=>rw [hu] at w;exact w.elim
 | some ps=>
  rw [hu] at w
  dsimp only at w
  by_cases hl:ps.length=is.length
  ·rw [if_pos hl] at w
   cases hp:putN is ps U1 with
   | none=>rw [hp] at w;exact w.elim
   | some U'=>
    rw [hp] at w
    cases o with
    | view r=>cases hu
    | lst=>cases hu
    | leaf r=>
     cases d with
     | tuple ds=>
      cases hu
      cases r with
      | @tup a vs _ hq hlen hr=>
       obtain ⟨Fs',E'⟩:=zE1 (is:=is) (vs:=vs) (Gs:=List.replicate ds.length []) (Fs:=Fs1) (by rw [hlen,length_map]) (by rw [List.length_replicate,length_map]) (by rw [zFZ];exact E) (by rw [zFZ];intro a ha;simp at ha) (fun k v' p' G' a1 a2 a3=>by
        rw [zFZ]
        rw [getElem?_map] at a2
        cases ed:ds[k]? with
        | none=>rw [ed] at a2;cases a2
        | some d'=>
         rw [ed] at a2
         cases a2
         have:G'=[]:=List.eq_of_mem_replicate (mem_of_getElem? a3)
         subst this
         exact .leaf (hr k v' d' a1 ed)) hp
       exact ⟨a,vs,rfl,SameT hid_le hq,by rw [hlen];simpa using hl,zEI (by rw [hlen];simpa using hl) (w _ _ _ E')⟩
     | _=>cases hu
    | @tup ss a vs ds Fs0 hv hpa hn hlen hf hs nd q=>
     cases hu
     have pl:=pvs_len hs
     obtain ⟨Fs',E'⟩:=zE1 (is:=is) (vs:=vs) (Gs:=Fs0) (Fs:=Fs1) (by rw [hlen,pl]) (by rw [hf,pl]) E fr (fun k v' p' G' a1 a2 a3=>by
      obtain ⟨z1,z2⟩:=pvs_at a2
      exact q k v' p'.d G' p'.s a1 z2 a3 z1) hp
     have hn2:vs.length=is.length:=by rw [hlen,<-pl];exact hl
     exact ⟨a,vs,rfl,.of hpa,hn2,zEI hn2 (w _ _ _ E')⟩
  ·rw [if_neg hl] at w
   exact w.elim
end
theorem Reps.take {K:Fg} {H:Hp} {vs:List V} {ds:List PySem.PyData} (k:Nat) (h:Reps K H vs ds):Reps K H (vs.take k) (ds.take k):=by
 refine ⟨by rw [length_take,length_take,h.1],fun i v d e1 e2=>?_⟩
 by_cases hi:i<k
 ·rw [List.getElem?_take,if_pos hi] at e1 e2
  exact h.2 _ v d e1 e2
 ·rw [List.getElem?_take,if_neg hi] at e1
  cases e1
theorem zD3:(1000:Nat)<=sizeLine:=by decide
theorem zC8 {i:Nat} {fc:FB} {fe:F1} {s:Sh} {c:D->Bool} {f:D->PV} {U:Ev} (hU:U.set i none=U):∀(r acc:List D),(∀d∈r,fc (U.set i (some ⟨.leaf,d⟩))=.ok (c d) (U.set i (some ⟨.leaf,d⟩))) ->
  (∀d∈r,c d=true->fe (U.set i (some ⟨.leaf,d⟩))=.ok (f d) (U.set i (some ⟨.leaf,d⟩))/\coer s (f d)=true)->acc.length+r.length<=sizeLine->zCF i fc fe s r U acc=.ok (acc++((r.filter c).map fun d=>(f d).d)) U
 | [],acc,_,_,_=>by simp [zCF]
 | d::r,acc,hc,he,hl=>by
  have h1:=hc d mem_cons_self
  have hl1:acc.length<sizeLine:=by simp at hl;omega
  have back:(U.set i (some ⟨.leaf,d⟩)).set i none=U:=by rw [set_set];exact hU
  rw [zCF,h1]
  cases hcd:c d with
  | false=>
   dsimp only
   rw [if_pos hl1,back,zC8 hU r acc (fun d hd=>hc d (mem_cons_of_mem _ hd)) (fun d hd=>he d (mem_cons_of_mem _ hd)) (by simp at hl;omega)]
   rw [List.filter_cons_of_neg (by rw [hcd];exact Bool.false_ne_true)]
  | true=>
   obtain ⟨h2,h3⟩:=he d mem_cons_self hcd
   dsimp only
   rw [h2]
   dsimp only
   rw [h3,decide_eq_true hl1,Bool.and_self,if_pos rfl,back,zC8 hU r (acc++[(f d).d]) (fun d hd=>hc d (mem_cons_of_mem _ hd)) (fun d hd=>he d (mem_cons_of_mem _ hd)) (by simp at hl ⊢;omega)]
   rw [List.filter_cons_of_pos hcd,map_cons,append_assoc]
   rfl
theorem zDS {s:Sh} {i:Nat} {fc:FB} {c:D->Bool} {f:D->PV} {st:Bool} {U:Ev} (hi:fi U=.ok ⟨ds,st⟩ U) (hl:i<U.length) (hs:s.isView=false) (hn:ds.length<=1000)
  (hc:∀d∈ds,fc (U.set i (some ⟨.leaf,d⟩))=.ok (c d) (U.set i (some ⟨.leaf,d⟩))) (he:∀d∈ds,c d=true->fe (U.set i (some ⟨.leaf,d⟩))=.ok (f d) (U.set i (some ⟨.leaf,d⟩))/\coer s (f d)=true) :
  eComp s i fi fc fe U=.ok ⟨.lst s,.list ((ds.filter c).map fun d=>(f d).d)⟩ U:=by
 have hb:=zD3
 unfold eComp
 rw [hi]
 unfold Out.bind
 dsimp only
 rw [zC8 (c:=c) (f:=f) (by rw [set_set]) ds [] (fun d hd=>by rw [set_set];exact hc d hd) (fun d hd=>by rw [set_set];exact he d hd) (by simp;omega)]
 dsimp only
 rw [hs,decide_eq_true hl]
 simp only [Bool.not_false,Bool.and_self,if_true,nil_append,set_set]
 have:U.set i (U.getD i none)=U:=by
  apply zCK
  rw [getD_eq_getElem?_getD,getElem?_eq_getElem hl]
  rfl
 rw [this]
theorem zCE {s:Sh} {i:Nat} {f:D->PV} {st:Bool} {U:Ev} (hi:fi U=.ok ⟨ds,st⟩ U) (hl:i<U.length) (hs:s.isView=false) (hn:ds.length<=1000)
  (he:∀d∈ds,fe (U.set i (some ⟨.leaf,d⟩))=.ok (f d) (U.set i (some ⟨.leaf,d⟩))/\coer s (f d)=true) :
  eComp s i fi bTrue fe U=.ok ⟨.lst s,.list (ds.map fun d=>(f d).d)⟩ U:=by
 rw [zDS (fc:=bTrue) (c:=fun _=>true) (f:=f) hi hl hs hn (fun d hd=>rfl) fun d hd _=>he d hd,List.filter_eq_self.mpr fun _ _=>rfl]
theorem zFF {P:Nat->Ev->Prop} {i:Nat} {body:FS}:∀(ds:List D) (n:Nat) (U:Ev),P n U->(∀k d U,d∈ds->n<=k->k<n+ds.length->P k U->i<U.length/\∃U',body (U.set i (some ⟨.leaf,d⟩))=.nx U'/\P (k+1) U')->∃U',forGo i body ds U=.nx U'/\P (n+ds.length) U'
 | [],n,U,h,_=>⟨U,rfl,h⟩
 | d::r,n,U,h,st=>by
  obtain ⟨hi,U1,e1,h1⟩:=st n d U mem_cons_self (Nat.le_refl _) (by simp) h
  obtain ⟨U2,e2,h2⟩:=zFF r (n+1) U1 h1 fun k d U hd a b c=>st k d U (mem_cons_of_mem _ hd) (by omega) (by simp;omega) c
  refine ⟨U2,?_,?_⟩
  ·rw [forGo,if_pos hi,e1]
   exact e2
  ·rw [length_cons,show n+(r.length+1)=n+1+r.length by omega]
   exact h2
theorem gAll_map {any:Bool} {xs:List α} {f:α->Bool}:zBP (xs.map fun x=>.bool (f x))=some (xs.map f):=by
 induction xs with
 | nil=>rfl
 | cons x r ih=>rw [map_cons,zBP,ih];rfl
theorem zDR {xs:List α} {f:α->Bool}:gAll false [.list (xs.map fun x=>.bool (f x))]=some (.bool (xs.all f)):=by
 show Option.map _ (zBP _)=_
 rw [gAll_map (any:=false)]
 simp [List.all_map]
section
variable {U U1 U2:Ev} {fa fb fc:F1} {fl:FL} {p q:PV} {ps:List PV} {d e:D} {s s' s2:Sh} {i j n:Nat}
theorem zAB (h:U[i]?=some (some ⟨.leaf,d⟩)):eVar i U=.ok ⟨.leaf,d⟩ U:=by unfold eVar;rw [h]
theorem v_lst (h:U[i]?=some (some ⟨.lst s,d⟩)):eVar i U=.ok ⟨.view,d⟩ U:=by unfold eVar;rw [h]
theorem zGO (h:U[i]?=some (some p)):eMove i U=.ok p (U.set i none):=by unfold eMove;rw [h]
theorem v_k:eK d U=.ok ⟨.leaf,d⟩ U:=rfl
theorem v_op (ha:fa U=.ok p U1) (hb:fb U1=.ok q U2) (hg:g p.d q.d=some d):eOp g fa fb U=.ok ⟨.leaf,d⟩ U2:=by
 unfold eOp eBind;rw [ha];simp only [Out.bind];rw [hb];simp only [hg]
theorem v_u {g:D->Option D} (ha:fa U=.ok p U1) (hg:g p.d=some d):eU g fa U=.ok ⟨.leaf,d⟩ U1:=by
 unfold eU eBind;rw [ha];simp only [Out.bind,hg]
theorem zAC (ha:fa U=.ok p U1) (hl:fl U1=.ok ps U2):eCons fa fl U=.ok (p::ps) U2:=by
 unfold eCons;rw [ha];simp only [Out.bind];rw [hl]
theorem v_nil:eNil U=.ok [] U:=rfl
theorem v_cb {g:List D->Option D} (hl:fl U=.ok ps U1) (hg:g (ps.map (·.d))=some d):eCB g fl U=.ok ⟨.leaf,d⟩ U1:=by
 unfold eCB;rw [hl];simp only [Out.bind];rw [hg]
theorem zAQ {den:List D->Res} (hl:fl U=.ok ps U1) (hd:den (ps.map (·.d))=.ok p) (hn:ps.length=n) (hc:ps.all (coer .leaf)=true):eCall n den fl U=.ok p U1:=by
 unfold eCall;rw [hl];simp only [Out.bind,hn,hd,hc,if_true]
theorem zB0 {k:Int} (ha:fa U=.ok ⟨s,.list ds⟩ U1) (hb:fb U1=.ok ⟨s',.int k⟩ U2) (hi:ixN ds.length k=some j) (hd:ds[j]?=some d) (hs:zBQ s j d=some s2):eIdx fa fb U=.ok ⟨s2,d⟩ U2:=by
 unfold eIdx eBind;rw [ha];simp only [Out.bind];rw [hb];simp only [hi,hd,hs]
theorem zAM {k:Int} (ha:fa U=.ok ⟨s,.tuple ds⟩ U1) (hb:fb U1=.ok ⟨s',.int k⟩ U2) (hi:ixN ds.length k=some j) (hd:ds[j]?=some d) (hs:zBQ s j d=some s2):eIdx fa fb U=.ok ⟨s2,d⟩ U2:=by
 unfold eIdx eBind;rw [ha];simp only [Out.bind];rw [hb];simp only [hi,hd,hs]
theorem zF9 {x:Str} {k:Int} {c:Nat} (ha:fa U=.ok ⟨s,.str x⟩ U1) (hb:fb U1=.ok ⟨s',.int k⟩ U2) (hn:x.length<=sizeLine) (hi:atI x.cps.toList k=some c):eIdx fa fb U=.ok ⟨.leaf,.str ⟨#[c]⟩⟩ U2:=by
 unfold eIdx eBind;rw [ha];simp only [Out.bind];rw [hb];simp only [hi,hn,if_true]
theorem zBZ (hl:fl U=.ok ps U1) (hs:s.isView=false) (hc:ps.all (coer s)=true) (hn:decide (ps.length<=1000)=true):eList s fl U=.ok ⟨.lst s,.list (ps.map (·.d))⟩ U1:=by
 have h2:ps.length<=sizeLine:=Nat.le_trans (of_decide_eq_true hn) zD3
 unfold eList;rw [hl];simp only [Out.bind,hs,hc,decide_eq_true h2,Bool.not_false,Bool.and_self,if_true]
theorem v_tup (hl:fl U=.ok ps U1) (hc:ps.all tok=true) (hn:decide (ps.length<=1000)=true):eTup fl U=.ok ⟨.tup (ps.map tsh),.tuple (ps.map (·.d))⟩ U1:=by
 have h2:ps.length<=sizeLine:=Nat.le_trans (of_decide_eq_true hn) zD3
 unfold eTup;rw [hl];simp only [Out.bind,hc,decide_eq_true h2,Bool.and_self,if_true]
theorem zEY (ha:fa U=.ok ⟨s,.list ds⟩ U1) (ho:zBB ⟨s,.list ds⟩ ds=true):zCB fa U=.ok ⟨.lst .leaf,.list ds⟩ U1:=by
 unfold zCB eBind;rw [ha];simp only [Out.bind,ho,if_true]
theorem v_and (ha:fa U=.ok ⟨s,.bool a⟩ U) (hb:fb U=.ok ⟨.leaf,.bool b⟩ U):eAnd fa fb U=.ok ⟨.leaf,.bool (a&&b)⟩ U:=by
 unfold eAnd eBind;rw [ha];simp only [Out.bind]
 cases a with
 | false=>rfl
 | true=>exact hb
theorem v_chain {g':D->D->Option D} {b':Bool} (ha:fa U=.ok p U) (hb:fb U=.ok q U) (hg:g p.d q.d=some (.bool b)) (hs:scalD q.d=true) {z:PV} (hc:fc U=.ok z U) (hg':g' q.d z.d=some (.bool b')):zC4 g g' fa fb fc U=.ok ⟨.leaf,.bool (b&&b')⟩ U:=by
 unfold zC4 eBind;rw [ha];simp only [Out.bind];rw [hb];simp only [hg]
 cases b with
 | false=>rfl
 | true=>simp only [hs,if_true,hc,hg',Bool.true_and]
theorem zAK (ha:fa U=.ok ⟨s,.bool b⟩ U1):bOf gBool fa U=.ok b U1:=by unfold bOf;rw [ha];rfl
theorem b_tru (ha:fa U=.ok ⟨s,.bool b⟩ U1):bOf gTru fa U=.ok b U1:=by unfold bOf;rw [ha];rfl
theorem b_not (h:ga U=.ok b U1):bNot ga U=.ok (!b) U1:=by unfold bNot;rw [h];rfl
theorem b_and (ha:ga U=.ok a U) (hb:gb U=.ok b U):bAnd ga gb U=.ok (a&&b) U:=by
 unfold bAnd;rw [ha];simp only [Out.bind]
 cases a with
 | false=>rfl
 | true=>exact hb
theorem b_or (ha:ga U=.ok a U) (hb:gb U=.ok b U):bOr ga gb U=.ok (a||b) U:=by
 unfold bOr;rw [ha];simp only [Out.bind]
 cases a with
 | false=>exact hb
 | true=>rfl
theorem w_seq (ha:fa U=.ok ⟨s,.list ds⟩ U1) (ho:zBB ⟨s,.list ds⟩ ds=true):iSeq fa U=.ok ⟨ds,!s.isView⟩ U1:=by
 unfold iSeq;rw [ha];simp only [Out.bind,ho,if_true]
theorem w_r1 {k:Int} (hl:fl U=.ok ps U1) (hp:ps.map (·.d)=[.int k]) (h0:-1000<=k) (h1:k<=100000):iR1 fl U=.ok ⟨rngD 0 k.toNat,true⟩ U1:=by
 have h3:inRng k=true:=by unfold inRng;simp only [Bool.and_eq_true,decide_eq_true_eq];omega
 unfold iR1;rw [hl];simp only [Out.bind,hp,rng1,h3,if_true]
theorem w_r2 {k m:Int} (hl:fl U=.ok ps U1) (hp:ps.map (·.d)=[.int k,.int m]) (h0:-1000<=k) (h1:k<=100000) (h2:-1000<=m) (h4:m<=100000):iR2 fl U=.ok ⟨rngD k (m-k).toNat,true⟩ U1:=by
 have h3:inRng k=true:=by unfold inRng;simp only [Bool.and_eq_true,decide_eq_true_eq];omega
 have h5:inRng m=true:=by unfold inRng;simp only [Bool.and_eq_true,decide_eq_true_eq];omega
 unfold iR2;rw [hl];simp only [Out.bind,hp,rng2,h3,h5,Bool.and_self,if_true]
theorem x_seq (h1:g1 U=.nx U1) (h2:g2 U1=o):sSeq g1 g2 U=o:=by unfold sSeq;rw [h1];exact h2
theorem zC1 (h1:g1 U=.rt p):sSeq g1 g2 U=.rt p:=by unfold sSeq;rw [h1]
theorem x_if {c:FB} {a b:FS} {t:Bool} (hc:c U=.ok t U1) (ht:t=true->a U1=o) (hf:t=false->b U1=o):sIf c a b U=o:=by
 unfold sIf;rw [hc]
 cases t with
 | true=>exact ht rfl
 | false=>exact hf rfl
theorem x_ret (h:fa U=.ok p U1) (hs:p.s.isView=false):sRet fa U=.rt p:=by
 unfold sRet sOf;rw [h];simp only [hs];rfl
theorem zA1 (h:fa U=.ok p U1) (hc:coer .leaf p=true) (hi:i<U1.length):sSet false i fa U=.nx (U1.set i (some ⟨.leaf,p.d⟩)):=by
 unfold sSet sOf;rw [h];simp only [hi,if_true,hc,Bool.false_and];rfl
theorem zD4 (h:fa U=.ok p U1) (hs:p.s.isView=false) (hi:i<U1.length):sSet true i fa U=.nx (U1.set i (some p)):=by
 unfold sSet sOf;rw [h];simp only [hi,if_true,hs,Bool.true_and,Bool.not_false]
theorem zCH (ho:U[i]?=some (some ⟨.lst s,.list ds⟩)) (h:fa U=.ok p U) (hc:coer s p=true) (hn:ds.length<=900):zAV i fa U=.nx (U.set i (some ⟨.lst s,.list (ds++[p.d])⟩)):=by
 have h2:ds.length<sizeLine:=Nat.lt_of_lt_of_le (by omega:ds.length<1000) zD3
 unfold zAV zFR;rw [ho];simp only [if_true];unfold sOf;rw [h];simp only;unfold appK;rw [ho];simp only [hc,decide_eq_true h2,Bool.and_self,if_true]
theorem x_setI {k:Int} (ho:U[i]?=some (some ⟨.lst .leaf,.list ds⟩)) (h:fa U=.ok p U) (hk:fb U=.ok ⟨s,.int k⟩ U) (hi:ixN ds.length k=some j) (hc:coer .leaf p=true):sSetI i fa fb U=.nx (U.set i (some ⟨.lst .leaf,.list (ds.set j p.d)⟩)):=by
 unfold sSetI zA8;rw [ho];simp only [if_true];unfold sOf;rw [h];simp only;rw [hk];simp only;unfold setK;rw [ho];simp only [hi,hc,if_true]
theorem x_for {body:FS} (h:fi U=.ok ⟨ds,true⟩ U1) (hg:forGo i body ds U1=o):sFor i fi body U=o:=by unfold sFor;rw [h];exact hg
end
end T
namespace KC
open PySem PySem.Spec L2 T
open PyProof.Rows hiding St
variable {x:Str} {ds os ms:List D} {a b lo c at' lim:Int} {n:Nat} {g:FS} {ts:List Int} {U1:Ev} {fa:F1}
noncomputable def k_LETTERS:PySem.PyData:=.tuple [.str "a",.str "b",.str "c",.str "d",.str "e",.str "f"]
noncomputable def k_PLAYERS:PySem.PyData:=.tuple [.int 0,.int 1]
noncomputable def k_MOST_ROOMS:PySem.PyData:=.int 24
noncomputable def d_is_rising:FS:=(sRet (eCB (gAll false) (eCons (eComp .leaf 1 (iR2 (eCons (eK (.int 1)) (eCons (eCB gLen (eCons (eVar 0) eNil)) eNil))) bTrue (eOp gLt (eIdx (eVar 0) (eOp gSub (eVar 1) (eK (.int 1)))) (eIdx (eVar 0) (eVar 1)))) eNil)))
noncomputable def m_is_rising:List PySem.PyData->Res:=denOf 2 d_is_rising
noncomputable def d_are_marks:FS:=(sRet (eAnd (eCB (gAll false) (eCons (eComp .leaf 1 (iSeq (eVar 0)) bTrue (eOp (gIn false) (eVar 1) (eK k_LETTERS))) eNil)) (eCall 1 m_is_rising (eCons (eVar 0) eNil))))
noncomputable def m_are_marks:List PySem.PyData->Res:=denOf 2 d_are_marks
noncomputable def d_are_rooms:FS:=(sRet (eAnd (eCB (gAll false) (eCons (eComp .leaf 2 (iSeq (eVar 0)) bTrue (zC4 gLe gLt (eK (.int 0)) (eVar 2) (eVar 1))) eNil)) (eCall 1 m_is_rising (eCons (eVar 0) eNil))))
noncomputable def m_are_rooms:List PySem.PyData->Res:=denOf 3 d_are_rooms
noncomputable def d_are_steps:FS:=(sRet (eAnd (eOp gGt (eCB gLen (eCons (eVar 0) eNil)) (eK (.int 0))) (eCall 2 m_are_rooms (eCons (eVar 0) (eCons (eVar 1) eNil)))))
noncomputable def m_are_steps:List PySem.PyData->Res:=denOf 2 d_are_steps
noncomputable def d_is_world:FS:=(sSeq (sSet false 3 (eCB gLen (eCons (eVar 0) eNil)))
  (sSeq (sIf (bOr (bOf gBool (eOp gLt (eVar 3) (eK (.int 1)))) (bOr (bOf gBool (eOp gGt (eVar 3) (eK k_MOST_ROOMS))) (bOr (bOf gBool (eOp gNe (eCB gLen (eCons (eVar 1) eNil)) (eVar 3))) (bOf gBool (eOp gNe (eCB gLen (eCons (eVar 2) eNil)) (eVar 3)))))) (sRet (eK (.bool false))) sNext)
  (sSeq (sIf (bNot (bOf gTru (eCB (gAll false) (eCons (eComp .leaf 4 (iSeq (eVar 0)) bTrue (eOp (gIn false) (eVar 4) (eK k_PLAYERS))) eNil)))) (sRet (eK (.bool false))) sNext)
  (sRet (eAnd (eCB (gAll false) (eCons (eComp .leaf 5 (iSeq (eVar 1)) bTrue (eCall 1 m_are_marks (eCons (eVar 5) eNil))) eNil)) (eCB (gAll false) (eCons (eComp .leaf 5 (iSeq (eVar 2)) bTrue (eCall 2 m_are_steps (eCons (eVar 5) (eCons (eVar 3) eNil)))) eNil)))))))
noncomputable def m_is_world:List PySem.PyData->Res:=denOf 6 d_is_world
noncomputable def d_check_world:FS:=(sIf (bNot (bOf gTru (eCall 3 m_is_world (eCons (eIdx (eVar 0) (eK (.int 0))) (eCons (eIdx (eVar 0) (eK (.int 1))) (eCons (eIdx (eVar 0) (eK (.int 2))) eNil)))))) sNo sNext)
noncomputable def m_check_world:List PySem.PyData->Res:=denOf 1 d_check_world
noncomputable def d__law_cell_at:FS:=(sSeq (sIf (bOf gBool (eOp gLt (eVar 1) (eCB gLen (eCons (eVar 0) eNil)))) (sRet (eIdx (eVar 0) (eVar 1))) sNext)
  (sRet (eK (.int 0))))
noncomputable def m__law_cell_at:List PySem.PyData->Res:=denOf 2 d__law_cell_at
noncomputable def d__law_draw:FS:=(sSeq (sIf (bOf gBool (eOp gGeA (eVar 0) (eOp gPow (eK (.int 10)) (eK (.int 18))))) (sSeq (sSet false 4 (eVar 0))
  (sSeq (sFor 5 (iR1 (eCons (eVar 1) eNil))
  (sSet false 4 (eOp gDiv (eVar 4) (eVar 2))))
  (sRet (eOp gMod (eVar 4) (eVar 2))))) sNext)
  (sSeq (sSet false 3 (eOp gMod (eOp gMul (eOp gAddI (eOp gAddI (eOp gMod (eVar 0) (eK (.int 1000000007))) (eOp gMul (eK (.int 1009)) (eVar 1))) (eK (.int 17))) (eK (.int 69621))) (eK (.int 2147483647))))
  (sSeq (sSet false 3 (eOp gMod (eOp gAddI (eOp gAddI (eOp gMul (eVar 3) (eVar 3)) (eOp gMul (eK (.int 40503)) (eVar 1))) (eK (.int 5))) (eK (.int 2147483629))))
  (sRet (eOp gMod (eOp gDiv (eOp gMod (eOp gMul (eVar 3) (eK (.int 48271))) (eK (.int 2147483647))) (eK (.int 32))) (eVar 2))))))
noncomputable def m__law_draw:List PySem.PyData->Res:=denOf 6 d__law_draw
noncomputable def d__law_world:FS:=(sSeq (sSet false 3 (eOp gAddI (eK (.int 1)) (eOp gMod (eCall 2 m__law_cell_at (eCons (eVar 0) (eCons (eVar 1) eNil))) (eVar 2))))
  (sSeq (sSet true 4 (eList .leaf eNil))
  (sSeq (sSet true 5 (eList .leaf eNil))
  (sSeq (sSet true 6 (eList .leaf eNil))
  (sSeq (sFor 7 (iR1 (eCons (eVar 3) eNil))
  (sSeq (sSet false 8 (eCall 2 m__law_cell_at (eCons (eVar 0) (eCons (eOp gAddI (eOp gAddI (eVar 1) (eK (.int 1))) (eVar 7)) eNil))))
  (sSeq (zAV 4 (eCall 3 m__law_draw (eCons (eVar 8) (eCons (eK (.int 0)) (eCons (eK (.int 2)) eNil)))))
  (sSeq (zAV 5 (eComp .leaf 11 (iR1 (eCons (eK (.int 3)) eNil)) (bOf gBool (eOp gEq (eCall 3 m__law_draw (eCons (eVar 8) (eCons (eOp gAddI (eK (.int 1)) (eVar 11)) (eCons (eK (.int 2)) eNil)))) (eK (.int 1)))) (eIdx (eK (.str "abc")) (eVar 11))))
  (sSeq (sSet false 9 (eComp .leaf 10 (iR1 (eCons (eVar 3) eNil)) (bOf gBool (eOp gEq (eCall 3 m__law_draw (eCons (eVar 8) (eCons (eOp gAddI (eK (.int 4)) (eVar 10)) (eCons (eOp gAddI (eK (.int 2)) (eCB gInt (eCons (eOp gGt (eVar 3) (eK (.int 3))) eNil))) eNil)))) (eK (.int 1)))) (eVar 10)))
  (sSeq (sIf (bOf gBool (eOp gEq (eVar 9) (eList .leaf eNil))) (sSet false 9 (eList .leaf (eCons (eCall 3 m__law_draw (eCons (eVar 8) (eCons (eOp gAddI (eK (.int 4)) (eVar 3)) (eCons (eVar 3) eNil)))) eNil))) sNext)
  (zAV 6 (eVar 9))))))))
  (sRet (eTup (eCons (eMove 4) (eCons (eMove 5) (eCons (eMove 6) eNil))))))))))
noncomputable def m__law_world:List PySem.PyData->Res:=denOf 12 d__law_world
open PySem.SeqAt
noncomputable def ltD (a b:D):Bool:=match gLt a b with
 | some (.bool t)=>t
 | _=>false
noncomputable def RowI (ds:List D):Prop:=∀a∈ds,∃n,a=.int n
noncomputable def RowS (ds:List D):Prop:=∀a∈ds,∃x,a=.str x/\PyData.strOk x=true
noncomputable def Row (ds:List D):Prop:=RowI ds\/RowS ds
theorem zEA (i:Int):shaped (.int i)=true:=by simp [shaped,PyData.canLay0,PyData.depth]
theorem sh_str (h:PyData.strOk x=true):shaped (.str x)=true:=by simp [shaped,PyData.canLay0,PyData.depth,h]
theorem Row.lt {a b:D} (h:Row ds) (ha:a∈ds) (hb:b∈ds):gLt a b=some (.bool (ltD a b))/\gGeA a b=some (.bool (!ltD a b)):=by
 rcases h with h | h
 ·obtain ⟨n,rfl⟩:=h a ha
  obtain ⟨m,rfl⟩:=h b hb
  refine ⟨rfl,?_⟩
  show some (PyData.bool (decide (m<=n)))=some (.bool (!decide (n<m)))
  congr 2
  by_cases q:n<m
  ·simp [q,Int.not_le.mpr q]
  ·simp [q,Int.not_lt.mp q]
 ·obtain ⟨n,rfl,_⟩:=h a ha
  obtain ⟨m,rfl,_⟩:=h b hb
  exact ⟨rfl,rfl⟩
noncomputable def lt2 (ds:List D) (d:D):Bool:=match d with
 | .int j=>ltD (ds.getD (j-1).toNat .none) (ds.getD j.toNat .none)
 | _=>false
noncomputable def rises (ds:List D):Bool:=(rngD 1 ((ds.length:Int)-1).toNat).all (lt2 ds)
theorem zCS {d:D} (h:d∈rngD lo n):∃k:Nat,k<n/\d=.int (lo+k):=by
 unfold rngD at h
 simp only [mem_map,mem_range] at h
 obtain ⟨k,hk,e⟩:=h
 exact ⟨k,hk,e.symm⟩
theorem zDO:(rngD lo n).length=n:=by unfold rngD;simp
theorem zFQ {k:Nat} (h:k<n):ixN n (k:Int)=some k:=by
 unfold ixN
 rw [if_pos (by omega),if_pos (by omega)]
 simp
theorem ix_of {i:Int} (h0:0<=i) (h1:i<n):ixN n i=some i.toNat:=by
 unfold ixN
 rw [if_pos h0,if_pos h1]
theorem zGI {k:Nat} (h:k<ds.length):ds[k]?=some (ds.getD k .none):=by
 rw [getD_eq_getElem?_getD,getElem?_eq_getElem h];rfl
theorem getD_mem {k:Nat} (h:k<ds.length):ds.getD k .none∈ds:=mem_of_getElem? (zGI h)
theorem lt_ev {k:Nat} (h:Row ds) (hk:k<((ds.length:Int)-1).toNat):ixN ds.length (1+(k:Int)-1)=some k/\ixN ds.length (1+(k:Int))=some (k+1)/\ds[k]?=some (ds.getD k .none)/\ds[k+1]?=some (ds.getD (k+1) .none) /\
  gLt (ds.getD k .none) (ds.getD (k+1) .none)=some (.bool (lt2 ds (.int (1+(k:Int)))))/\gGeA (ds.getD k .none) (ds.getD (k+1) .none)=some (.bool (!lt2 ds (.int (1+(k:Int))))):=by
 have h1:k<ds.length:=by omega
 have h2:k+1<ds.length:=by omega
 have l:=h.lt (getD_mem h1) (getD_mem h2)
 have e3:lt2 ds (.int (1+(k:Int)))=ltD (ds.getD k .none) (ds.getD (k+1) .none):=by
  unfold lt2
  dsimp only
  rw [show (1+(k:Int)-1).toNat=k by omega,show (1+(k:Int)).toNat=k+1 by omega]
 rw [e3]
 exact ⟨by rw [show (1+(k:Int)-1)=k by omega];exact zFQ h1,by rw [show (1+(k:Int))=((k+1:Nat):Int) by omega];exact zFQ h2,zGI h1,zGI h2,l.1,l.2⟩
theorem rt_of {p:PV} (h:g (zAO n ds)=.rt p):denOf n g ds=.ok p:=by unfold denOf;rw [h]
theorem eq_int:gEq (.int a) (.int b)=some (.bool (a==b)):=by
 unfold gEq
 rw [zEA,zEA,Bool.and_self,if_pos rfl,PyData.eqv]
theorem den_is_rising (h:Row ds) (hl:ds.length<=100):m_is_rising [.list ds]=.ok ⟨.leaf,.bool (rises ds)⟩:=by
 have hc:eComp .leaf 1 (iR2 (eCons (eK (.int 1)) (eCons (eCB gLen (eCons (eVar 0) eNil)) eNil))) bTrue (eOp gLt (eIdx (eVar 0) (eOp gSub (eVar 1) (eK (.int 1)))) (eIdx (eVar 0) (eVar 1))) [some ⟨.leaf,.list ds⟩,none] =
   .ok ⟨.lst .leaf,.list ((rngD 1 ((ds.length:Int)-1).toNat).map fun d=>.bool (lt2 ds d))⟩ [some ⟨.leaf,.list ds⟩,none]:=by
  refine zCE (f:=fun d=>⟨.leaf,.bool (lt2 ds d)⟩) (st:=true) (w_r2 (k:=1) (m:=(ds.length:Int)) (zAC v_k (zAC (v_cb (zAC (zAB rfl) v_nil) rfl) v_nil)) rfl (by omega) (by omega) (by omega) (by omega)) (by simp) rfl (by rw [zDO];omega) fun d hd=>⟨?_,rfl⟩
  obtain ⟨k,hk,rfl⟩:=zCS hd
  obtain ⟨e1,e2,e3,e4,e5,e6⟩:=lt_ev h hk
  exact v_op (zB0 (zAB rfl) (v_op (zAB rfl) v_k rfl) e1 e3 rfl) (zB0 (zAB rfl) (zAB rfl) e2 e4 rfl) e5
 exact rt_of (x_ret (v_cb (zAC hc v_nil) zDR) rfl)
noncomputable def inL (a:D):Bool:=[PyData.str "a",.str "b",.str "c",.str "d",.str "e",.str "f"].any fun y=>PyData.eqv y a
noncomputable def inP (a:D):Bool:=[PyData.int 0,.int 1].any fun y=>PyData.eqv y a
noncomputable def inR (n:Int) (a:D):Bool:=match a with
 | .int i=>decide (0<=i)&&decide (i<n)
 | _=>false
noncomputable def mOk (d:D):Bool:=match d with
 | .list xs=>xs.all inL&&rises xs
 | _=>false
noncomputable def sOk (n:Int) (d:D):Bool:=match d with
 | .list xs=>decide (0<xs.length)&&(xs.all (inR n)&&rises xs)
 | _=>false
theorem sh_let:shaped k_LETTERS=true:=by decide +kernel
theorem sh_pl:shaped k_PLAYERS=true:=by decide +kernel
theorem in_let (hx:PyData.strOk x=true):gIn false (.str x) k_LETTERS=some (.bool (inL (.str x))):=by
 unfold gIn k_LETTERS
 have:=sh_let
 unfold k_LETTERS at this
 simp only [sh_str hx,this,Bool.and_self,if_true]
 rfl
theorem in_pl {i:Int}:gIn false (.int i) k_PLAYERS=some (.bool (inP (.int i))):=by
 unfold gIn k_PLAYERS
 have:=sh_pl
 unfold k_PLAYERS at this
 simp only [zEA,this,Bool.and_self,if_true]
 rfl
theorem den_are_marks (h:RowS ds) (hl:ds.length<=100):m_are_marks [.list ds]=.ok ⟨.leaf,.bool (ds.all inL&&rises ds)⟩:=by
 have hc:eComp .leaf 1 (iSeq (eVar 0)) bTrue (eOp (gIn false) (eVar 1) (eK k_LETTERS)) [some ⟨.leaf,.list ds⟩,none]=.ok ⟨.lst .leaf,.list (ds.map fun d=>.bool (inL d))⟩ [some ⟨.leaf,.list ds⟩,none]:=by
  refine zCE (f:=fun d=>⟨.leaf,.bool (inL d)⟩) (w_seq (zAB rfl) rfl) (by simp) rfl (by omega) fun d hd=>⟨?_,rfl⟩
  obtain ⟨x,rfl,hx⟩:=h d hd
  exact v_op (zAB rfl) v_k (in_let hx)
 exact rt_of (x_ret (v_and (v_cb (zAC hc v_nil) zDR) (zAQ (zAC (zAB rfl) v_nil) (den_is_rising (.inr h) hl) rfl rfl)) rfl)
theorem chain_ev {i n:Int}:gLe (.int 0) (.int i)=some (.bool (decide (0<=i)))/\gLt (.int i) (.int n)=some (.bool (decide (i<n))):=⟨rfl,rfl⟩
theorem den_are_rooms {n:Int} (h:RowI ds) (hl:ds.length<=100):m_are_rooms [.list ds,.int n]=.ok ⟨.leaf,.bool (ds.all (inR n)&&rises ds)⟩:=by
 have hc:eComp .leaf 2 (iSeq (eVar 0)) bTrue (zC4 gLe gLt (eK (.int 0)) (eVar 2) (eVar 1)) [some ⟨.leaf,.list ds⟩,some ⟨.leaf,.int n⟩,none]=.ok ⟨.lst .leaf,.list (ds.map fun d=>.bool (inR n d))⟩ [some ⟨.leaf,.list ds⟩,some ⟨.leaf,.int n⟩,none]:=by
  refine zCE (f:=fun d=>⟨.leaf,.bool (inR n d)⟩) (w_seq (zAB rfl) rfl) (by simp) rfl (by omega) fun d hd=>⟨?_,rfl⟩
  obtain ⟨i,rfl⟩:=h d hd
  exact v_chain v_k (zAB rfl) (chain_ev (n:=n)).1 rfl (zAB rfl) chain_ev.2
 exact rt_of (x_ret (v_and (v_cb (zAC hc v_nil) zDR) (zAQ (zAC (zAB rfl) v_nil) (den_is_rising (.inl h) hl) rfl rfl)) rfl)
theorem den_are_steps {n:Int} (h:RowI ds) (hl:ds.length<=100):m_are_steps [.list ds,.int n]=.ok ⟨.leaf,.bool (decide (0<ds.length)&&(ds.all (inR n)&&rises ds))⟩:=by
 have e:gGt (.int (ds.length:Nat)) (.int 0)=some (.bool (decide (0<ds.length))):=by
  show some (PyData.bool (decide ((0:Int)<(ds.length:Int))))=_
  congr 2
  exact decide_eq_decide.mpr (by omega)
 exact rt_of (x_ret (v_and (v_op (v_cb (zAC (zAB rfl) v_nil) rfl) v_k e) (zAQ (zAC (zAB rfl) (zAC (zAB rfl) v_nil)) (den_are_rooms h hl) rfl rfl)) rfl)
structure Wk (b:Nat) (os ms ss:List D):Prop where
 o:RowI os
 m:∀r∈ms,∃xs,r=.list xs/\RowS xs/\xs.length<=30
 s:∀r∈ss,∃xs,r=.list xs/\RowI xs/\xs.length<=30
 lo:os.length<=b
 lm:ms.length<=b
 ls:ss.length<=b
noncomputable def bad (os ms ss:List D):Bool:=decide ((os.length:Int)<1)||(decide ((24:Int)<os.length)||((!((ms.length:Int)==(os.length:Int)))||(!((ss.length:Int)==(os.length:Int)))))
noncomputable def isW (os ms ss:List D):Bool:=!bad os ms ss&&(os.all inP&&(ms.all mOk&&ss.all (sOk os.length)))
theorem ne_int:gNe (.int a) (.int b)=some (.bool (!(a==b))):=by
 unfold gNe
 rw [zEA,zEA,Bool.and_self,if_pos rfl,PyData.eqv]
theorem den_is_world {b:Nat} {ss:List D} (h:Wk b os ms ss) (hb:b<=100):m_is_world [.list os,.list ms,.list ss]=.ok ⟨.leaf,.bool (isW os ms ss)⟩:=by
 have lo:=h.lo
 have lm:=h.lm
 have ls:=h.ls
 refine rt_of ?_
 refine x_seq (zA1 (v_cb (zAC (zAB rfl) v_nil) rfl) rfl (by simp [zAO])) ?_
 have hif:(bOr (bOf gBool (eOp gLt (eVar 3) (eK (.int 1)))) (bOr (bOf gBool (eOp gGt (eVar 3) (eK k_MOST_ROOMS))) (bOr (bOf gBool (eOp gNe (eCB gLen (eCons (eVar 1) eNil)) (eVar 3))) (bOf gBool (eOp gNe (eCB gLen (eCons (eVar 2) eNil)) (eVar 3)))))) [some ⟨.leaf,.list os⟩,some ⟨.leaf,.list ms⟩,some ⟨.leaf,.list ss⟩,some ⟨.leaf,.int (os.length:Nat)⟩,none,none]
   = .ok (bad os ms ss) [some ⟨.leaf,.list os⟩,some ⟨.leaf,.list ms⟩,some ⟨.leaf,.list ss⟩,some ⟨.leaf,.int (os.length:Nat)⟩,none,none]:=
  b_or (zAK (v_op (zAB rfl) v_k rfl)) (b_or (zAK (v_op (zAB rfl) v_k rfl)) (b_or (zAK (v_op (v_cb (zAC (zAB rfl) v_nil) rfl) (zAB rfl) ne_int)) (zAK (v_op (v_cb (zAC (zAB rfl) v_nil) rfl) (zAB rfl) ne_int))))
 cases hbad:bad os ms ss with
 | true=>
  rw [hbad] at hif
  unfold isW
  rw [hbad]
  exact zC1 (x_if hif (fun _=>x_ret v_k rfl) nofun)
 | false=>
  rw [hbad] at hif
  refine x_seq (x_if hif nofun (fun _=>rfl)) ?_
  have c1:eComp .leaf 4 (iSeq (eVar 0)) bTrue (eOp (gIn false) (eVar 4) (eK k_PLAYERS)) [some ⟨.leaf,.list os⟩,some ⟨.leaf,.list ms⟩,some ⟨.leaf,.list ss⟩,some ⟨.leaf,.int (os.length:Nat)⟩,none,none]
    = .ok ⟨.lst .leaf,.list (os.map fun d=>.bool (inP d))⟩ [some ⟨.leaf,.list os⟩,some ⟨.leaf,.list ms⟩,some ⟨.leaf,.list ss⟩,some ⟨.leaf,.int (os.length:Nat)⟩,none,none]:=by
   refine zCE (f:=fun d=>⟨.leaf,.bool (inP d)⟩) (w_seq (zAB rfl) rfl) (by simp) rfl (by omega) fun d hd=>⟨?_,rfl⟩
   obtain ⟨i,rfl⟩:=h.o d hd
   exact v_op (zAB rfl) v_k in_pl
  have c2:eComp .leaf 5 (iSeq (eVar 1)) bTrue (eCall 1 m_are_marks (eCons (eVar 5) eNil)) [some ⟨.leaf,.list os⟩,some ⟨.leaf,.list ms⟩,some ⟨.leaf,.list ss⟩,some ⟨.leaf,.int (os.length:Nat)⟩,none,none]
    = .ok ⟨.lst .leaf,.list (ms.map fun d=>.bool (mOk d))⟩ [some ⟨.leaf,.list os⟩,some ⟨.leaf,.list ms⟩,some ⟨.leaf,.list ss⟩,some ⟨.leaf,.int (os.length:Nat)⟩,none,none]:=by
   refine zCE (f:=fun d=>⟨.leaf,.bool (mOk d)⟩) (w_seq (zAB rfl) rfl) (by simp) rfl (by omega) fun d hd=>⟨?_,rfl⟩
   obtain ⟨xs,rfl,hx,hl⟩:=h.m d hd
   exact zAQ (zAC (zAB rfl) v_nil) (den_are_marks hx (by omega)) rfl rfl
  have c3:eComp .leaf 5 (iSeq (eVar 2)) bTrue (eCall 2 m_are_steps (eCons (eVar 5) (eCons (eVar 3) eNil))) [some ⟨.leaf,.list os⟩,some ⟨.leaf,.list ms⟩,some ⟨.leaf,.list ss⟩,some ⟨.leaf,.int (os.length:Nat)⟩,none,none]
    = .ok ⟨.lst .leaf,.list (ss.map fun d=>.bool (sOk os.length d))⟩ [some ⟨.leaf,.list os⟩,some ⟨.leaf,.list ms⟩,some ⟨.leaf,.list ss⟩,some ⟨.leaf,.int (os.length:Nat)⟩,none,none]:=by
   refine zCE (f:=fun d=>⟨.leaf,.bool (sOk os.length d)⟩) (w_seq (zAB rfl) rfl) (by simp) rfl (by omega) fun d hd=>⟨?_,rfl⟩
   obtain ⟨xs,rfl,hx,hl⟩:=h.s d hd
   exact zAQ (zAC (zAB rfl) (zAC (zAB rfl) v_nil)) (den_are_steps hx (by omega)) rfl rfl
  have t1:=b_not (b_tru (v_cb (zAC c1 v_nil) zDR))
  cases ho:os.all inP with
  | false=>
   rw [ho] at t1
   unfold isW
   rw [ho,Bool.false_and,Bool.and_false]
   exact zC1 (x_if t1 (fun _=>x_ret v_k rfl) nofun)
  | true=>
   rw [ho] at t1
   refine x_seq (x_if t1 nofun (fun _=>rfl)) ?_
   unfold isW
   rw [hbad,ho,Bool.not_false,Bool.true_and,Bool.true_and]
   exact x_ret (v_and (v_cb (zAC c2 v_nil) zDR) (v_cb (zAC c3 v_nil) zDR)) rfl
theorem eq_nil {xs:List D} (h:shaped (.list xs)=true):gEq (.list xs) (.list [])=some (.bool (decide (xs.length=0))):=by
 unfold gEq
 have h2:shaped (.list [])=true:=by decide +kernel
 rw [h,h2,Bool.and_self,if_pos rfl]
 cases xs with
 | nil=>rfl
 | cons a r=>rfl
theorem zFW {xs:List D} (h:RowI xs):shaped (.list xs)=true:=by
 have c:PyData.canLayAll0 xs=true/\PyData.depthAll xs=0:=by
  induction xs with
  | nil=>exact ⟨rfl,rfl⟩
  | cons a r ih=>
   obtain ⟨n,rfl⟩:=h a mem_cons_self
   have q:=ih fun x hx=>h x (mem_cons_of_mem _ hx)
   simp [PyData.canLayAll0,PyData.canLay0,PyData.depthAll,PyData.depth,q.1,q.2]
 simp [shaped,PyData.canLay0,PyData.depth,c.1,c.2]
theorem sh_rowS {xs:List D} (h:RowS xs):shaped (.list xs)=true:=by
 have c:PyData.canLayAll0 xs=true/\PyData.depthAll xs=0:=by
  induction xs with
  | nil=>exact ⟨rfl,rfl⟩
  | cons a r ih=>
   obtain ⟨n,rfl,hn⟩:=h a mem_cons_self
   have q:=ih fun x hx=>h x (mem_cons_of_mem _ hx)
   simp [PyData.canLayAll0,PyData.canLay0,PyData.depthAll,PyData.depth,q.1,q.2,hn]
 simp [shaped,PyData.canLay0,PyData.depth,c.1,c.2]
theorem lt_int:gLt (.int a) (.int b)=some (.bool (decide (a<b))):=rfl
theorem ge_int':gGeA (.int a) (.int b)=some (.bool (decide (b<=a))):=rfl
theorem zA7:gAddI (.int a) (.int b)=some (.int (a+b)):=rfl
theorem sub_int':gSub (.int a) (.int b)=some (.int (a-b)):=rfl
theorem mod_i (h:0<b):gMod (.int a) (.int b)=some (.int (a % b)):=by
 show (if cMod a b then _ else _)=_
 rw [if_pos (by unfold cMod;simpa using h)]
theorem div_i (h:0<b) (h2:b<1073741824):gDiv (.int a) (.int b)=some (.int (a / b)):=by
 show (if cDiv a b then _ else _)=_
 rw [if_pos (by unfold cDiv;simp [h,h2])]
theorem mul_r (h:-1000000000000<b) (h2:b<1000000000000):gMul (.int a) (.int b)=some (.int (a*b)):=by
 show (if cMul a b then _ else _)=_
 rw [if_pos (by unfold cMul;simp only [Bool.or_eq_true,Bool.and_eq_true,decide_eq_true_eq];right;omega)]
theorem mul_l (h:-1000000000000<a) (h2:a<1000000000000):gMul (.int a) (.int b)=some (.int (a*b)):=by
 show (if cMul a b then _ else _)=_
 rw [if_pos (by unfold cMul;simp only [Bool.or_eq_true,Bool.and_eq_true,decide_eq_true_eq];left;omega)]
theorem pow_i (h:0<=b) (h2:b<=100):gPow (.int 10) (.int b)=some (.int (10 ^ b.toNat)):=by
 show (if cPow 10 b then _ else _)=_
 rw [if_pos (by unfold cPow;simp only [Bool.and_eq_true,decide_eq_true_eq];exact ⟨⟨h,by omega⟩,by decide⟩)]
theorem zCM {xs:List D} (h:RowI xs) {k:Int} (hk:0<=k):∃c,m__law_cell_at [.list xs,.int k]=.ok ⟨.leaf,.int c⟩:=by
 have t:bOf gBool (eOp gLt (eVar 1) (eCB gLen (eCons (eVar 0) eNil))) [some ⟨.leaf,.list xs⟩,some ⟨.leaf,.int k⟩]=.ok (decide (k<(xs.length:Int))) [some ⟨.leaf,.list xs⟩,some ⟨.leaf,.int k⟩]:=
  zAK (v_op (zAB rfl) (v_cb (zAC (zAB rfl) v_nil) rfl) lt_int)
 cases hlt:decide (k<(xs.length:Int)) with
 | true=>
  rw [hlt] at t
  have hl:=of_decide_eq_true hlt
  have hk2:k.toNat<xs.length:=by omega
  obtain ⟨c,hc⟩:=h _ (getD_mem hk2)
  have g:=zGI hk2
  rw [hc] at g
  exact ⟨c,rt_of (zC1 (x_if t (fun _=>x_ret (zB0 (zAB rfl) (zAB rfl) (ix_of hk hl) g rfl) rfl) nofun))⟩
 | false=>
  rw [hlt] at t
  exact ⟨0,rt_of (x_seq (x_if t nofun (fun _=>rfl)) (x_ret v_k rfl))⟩
theorem den_draw {k:Int} (hk:0<=k) (hk2:k<=1000) (hb:1<=b) (hb2:b<=1000):∃r,m__law_draw [.int c,.int k,.int b]=.ok ⟨.leaf,.int r⟩/\0<=r/\r<b:=by
 have t:bOf gBool (eOp gGeA (eVar 0) (eOp gPow (eK (.int 10)) (eK (.int 18)))) [some ⟨.leaf,.int c⟩,some ⟨.leaf,.int k⟩,some ⟨.leaf,.int b⟩,none,none,none]=.ok (decide (10 ^ (18:Int).toNat<=c)) [some ⟨.leaf,.int c⟩,some ⟨.leaf,.int k⟩,some ⟨.leaf,.int b⟩,none,none,none]:=
  zAK (v_op (zAB rfl) (v_op v_k v_k (pow_i (by omega) (by omega))) ge_int')
 cases hge:decide (10 ^ (18:Int).toNat<=c) with
 | true=>
  rw [hge] at t
  obtain ⟨U',e,l,x,hU⟩:=zFF (P:=fun _ U=>∃l x,U=[some ⟨.leaf,.int c⟩,some ⟨.leaf,.int k⟩,some ⟨.leaf,.int b⟩,none,some ⟨.leaf,.int l⟩,x]) (i:=5) (body:=sSet false 4 (eOp gDiv (eVar 4) (eVar 2))) (rngD 0 k.toNat) 0
   [some ⟨.leaf,.int c⟩,some ⟨.leaf,.int k⟩,some ⟨.leaf,.int b⟩,none,some ⟨.leaf,.int c⟩,none] ⟨c,none,rfl⟩ (fun m d U hd _ _ ⟨l,x,hU⟩=>by
    subst hU
    refine ⟨by simp,_,zA1 (v_op (zAB rfl) (zAB rfl) (div_i (by omega) (by omega))) rfl (by simp),_,_,rfl⟩)
  subst hU
  exact ⟨_,rt_of (zC1 (x_if t (fun _=>x_seq (zA1 (zAB rfl) rfl (by simp)) (x_seq (x_for (w_r1 (k:=k) (zAC (zAB rfl) v_nil) rfl (by omega) (by omega)) e) (x_ret (v_op (zAB rfl) (zAB rfl) (mod_i (by omega))) rfl))) nofun)),Int.emod_nonneg _ (by omega),Int.emod_lt_of_pos _ (by omega)⟩
 | false=>
  rw [hge] at t
  have m1:∀x:Int,0<=x % 2147483647/\x % 2147483647<2147483647:=fun x=>⟨Int.emod_nonneg _ (by omega),Int.emod_lt_of_pos _ (by omega)⟩
  refine ⟨_,rt_of (x_seq (x_if t nofun (fun _=>rfl)) (x_seq (zA1 (v_op (v_op (v_op (v_op (v_op (zAB rfl) v_k (mod_i (by omega))) (v_op v_k (zAB rfl) (mul_l (by omega) (by omega))) zA7) v_k zA7) v_k (mul_r (by omega) (by omega))) v_k (mod_i (by omega))) rfl (by simp [zAO]))
   (x_seq (zA1 (v_op (v_op (v_op (v_op (zAB rfl) (zAB rfl) (mul_l ?_ ?_)) (v_op v_k (zAB rfl) (mul_l (by omega) (by omega))) zA7) v_k zA7) v_k (mod_i (by omega))) rfl (by simp [zAO]))
   (x_ret (v_op (v_op (v_op (v_op (zAB rfl) v_k (mul_r (by omega) (by omega))) v_k (mod_i (by omega))) v_k (div_i (by omega) (by omega))) (zAB rfl) (mod_i (by omega))) rfl)))),Int.emod_nonneg _ (by omega),Int.emod_lt_of_pos _ (by omega)⟩
  ·exact Int.lt_of_lt_of_le (by omega) (m1 _).1
  ·exact Int.lt_trans (m1 _).2 (by omega)
noncomputable def drw (c k b:Int):Int:=match m__law_draw [.int c,.int k,.int b] with
 | .ok ⟨_,.int r⟩=>r
 | _=>0
theorem zDT {k:Int} (hk:0<=k) (hk2:k<=1000) (hb:1<=b) (hb2:b<=1000):m__law_draw [.int c,.int k,.int b]=.ok ⟨.leaf,.int (drw c k b)⟩:=by
 obtain ⟨r,e,_⟩:=den_draw (c:=c) hk hk2 hb hb2
 unfold drw
 rw [e]
theorem zGK {k:Int} (hk:0<=k) (hk2:k<=1000) (hb:1<=b) (hb2:b<=1000):0<=drw c k b/\drw c k b<b:=by
 obtain ⟨r,e,h⟩:=den_draw (c:=c) hk hk2 hb hb2
 unfold drw
 rw [e]
 exact h
noncomputable def abc (d:D):D:=match d with
 | .int k=>(match atI [97,98,99] k with
  | some c=>.str ⟨#[c]⟩
  | none=>.none)
 | _=>.none
theorem ok_small {c:Nat} (h:c<1000):PyData.strOk ⟨#[c]⟩=true:=by
 unfold PyData.strOk
 simp
 omega
theorem abc_cps:(Str.ofString "abc").cps.toList=[97,98,99]:=by decide +kernel
theorem abc_len:(Str.ofString "abc").length<=sizeLine:=by decide +kernel
theorem abc_ev {k:Nat} (hk:k<3):∃c,c<1000/\atI (Str.ofString "abc").cps.toList (k:Int)=some c/\abc (.int k)=.str ⟨#[c]⟩:=by
 rw [abc_cps]
 match k,hk with
 | 0,_=>exact ⟨97,by omega,rfl,rfl⟩
 | 1,_=>exact ⟨98,by omega,rfl,rfl⟩
 | 2,_=>exact ⟨99,by omega,rfl,rfl⟩
noncomputable abbrev eW:FS:=(sSeq (sSet false 8 (eCall 2 m__law_cell_at (eCons (eVar 0) (eCons (eOp gAddI (eOp gAddI (eVar 1) (eK (.int 1))) (eVar 7)) eNil))))
  (sSeq (zAV 4 (eCall 3 m__law_draw (eCons (eVar 8) (eCons (eK (.int 0)) (eCons (eK (.int 2)) eNil)))))
  (sSeq (zAV 5 (eComp .leaf 11 (iR1 (eCons (eK (.int 3)) eNil)) (bOf gBool (eOp gEq (eCall 3 m__law_draw (eCons (eVar 8) (eCons (eOp gAddI (eK (.int 1)) (eVar 11)) (eCons (eK (.int 2)) eNil)))) (eK (.int 1)))) (eIdx (eK (.str "abc")) (eVar 11))))
  (sSeq (sSet false 9 (eComp .leaf 10 (iR1 (eCons (eVar 3) eNil)) (bOf gBool (eOp gEq (eCall 3 m__law_draw (eCons (eVar 8) (eCons (eOp gAddI (eK (.int 4)) (eVar 10)) (eCons (eOp gAddI (eK (.int 2)) (eCB gInt (eCons (eOp gGt (eVar 3) (eK (.int 3))) eNil))) eNil)))) (eK (.int 1)))) (eVar 10)))
  (sSeq (sIf (bOf gBool (eOp gEq (eVar 9) (eList .leaf eNil))) (sSet false 9 (eList .leaf (eCons (eCall 3 m__law_draw (eCons (eVar 8) (eCons (eOp gAddI (eK (.int 4)) (eVar 3)) (eCons (eVar 3) eNil)))) eNil))) sNext)
  (zAV 6 (eVar 9)))))))
theorem rises_of (h:ts.Pairwise (· < ·)):rises (ts.map .int)=true:=by
 unfold rises
 rw [all_eq_true]
 intro d hd
 obtain ⟨k,hk,rfl⟩:=zCS hd
 rw [length_map] at hk
 have h1:k<ts.length:=by omega
 have h2:k+1<ts.length:=by omega
 unfold lt2
 dsimp only
 rw [show (1+(k:Int)-1).toNat=k by omega,show (1+(k:Int)).toNat=k+1 by omega]
 rw [getD_eq_getElem?_getD,getD_eq_getElem?_getD,getElem?_map,getElem?_map,getElem?_eq_getElem h1,getElem?_eq_getElem h2]
 have:=List.pairwise_iff_getElem.mp h k (k+1) h1 h2 (by omega)
 show decide (ts[k]<ts[k+1])=true
 exact decide_eq_true this
structure Gw (N:Int) (n:Nat) (os ms ss:List D):Prop where
 lo:os.length=n
 lm:ms.length=n
 ls:ss.length=n
 o:∀a∈os,a=.int 0\/a=.int 1
 m:∀r∈ms,∃xs,r=.list xs/\RowS xs/\xs.length<=30/\mOk r=true
 s:∀r∈ss,∃ts:List Int,r=.list (ts.map .int)/\ts.length<=30/\ts≠[]/\(∀t∈ts,0<=t/\t<N)/\ts.Pairwise (· < ·)
theorem zDD:RowI (ts.map .int):=fun a ha=>by
 obtain ⟨n,_,e⟩:=List.mem_map.mp ha
 exact ⟨n,e.symm⟩
theorem Gw.wk {N:Int} {b:Nat} {ss:List D} (h:Gw N n os ms ss) (hb:n<=b):Wk b os ms ss:=
 ⟨fun a ha=>(h.o a ha).elim (fun e=>⟨0,e⟩) fun e=>⟨1,e⟩,fun r hr=>let ⟨xs,e,a,b,_⟩:=h.m r hr;⟨xs,e,a,b⟩,fun r hr=>let ⟨ts,e,a,_⟩:=h.s r hr;⟨_,e,zDD,by rw [length_map];exact a⟩,by rw [h.lo];exact hb,by rw [h.lm];exact hb,by rw [h.ls];exact hb⟩
theorem Gw.isW {n:Nat} {os ms ss:List D} (h:Gw (n:Int) n os ms ss) (h1:1<=n) (h24:n<=24):isW os ms ss=true:=by
 unfold KC.isW bad
 rw [h.lo,h.lm,h.ls]
 have e1:decide ((n:Int)<1)=false:=decide_eq_false (by omega)
 have e2:decide ((24:Int)<n)=false:=decide_eq_false (by omega)
 rw [e1,e2]
 simp only [beq_self_eq_true,Bool.not_true,Bool.or_self,Bool.not_false,Bool.true_and,Bool.and_eq_true,all_eq_true]
 refine ⟨fun a ha=>?_,fun r hr=>?_,fun r hr=>?_⟩
 ·rcases h.o a ha with rfl | rfl<;>rfl
 ·obtain ⟨xs,_,_,_,e⟩:=h.m r hr
  exact e
 ·obtain ⟨ts,rfl,h2,h3,h4,h5⟩:=h.s r hr
  unfold sOk
  simp only [Bool.and_eq_true,decide_eq_true_eq,length_map,all_eq_true]
  refine ⟨by cases ts with | nil=>exact absurd rfl h3 | cons a r=>simp,fun a ha=>?_,rises_of h5⟩
  obtain ⟨t,ht,rfl⟩:=List.mem_map.mp ha
  have:=h4 t ht
  unfold inR
  simp only [Bool.and_eq_true,decide_eq_true_eq]
  exact this
theorem mOk8 (c0 c1 c2:Bool):mOk (.list (((if c0 then [PyData.str ⟨#[97]⟩] else [])++((if c1 then [PyData.str ⟨#[98]⟩] else [])++(if c2 then [PyData.str ⟨#[99]⟩] else [])))))=true:=by
 cases c0<;>cases c1<;>cases c2<;>decide +kernel
theorem abc3 (c:D->Bool):((rngD 0 3).filter c).map abc=((if c (.int 0) then [PyData.str ⟨#[97]⟩] else [])++((if c (.int 1) then [PyData.str ⟨#[98]⟩] else [])++(if c (.int 2) then [PyData.str ⟨#[99]⟩] else []))):=by
 have e:rngD 0 3=[.int 0,.int 1,.int 2]:=rfl
 rw [e]
 simp only [filter_cons,List.filter_nil]
 cases c (.int 0)<;>cases c (.int 1)<;>cases c (.int 2)<;>rfl
theorem rng_ts (n:Nat) (c:D->Bool):∃ts:List Int,((rngD 0 n).filter c).map (fun d=>d)=ts.map .int/\(∀t∈ts,0<=t/\t<(n:Int))/\ts.Pairwise (· < ·)/\ts.length<=n:=by
 refine ⟨((List.range n).map fun i=>(0:Int)+(i:Nat)).filter fun i=>c (.int i),?_,fun t ht=>?_,?_,?_⟩
 ·rw [List.map_id']
  unfold rngD
  rw [show (fun i:Nat=>PyData.int (0+(i:Int)))=(PyData.int∘fun i:Nat=>(0:Int)+(i:Nat)) from rfl,<-map_map,List.filter_map]
  rfl
 ·obtain ⟨h1,_⟩:=List.mem_filter.mp ht
  obtain ⟨i,hi,rfl⟩:=List.mem_map.mp h1
  rw [mem_range] at hi
  omega
 ·refine List.Pairwise.filter _ ?_
  rw [List.pairwise_map]
  exact List.pairwise_lt_range.imp fun h=>by omega
 ·refine Nat.le_trans (length_filter_le _ _) ?_
  simp
theorem body_world {xs ss:List D} {many:Int} {x8 x9:Option PV} (hx:RowI xs) (ha:0<=at') (hm:1<=many) (hm2:many<=24) (h:Gw many n os ms ss) (hn:n<=30) {r:Nat} :
  ∃os' ms' ss' x8' x9',eW [some ⟨.leaf,.list xs⟩,some ⟨.leaf,.int at'⟩,some ⟨.leaf,.int lim⟩,some ⟨.leaf,.int many⟩,some ⟨.lst .leaf,.list os⟩,some ⟨.lst .leaf,.list ms⟩,some ⟨.lst .leaf,.list ss⟩,some ⟨.leaf,.int (r:Nat)⟩,x8,x9,none,none]
   = .nx [some ⟨.leaf,.list xs⟩,some ⟨.leaf,.int at'⟩,some ⟨.leaf,.int lim⟩,some ⟨.leaf,.int many⟩,some ⟨.lst .leaf,.list os'⟩,some ⟨.lst .leaf,.list ms'⟩,some ⟨.lst .leaf,.list ss'⟩,some ⟨.leaf,.int (r:Nat)⟩,x8',x9',none,none]/\Gw many (n+1) os' ms' ss':=by
 obtain ⟨c,hc⟩:=zCM hx (k:=at'+1+(r:Int)) (by omega)
 have lo:=h.lo
 have lm:=h.lm
 have ls:=h.ls
 have c5:∀(U:Ev),U.length=12->U[8]?=some (some ⟨.leaf,.int c⟩)->eComp .leaf 11 (iR1 (eCons (eK (.int 3)) eNil)) (bOf gBool (eOp gEq (eCall 3 m__law_draw (eCons (eVar 8) (eCons (eOp gAddI (eK (.int 1)) (eVar 11)) (eCons (eK (.int 2)) eNil)))) (eK (.int 1)))) (eIdx (eK (.str "abc")) (eVar 11)) U
   = .ok ⟨.lst .leaf,.list (((rngD 0 3).filter fun d=>match d with | .int k=>drw c (1+k) 2==1 | _=>false).map fun d=>abc d)⟩ U:=fun U hl h8=>by
  refine zDS (c:=fun d=>match d with | .int k=>drw c (1+k) 2==1 | _=>false) (f:=fun d=>⟨.leaf,abc d⟩) (st:=true) (w_r1 (k:=3) (zAC v_k v_nil) rfl (by omega) (by omega)) (by omega) rfl (by rw [zDO];omega) (fun d hd=>?_) fun d hd _=>?_
  ·obtain ⟨k,hk,rfl⟩:=zCS hd
   have g11:(U.set 11 (some ⟨.leaf,.int (0+(k:Int))⟩))[11]?=some (some ⟨.leaf,.int (0+(k:Int))⟩):=by rw [getElem?_set_self (by omega)]
   have g8:(U.set 11 (some ⟨.leaf,.int (0+(k:Int))⟩))[8]?=some (some ⟨.leaf,.int c⟩):=by rw [getElem?_set_ne (by omega)];exact h8
   exact zAK (v_op (zAQ (zAC (zAB g8) (zAC (v_op v_k (zAB g11) zA7) (zAC v_k v_nil))) (zDT (by omega) (by omega) (by omega) (by omega)) rfl rfl) v_k eq_int)
  ·obtain ⟨k,hk,rfl⟩:=zCS hd
   have g11:(U.set 11 (some ⟨.leaf,.int (0+(k:Int))⟩))[11]?=some (some ⟨.leaf,.int (0+(k:Int))⟩):=by rw [getElem?_set_self (by omega)]
   obtain ⟨z,hz,e1,e2⟩:=abc_ev hk
   rw [Int.zero_add] at g11 ⊢
   rw [e2]
   exact ⟨zF9 v_k (zAB g11) abc_len e1,rfl⟩
 generalize hM:(((rngD 0 3).filter fun d=>match d with | .int k=>drw c (1+k) 2==1 | _=>false).map fun d=>abc d)=M at c5
 have rM:RowS M/\M.length<=30/\mOk (.list M)=true:=by
  refine ⟨?_,?_,?_⟩
  ·rw [<-hM]
   intro a ha
   obtain ⟨d,hd,rfl⟩:=List.mem_map.mp ha
   obtain ⟨k,hk,rfl⟩:=zCS (List.mem_filter.mp hd).1
   obtain ⟨z,hz,e1,e2⟩:=abc_ev hk
   rw [Int.zero_add,e2]
   exact ⟨_,rfl,ok_small hz⟩
  ·rw [<-hM,length_map]
   refine Nat.le_trans (length_filter_le _ _) ?_
   rw [zDO]
   omega
  ·rw [<-hM]
   have:=abc3 (fun d=>match d with | .int k=>drw c (1+k) 2==1 | _=>false)
   rw [show (fun d=>abc d)=abc from rfl,this]
   exact mOk8 _ _ _
 have c6:∀(U:Ev),U.length=12->U[8]?=some (some ⟨.leaf,.int c⟩)->U[3]?=some (some ⟨.leaf,.int many⟩)->eComp .leaf 10 (iR1 (eCons (eVar 3) eNil)) (bOf gBool (eOp gEq (eCall 3 m__law_draw (eCons (eVar 8) (eCons (eOp gAddI (eK (.int 4)) (eVar 10)) (eCons (eOp gAddI (eK (.int 2)) (eCB gInt (eCons (eOp gGt (eVar 3) (eK (.int 3))) eNil))) eNil)))) (eK (.int 1)))) (eVar 10) U
   = .ok ⟨.lst .leaf,.list (((rngD 0 many.toNat).filter fun d=>match d with | .int k=>drw c (4+k) (2+(if decide (3<many) then 1 else 0))==1 | _=>false).map fun d=>d)⟩ U:=fun U hl h8 h3=>by
  refine zDS (c:=fun d=>match d with | .int k=>drw c (4+k) (2+(if decide (3<many) then 1 else 0))==1 | _=>false) (f:=fun d=>⟨.leaf,d⟩) (st:=true) (w_r1 (k:=many) (zAC (zAB h3) v_nil) rfl (by omega) (by omega)) (by omega) rfl (by rw [zDO];omega) (fun d hd=>?_) fun d hd _=>?_
  ·obtain ⟨k,hk,rfl⟩:=zCS hd
   have g10:(U.set 10 (some ⟨.leaf,.int (0+(k:Int))⟩))[10]?=some (some ⟨.leaf,.int (0+(k:Int))⟩):=by rw [getElem?_set_self (by omega)]
   have g8:(U.set 10 (some ⟨.leaf,.int (0+(k:Int))⟩))[8]?=some (some ⟨.leaf,.int c⟩):=by rw [getElem?_set_ne (by omega)];exact h8
   have g3:(U.set 10 (some ⟨.leaf,.int (0+(k:Int))⟩))[3]?=some (some ⟨.leaf,.int many⟩):=by rw [getElem?_set_ne (by omega)];exact h3
   have b1:(1:Int)<=2+(if decide (3<many) then 1 else 0)/\(2:Int)+(if decide (3<many) then 1 else 0)<=1000:=by split<;>omega
   exact zAK (v_op (zAQ (zAC (zAB g8) (zAC (v_op v_k (zAB g10) zA7) (zAC (v_op v_k (v_cb (zAC (v_op (zAB g3) v_k rfl) v_nil) rfl) zA7) v_nil))) (zDT (by omega) (by omega) b1.1 b1.2) rfl rfl) v_k eq_int)
  ·obtain ⟨k,hk,rfl⟩:=zCS hd
   exact ⟨zAB (by rw [getElem?_set_self (by omega)]),rfl⟩
 obtain ⟨ts,hT,hts1,hts2,hts3⟩:=rng_ts many.toNat (fun d=>match d with | .int k=>drw c (4+k) (2+(if decide (3<many) then 1 else 0))==1 | _=>false)
 rw [hT] at c6
 have fin:∀(U:Ev) (T:List Int),(T.length<=30/\T≠[]/\(∀t∈T,0<=t/\t<many)/\T.Pairwise (· < ·))->U=[some ⟨.leaf,.list xs⟩,some ⟨.leaf,.int at'⟩,some ⟨.leaf,.int lim⟩,some ⟨.leaf,.int many⟩,some ⟨.lst .leaf,.list (os++[.int (drw c 0 2)])⟩,some ⟨.lst .leaf,.list (ms++[.list M])⟩,some ⟨.lst .leaf,.list ss⟩,some ⟨.leaf,.int (r:Nat)⟩,some ⟨.leaf,.int c⟩,some ⟨.leaf,.list (T.map .int)⟩,none,none] ->
   ∃os' ms' ss' x8' x9',zAV 6 (eVar 9) U=.nx [some ⟨.leaf,.list xs⟩,some ⟨.leaf,.int at'⟩,some ⟨.leaf,.int lim⟩,some ⟨.leaf,.int many⟩,some ⟨.lst .leaf,.list os'⟩,some ⟨.lst .leaf,.list ms'⟩,some ⟨.lst .leaf,.list ss'⟩,some ⟨.leaf,.int (r:Nat)⟩,x8',x9',none,none]/\Gw many (n+1) os' ms' ss':=fun U T hT2 hU=>by
  subst hU
  refine ⟨os++[.int (drw c 0 2)],ms++[.list M],ss++[.list (T.map .int)],_,_,zCH rfl (zAB rfl) rfl (by omega),by simp;omega,by simp;omega,by simp;omega,fun a ha=>?_,fun a ha=>?_,fun a ha=>?_⟩
  ·rcases List.mem_append.mp ha with z | z
   ·exact h.o a z
   ·have:=zGK (c:=c) (k:=0) (b:=2) (by omega) (by omega) (by omega) (by omega)
    rw [List.mem_singleton.mp z]
    rcases (by omega:drw c 0 2=0\/drw c 0 2=1) with e | e
    ·exact .inl (by rw [e])
    ·exact .inr (by rw [e])
  ·rcases List.mem_append.mp ha with z | z
   ·exact h.m a z
   ·exact ⟨M,List.mem_singleton.mp z,rM.1,rM.2.1,by rw [List.mem_singleton.mp z];exact rM.2.2⟩
  ·rcases List.mem_append.mp ha with z | z
   ·exact h.s a z
   ·exact ⟨T,List.mem_singleton.mp z,hT2⟩
 have e1:=zA1 (i:=8) (zAQ (fl:=eCons (eVar 0) (eCons (eOp gAddI (eOp gAddI (eVar 1) (eK (.int 1))) (eVar 7)) eNil)) (U:=[some ⟨.leaf,.list xs⟩,some ⟨.leaf,.int at'⟩,some ⟨.leaf,.int lim⟩,some ⟨.leaf,.int many⟩,some ⟨.lst .leaf,.list os⟩,some ⟨.lst .leaf,.list ms⟩,some ⟨.lst .leaf,.list ss⟩,some ⟨.leaf,.int (r:Nat)⟩,x8,x9,none,none]) (zAC (zAB rfl) (zAC (v_op (v_op (zAB rfl) v_k zA7) (zAB rfl) zA7) v_nil)) hc rfl rfl) rfl (by simp)
 have e2:zAV 4 (eCall 3 m__law_draw (eCons (eVar 8) (eCons (eK (.int 0)) (eCons (eK (.int 2)) eNil)))) [some ⟨.leaf,.list xs⟩,some ⟨.leaf,.int at'⟩,some ⟨.leaf,.int lim⟩,some ⟨.leaf,.int many⟩,some ⟨.lst .leaf,.list os⟩,some ⟨.lst .leaf,.list ms⟩,some ⟨.lst .leaf,.list ss⟩,some ⟨.leaf,.int (r:Nat)⟩,some ⟨.leaf,.int c⟩,x9,none,none]=_:=
  zCH rfl (zAQ (zAC (zAB rfl) (zAC v_k (zAC v_k v_nil))) (zDT (by omega) (by omega) (by omega) (by omega)) rfl rfl) rfl (by omega)
 have e3:=zCH (i:=5) (U:=[some ⟨.leaf,.list xs⟩,some ⟨.leaf,.int at'⟩,some ⟨.leaf,.int lim⟩,some ⟨.leaf,.int many⟩,some ⟨.lst .leaf,.list (os++[.int (drw c 0 2)])⟩,some ⟨.lst .leaf,.list ms⟩,some ⟨.lst .leaf,.list ss⟩,some ⟨.leaf,.int (r:Nat)⟩,some ⟨.leaf,.int c⟩,x9,none,none]) rfl (c5 _ rfl rfl) rfl (by omega)
 have e4:=zA1 (i:=9) (U:=[some ⟨.leaf,.list xs⟩,some ⟨.leaf,.int at'⟩,some ⟨.leaf,.int lim⟩,some ⟨.leaf,.int many⟩,some ⟨.lst .leaf,.list (os++[.int (drw c 0 2)])⟩,some ⟨.lst .leaf,.list (ms++[.list M])⟩,some ⟨.lst .leaf,.list ss⟩,some ⟨.leaf,.int (r:Nat)⟩,some ⟨.leaf,.int c⟩,x9,none,none]) (c6 _ rfl rfl rfl) rfl (by simp)
 have t:bOf gBool (eOp gEq (eVar 9) (eList .leaf eNil)) [some ⟨.leaf,.list xs⟩,some ⟨.leaf,.int at'⟩,some ⟨.leaf,.int lim⟩,some ⟨.leaf,.int many⟩,some ⟨.lst .leaf,.list (os++[.int (drw c 0 2)])⟩,some ⟨.lst .leaf,.list (ms++[.list M])⟩,some ⟨.lst .leaf,.list ss⟩,some ⟨.leaf,.int (r:Nat)⟩,some ⟨.leaf,.int c⟩,some ⟨.leaf,.list (ts.map .int)⟩,none,none]
   = .ok (decide ((ts.map PyData.int).length=0)) _:=zAK (v_op (zAB rfl) (zBZ (s:=.leaf) v_nil rfl rfl rfl) (eq_nil (zFW zDD)))
 cases hz:decide ((ts.map PyData.int).length=0) with
 | true=>
  rw [hz] at t
  obtain ⟨o',m',s',y8,y9,f1,f2⟩:=fin _ [drw c (4+many) many] ⟨by simp,by simp,fun t ht=>by rw [List.mem_singleton.mp ht];exact zGK (by omega) (by omega) (by omega) (by omega),List.pairwise_singleton _ _⟩ rfl
  exact ⟨o',m',s',y8,y9,x_seq e1 (x_seq e2 (x_seq e3 (x_seq e4 (x_seq (x_if t (fun _=>zA1 (zBZ (s:=.leaf) (zAC (zAQ (zAC (zAB rfl) (zAC (v_op v_k (zAB rfl) zA7) (zAC (zAB rfl) v_nil))) (zDT (by omega) (by omega) (by omega) (by omega)) rfl rfl) v_nil) rfl rfl rfl) rfl (by simp)) nofun) f1)))),f2⟩
 | false=>
  rw [hz] at t
  obtain ⟨o',m',s',y8,y9,f1,f2⟩:=fin _ ts ⟨by omega,(fun z=>by rw [z] at hz;cases hz),(fun t ht=>by have:=hts1 t ht;omega),hts2⟩ rfl
  exact ⟨o',m',s',y8,y9,x_seq e1 (x_seq e2 (x_seq e3 (x_seq e4 (x_seq (x_if t nofun (fun _=>rfl)) f1)))),f2⟩
noncomputable abbrev W3:Sh:=.tup [.lst .leaf,.lst .leaf,.lst .leaf]
noncomputable abbrev tup3 (os ms ss:List D):D:=.tuple [.list os,.list ms,.list ss]
theorem den_world {xs:List D} (hx:RowI xs) (ha:0<=at') (hl:1<=lim) (hl2:lim<=24):∃(n:Nat) (os ms ss:List D),m__law_world [.list xs,.int at',.int lim]=.ok ⟨W3,tup3 os ms ss⟩/\Gw (n:Int) n os ms ss/\1<=n/\(n:Int)<=lim:=by
 obtain ⟨c,hc⟩:=zCM hx (k:=at') ha
 have b0:0<=c % lim:=Int.emod_nonneg _ (by omega)
 have b1:c % lim<lim:=Int.emod_lt_of_pos _ (by omega)
 generalize hmm:1+c % lim=many at *
 have e0:sSet false 3 (eOp gAddI (eK (.int 1)) (eOp gMod (eCall 2 m__law_cell_at (eCons (eVar 0) (eCons (eVar 1) eNil))) (eVar 2))) [some ⟨.leaf,.list xs⟩,some ⟨.leaf,.int at'⟩,some ⟨.leaf,.int lim⟩,none,none,none,none,none,none,none,none,none]
   = .nx [some ⟨.leaf,.list xs⟩,some ⟨.leaf,.int at'⟩,some ⟨.leaf,.int lim⟩,some ⟨.leaf,.int many⟩,none,none,none,none,none,none,none,none]:=by
  rw [<-hmm]
  exact zA1 (v_op v_k (v_op (zAQ (zAC (zAB rfl) (zAC (zAB rfl) v_nil)) hc rfl rfl) (zAB rfl) (mod_i (by omega))) zA7) rfl (by simp)
 obtain ⟨U',e,os,ms,ss,x7,x8,x9,hU,hw⟩:=zFF (P:=fun n U=>∃os ms ss x7 x8 x9,U=[some ⟨.leaf,.list xs⟩,some ⟨.leaf,.int at'⟩,some ⟨.leaf,.int lim⟩,some ⟨.leaf,.int many⟩,some ⟨.lst .leaf,.list os⟩,some ⟨.lst .leaf,.list ms⟩,some ⟨.lst .leaf,.list ss⟩,x7,x8,x9,none,none]/\Gw many n os ms ss) (i:=7) (body:=eW) (rngD 0 many.toNat) 0
  [some ⟨.leaf,.list xs⟩,some ⟨.leaf,.int at'⟩,some ⟨.leaf,.int lim⟩,some ⟨.leaf,.int many⟩,some ⟨.lst .leaf,.list []⟩,some ⟨.lst .leaf,.list []⟩,some ⟨.lst .leaf,.list []⟩,none,none,none,none,none] ⟨[],[],[],none,none,none,rfl,rfl,rfl,rfl,fun a ha=>(nomatch ha),fun a ha=>(nomatch ha),fun a ha=>(nomatch ha)⟩ (fun m d U hd h1 h2 ⟨os,ms,ss,x7,x8,x9,hU,hw⟩=>by
   subst hU
   obtain ⟨k,hk,rfl⟩:=zCS hd
   rw [zDO] at h2
   rw [Int.zero_add]
   obtain ⟨os',ms',ss',y8,y9,f1,f2⟩:=body_world (at':=at') (lim:=lim) (many:=many) (x8:=x8) (x9:=x9) hx ha (by omega) (by omega) hw (by omega) (r:=k)
   exact ⟨by simp,_,f1,os',ms',ss',_,y8,y9,rfl,f2⟩)
 subst hU
 rw [zDO,Nat.zero_add] at hw
 have en:((many.toNat:Nat):Int)=many:=by omega
 refine ⟨many.toNat,os,ms,ss,rt_of (x_seq e0 (x_seq (zD4 (zBZ (s:=.leaf) v_nil rfl rfl rfl) rfl (by simp)) (x_seq (zD4 (zBZ (s:=.leaf) v_nil rfl rfl rfl) rfl (by simp)) (x_seq (zD4 (zBZ (s:=.leaf) v_nil rfl rfl rfl) rfl (by simp)) (x_seq (x_for (w_r1 (k:=many) (zAC (zAB rfl) v_nil) rfl (by omega) (by omega)) e) (x_ret (v_tup (zAC (zGO (p:=⟨.lst .leaf,.list os⟩) rfl) (zAC (zGO (p:=⟨.lst .leaf,.list ms⟩) rfl) (zAC (zGO (p:=⟨.lst .leaf,.list ss⟩) rfl) v_nil))) rfl rfl) rfl)))))),by rw [en];exact hw,by omega,by omega⟩
theorem nx_of {U:Ev} (h:g (zAO n ds)=.nx U):denOf n g ds=.ok ⟨.leaf,.none⟩:=by unfold denOf;rw [h]
theorem v_isi {U:Ev} {p:PV} {c:String} {b:Bool} (ha:fa U=.ok p U1) (hb:isTy (tyD p.d) c=b):eIsi c fa U=.ok ⟨.leaf,.bool b⟩ U1:=by
 unfold eIsi eBind;rw [ha];simp only [Out.bind,hb]
theorem v_not {U:Ev} {s:Sh} {b:Bool} (ha:fa U=.ok ⟨s,.bool b⟩ U1):eNot fa U=.ok ⟨.leaf,.bool (!b)⟩ U1:=by
 unfold eNot eBind;rw [ha];rfl
theorem den_check {b:Nat} {ss:List D} (h:Wk b os ms ss) (hb:b<=100) (hw:isW os ms ss=true):m_check_world [tup3 os ms ss]=.ok ⟨.leaf,.none⟩:=by
 have t:bNot (bOf gTru (eCall 3 m_is_world (eCons (eIdx (eVar 0) (eK (.int 0))) (eCons (eIdx (eVar 0) (eK (.int 1))) (eCons (eIdx (eVar 0) (eK (.int 2))) eNil))))) [some ⟨.leaf,tup3 os ms ss⟩]=.ok (!(isW os ms ss)) [some ⟨.leaf,tup3 os ms ss⟩]:=
  b_not (b_tru (zAQ (zAC (zAM (j:=0) (zAB rfl) v_k rfl rfl rfl) (zAC (zAM (j:=1) (zAB rfl) v_k rfl rfl rfl) (zAC (zAM (j:=2) (zAB rfl) v_k rfl rfl rfl) v_nil))) (den_is_world h hb) rfl rfl))
 rw [hw] at t
 exact nx_of (x_if t nofun (fun _=>rfl))
theorem eq_refl' {d:D} (h:shaped d=true):gEq d d=some (.bool true):=by
 unfold gEq
 rw [h,Bool.and_self,if_pos rfl,PySem.SeqAt.eqv_refl _ (canLay_of_shaped h)]
theorem zFA {d:D} (h:shaped d=true):gNe d d=some (.bool false):=by
 unfold gNe
 rw [h,Bool.and_self,if_pos rfl,PySem.SeqAt.eqv_refl _ (canLay_of_shaped h)]
 rfl
theorem in_row {i:Int}:gIn false (.int i) (.list (ts.map .int))=some (.bool (ts.contains i)):=by
 unfold gIn
 simp only [zEA,zFW zDD,Bool.and_self,if_true]
 congr 2
 rw [Bool.eq_iff_iff]
 simp only [Bool.false_eq_true,if_false,any_eq_true,mem_map,contains_iff_mem]
 constructor
 ·rintro ⟨d,⟨t,ht,rfl⟩,e⟩
  rw [PyData.eqv] at e
  have:t=i:=by simpa using e
  rw [<-this];exact ht
 ·intro h
  exact ⟨.int i,⟨i,h,rfl⟩,by rw [PyData.eqv];simp⟩
theorem cl_I {xs:List D} (h:RowI xs):PyData.canLayAll0 xs=true/\PyData.depthAll xs=0:=by
 induction xs with
 | nil=>exact ⟨rfl,rfl⟩
 | cons a r ih=>
  obtain ⟨n,rfl⟩:=h a mem_cons_self
  have q:=ih fun x hx=>h x (mem_cons_of_mem _ hx)
  simp [PyData.canLayAll0,PyData.canLay0,PyData.depthAll,PyData.depth,q.1,q.2]
theorem cl_S {xs:List D} (h:RowS xs):PyData.canLayAll0 xs=true/\PyData.depthAll xs=0:=by
 induction xs with
 | nil=>exact ⟨rfl,rfl⟩
 | cons a r ih=>
  obtain ⟨n,rfl,hn⟩:=h a mem_cons_self
  have q:=ih fun x hx=>h x (mem_cons_of_mem _ hx)
  simp [PyData.canLayAll0,PyData.canLay0,PyData.depthAll,PyData.depth,q.1,q.2,hn]
theorem cl_rows (h:∀r∈ms,∃xs,r=.list xs/\PyData.canLayAll0 xs=true/\PyData.depthAll xs=0):PyData.canLayAll0 ms=true/\PyData.depthAll ms<=1:=by
 induction ms with
 | nil=>exact ⟨rfl,Nat.zero_le _⟩
 | cons a r ih=>
  obtain ⟨xs,rfl,h1,h2⟩:=h a mem_cons_self
  have q:=ih fun x hx=>h x (mem_cons_of_mem _ hx)
  refine ⟨by simp [PyData.canLayAll0,PyData.canLay0,q.1,h1],?_⟩
  rw [PyData.depthAll,PyData.depth,h2]
  exact Nat.max_le.mpr ⟨by omega,q.2⟩
theorem notin_row {i:Int}:gIn true (.int i) (.list (ts.map .int))=some (.bool (!ts.contains i)):=by
 have h:=in_row (ts:=ts) (i:=i)
 unfold gIn at h ⊢
 simp only [zEA,zFW zDD,Bool.and_self,if_true,Bool.false_eq_true,if_false] at h ⊢
 have h:=Option.some.inj h
 injection h with h
 rw [h]
end KC
namespace T
open PySem PySem.Spec L2
open PyProof.Rows hiding St
variable {α:Type} {b:Bool} {a:Int} {ds:List D} {fl:FL} {fi:FI} {fe:F1}
section
variable {U U1:Ev} {fa fb fc:F1} {fl:FL} {p:PV} {i n:Nat} {ga gb:FB} {g1 g2:FS}
@[simp] theorem r_line:sizeLine=16777216:=rfl
@[simp] theorem zER {β:Type} {a:α} {e:Ev} {k:α->Ev->Out β}:(Out.ok a e).bind k=k a e:=rfl
@[simp] theorem r_k {d:D}:eK d U=.ok ⟨.leaf,d⟩ U:=rfl
@[simp] theorem r_nil:eNil U=.ok [] U:=rfl
@[simp] theorem r_true:bTrue U=.ok true U:=rfl
@[simp] theorem r_next:sNext U=.nx U:=rfl
@[simp] theorem r_cons:eCons fa fl U=(fa U).bind fun p U1=>(fl U1).bind fun ps U2=>.ok (p::ps) U2:=rfl
@[simp] theorem r_op {g:D->D->Option D}:eOp g fa fb U=(fa U).bind fun p U1=>(fb U1).bind fun q U2=>match g p.d q.d with | some d=>.ok ⟨.leaf,d⟩ U2 | none=>.no:=rfl
@[simp] theorem r_cb {g:List D->Option D}:eCB g fl U=(fl U).bind fun ps U'=>match g (ps.map (·.d)) with | some d=>.ok ⟨.leaf,d⟩ U' | none=>.no:=rfl
@[simp] theorem r_bNot:bNot ga U=(ga U).bind fun c U'=>.ok (!c) U':=rfl
@[simp] theorem r_bAnd:bAnd ga gb U=(ga U).bind fun c U'=>if c then gb U' else .ok false U':=rfl
@[simp] theorem r_bOr:bOr ga gb U=(ga U).bind fun c U'=>if c then .ok true U' else gb U':=rfl
@[simp] theorem r_eIf:eIf ga fa fb U=(ga U).bind fun b U'=>if b then fa U' else fb U':=rfl
@[simp] theorem r_gBool:gBool (.bool b)=some b:=rfl
@[simp] theorem r_gTru:gTru (.bool b)=some b:=rfl
@[simp] theorem r_gTruL {xs:List D}:gTru (.list xs)=some (!xs.isEmpty):=rfl
@[simp] theorem r_coer {d:D}:coer .leaf ⟨.leaf,d⟩=true:=rfl
@[simp] theorem r_coerL {s:Sh} {d:D}:coer .leaf ⟨.lst s,d⟩=true:=rfl
@[simp] theorem r_coerT {s:List Sh} {d:D}:coer .leaf ⟨.tup s,d⟩=true:=rfl
@[simp] theorem r_coerI {i:Int} {s:Sh}:coer .leaf ⟨s,.int i⟩=true:=by cases s<;>rfl
@[simp] theorem r_coerB {s:Sh}:coer .leaf ⟨s,.bool b⟩=true:=by cases s<;>rfl
@[simp] theorem r_isV1:Sh.isView .leaf=false:=rfl
@[simp] theorem r_isV2 {s:Sh}:Sh.isView (.lst s)=false:=rfl
@[simp] theorem r_isV3 {s:List Sh}:Sh.isView (.tup s)=false:=rfl
@[simp] theorem r_gAdd {b:Int}:gAddI (.int a) (.int b)=some (.int (a+b)):=rfl
@[simp] theorem r_gSub {b:Int}:gSub (.int a) (.int b)=some (.int (a-b)):=rfl
@[simp] theorem r_gLt {b:Int}:gLt (.int a) (.int b)=some (.bool (decide (a<b))):=rfl
@[simp] theorem r_gGt {b:Int}:gGt (.int a) (.int b)=some (.bool (decide (b<a))):=rfl
@[simp] theorem r_gLen:gLen [.list ds]=some (.int ds.length):=rfl
@[simp] theorem r_gLenT:gLen [.tuple ds]=some (.int ds.length):=rfl
noncomputable def idxV (p q:PV):Ev->Out PV:=eIdx (fun U=>.ok p U) (fun U=>.ok q U)
@[simp] theorem r_idx:eIdx fa fb U=(fa U).bind fun p U1=>(fb U1).bind fun q U2=>idxV p q U2:=by
 unfold idxV eIdx eBind
 cases fa U with
 | ok p U1=>simp only [zER]
 | er c U1=>rfl
 | no=>rfl
@[simp] theorem r_idT {k:Int} {s:Sh}:idxV ⟨.leaf,.tuple ds⟩ ⟨s,.int k⟩ U=match atI ds k with | some d=>.ok ⟨.leaf,d⟩ U | none=>.no:=by
 unfold idxV eIdx eBind atI
 simp only [zER]
 cases h:ixN ds.length k with
 | none=>rfl
 | some j=>
  simp only [Option.bind_some]
  cases h2:ds[j]? with
  | none=>rfl
  | some d=>rfl
@[simp] theorem r_idL {k:Int} {s:Sh}:idxV ⟨.leaf,.list ds⟩ ⟨s,.int k⟩ U=match atI ds k with | some d=>.ok ⟨.leaf,d⟩ U | none=>.no:=by
 unfold idxV eIdx eBind atI
 simp only [zER]
 cases h:ixN ds.length k with
 | none=>rfl
 | some j=>
  simp only [Option.bind_some]
  cases h2:ds[j]? with
  | none=>rfl
  | some d=>rfl
@[simp] theorem r_idV {k:Int} {s:Sh}:idxV ⟨.view,.list ds⟩ ⟨s,.int k⟩ U=match atI ds k with | some d=>.ok ⟨if scalD d then .leaf else .view,d⟩ U | none=>.no:=by
 unfold idxV eIdx eBind atI
 simp only [zER]
 cases h:ixN ds.length k with
 | none=>rfl
 | some j=>
  simp only [Option.bind_some]
  cases h2:ds[j]? with
  | none=>rfl
  | some d=>rfl
@[simp] theorem r_at0 {a:α} {r:List α}:atI (a::r) 0=some a:=by
 simp [atI,ixN]
@[simp] theorem r_at1 {a b:α} {r:List α}:atI (a::b::r) 1=some b:=by
 have:(1:Int)<(r.length:Int)+1+1:=by omega
 simp [atI,ixN,this]
@[simp] theorem r_at2 {a b c:α} {r:List α}:atI (a::b::c::r) 2=some c:=by
 have:(2:Int)<(r.length:Int)+1+1+1:=by omega
 simp [atI,ixN,this]
theorem zEW {xs:List α} {k:Nat} {x:α} (h:xs[k]?=some x):atI xs (k:Int)=some x:=by
 have hk:=(List.getElem?_eq_some_iff.mp h).1
 have:(k:Int)<(xs.length:Int):=by omega
 simp [atI,ixN,this,h]
end
section
variable {U:Ev} {fa fb:F1} {i:Nat}
@[simp] theorem r_isi {c:String}:eIsi c fa U=(fa U).bind fun p U=>.ok ⟨.leaf,.bool (isTy (tyD p.d) c)⟩ U:=rfl
@[simp] theorem r_list {s:Sh}:eList s fl U=(fl U).bind fun ps U'=>if !s.isView&&ps.all (T.coer s)&&decide (ps.length<=sizeLine) then .ok ⟨.lst s,.list (ps.map (·.d))⟩ U' else .no:=rfl
@[simp] theorem r_tup:eTup fl U=(fl U).bind fun ps U'=>if ps.all tok&&decide (ps.length<=sizeLine) then .ok ⟨.tup (ps.map tsh),.tuple (ps.map (·.d))⟩ U' else .no:=rfl
@[simp] theorem r_tokL {d:D}:tok ⟨.leaf,d⟩=true:=rfl
@[simp] theorem r_tokS {s:Sh} {d:D}:tok ⟨.lst s,d⟩=true:=rfl
@[simp] theorem r_tokT {s:List Sh} {d:D}:tok ⟨.tup s,d⟩=true:=rfl
@[simp] theorem r_isN {a:D}:gIsN false a .none=some (.bool (zDQ a)):=rfl
@[simp] theorem r_isnN {a:D}:gIsN true a .none=some (.bool (!zDQ a)):=rfl
@[simp] theorem r_okI {d:D}:zBB ⟨.leaf,d⟩ ds=true:=rfl
@[simp] theorem r_okL {s:Sh} {d:D}:zBB ⟨.lst s,d⟩ ds=true:=rfl
@[simp] theorem r_okT {s:List Sh} {d:D}:zBB ⟨.tup s,d⟩ ds=true:=rfl
end
theorem zEK {α:Type} {en:α->D} {i:Nat} {fc:FB} {fe:F1} {s:Sh} {c:α->Bool} {f:α->PV} {U:Ev} (hU:U.set i none=U):∀(r:List α) (acc:List D),(∀x∈r,fc (U.set i (some ⟨.leaf,en x⟩))=.ok (c x) (U.set i (some ⟨.leaf,en x⟩))) ->
  (∀x∈r,c x=true->fe (U.set i (some ⟨.leaf,en x⟩))=.ok (f x) (U.set i (some ⟨.leaf,en x⟩))/\coer s (f x)=true)->acc.length+r.length<=sizeLine->zCF i fc fe s (r.map en) U acc=.ok (acc++((r.filter c).map fun x=>(f x).d)) U
 | [],acc,_,_,_=>by simp [zCF]
 | x::r,acc,hc,he,hl=>by
  have h1:=hc x mem_cons_self
  have hl1:acc.length<sizeLine:=by simp only [length_cons] at hl;omega
  have back:(U.set i (some ⟨.leaf,en x⟩)).set i none=U:=by rw [set_set];exact hU
  rw [map_cons,zCF,h1]
  cases hcd:c x with
  | false=>
   dsimp only
   rw [if_pos hl1,back,zEK hU r acc (fun d hd=>hc d (mem_cons_of_mem _ hd)) (fun d hd=>he d (mem_cons_of_mem _ hd)) (by simp only [length_cons] at hl;omega)]
   rw [List.filter_cons_of_neg (by rw [hcd];exact Bool.false_ne_true)]
  | true=>
   obtain ⟨h2,h3⟩:=he x mem_cons_self hcd
   dsimp only
   rw [h2]
   dsimp only
   rw [h3,decide_eq_true hl1,Bool.and_self,if_pos rfl,back,zEK hU r (acc++[(f x).d]) (fun d hd=>hc d (mem_cons_of_mem _ hd)) (fun d hd=>he d (mem_cons_of_mem _ hd)) (by simp only [length_cons,length_append,List.length_nil] at hl ⊢;omega)]
   rw [List.filter_cons_of_pos hcd,map_cons,append_assoc]
   rfl
theorem eComp_ty (en:α->D) (xs:List α) (c:α->Bool) (f:α->PV) {s:Sh} {i:Nat} {fc:FB} {st:Bool} {U:Ev} (hi:fi U=.ok ⟨xs.map en,st⟩ U) (hl:i<U.length) (hs:s.isView=false) (hn:xs.length<=10000)
  (hc:∀x∈xs,fc (U.set i (some ⟨.leaf,en x⟩))=.ok (c x) (U.set i (some ⟨.leaf,en x⟩))) (he:∀x∈xs,c x=true->fe (U.set i (some ⟨.leaf,en x⟩))=.ok (f x) (U.set i (some ⟨.leaf,en x⟩))/\coer s (f x)=true) :
  eComp s i fi fc fe U=.ok ⟨.lst s,.list ((xs.filter c).map fun x=>(f x).d)⟩ U:=by
 have hb:(10000:Nat)<=sizeLine:=by decide
 unfold eComp
 rw [hi]
 unfold Out.bind
 dsimp only
 rw [zEK (c:=c) (f:=f) (by rw [set_set]) xs [] (fun d hd=>by rw [set_set];exact hc d hd) (fun d hd=>by rw [set_set];exact he d hd) (by simp;omega)]
 dsimp only
 rw [hs,decide_eq_true hl]
 simp only [Bool.not_false,Bool.and_self,if_true,nil_append,set_set]
 have:U.set i (U.getD i none)=U:=by
  apply zCK
  rw [getD_eq_getElem?_getD,getElem?_eq_getElem hl]
  rfl
 rw [this]
theorem zBK (en:α->D) (xs:List α) (f:α->PV) {s:Sh} {i:Nat} {st:Bool} {U:Ev} (hi:fi U=.ok ⟨xs.map en,st⟩ U) (hl:i<U.length) (hs:s.isView=false) (hn:xs.length<=10000)
  (he:∀x∈xs,fe (U.set i (some ⟨.leaf,en x⟩))=.ok (f x) (U.set i (some ⟨.leaf,en x⟩))/\coer s (f x)=true):eComp s i fi bTrue fe U=.ok ⟨.lst s,.list (xs.map fun x=>(f x).d)⟩ U:=by
 rw [eComp_ty (fc:=bTrue) en xs (fun _=>true) f hi hl hs hn (fun _ _=>rfl) fun x hx _=>he x hx,List.filter_eq_self.mpr fun _ _=>rfl]
end T
namespace KC
open PySem PySem.Spec L2 T PySem.SeqAt
open PyProof.Rows hiding St
noncomputable abbrev rm (t:Nat):D:=.int (t:Int)
noncomputable abbrev rms (r:List Nat):D:=.list (r.map rm)
theorem rng_rms {n:Nat}:rngD 0 n=(List.range n).map rm:=by
 unfold rngD
 simp
structure Wd where
 n:Nat
 os:List D
 m:List (List Str)
 s:List (List Nat)
noncomputable def txs (r:List Str):D:=.list (r.map .str)
noncomputable def Wd.enc (w:Wd):D:=tup3 w.os (w.m.map txs) (w.s.map rms)
structure Wd.Ok (w:Wd):Prop where
 g:Gw (w.n:Int) w.n w.os (w.m.map txs) (w.s.map rms)
 h1:1<=w.n
 h24:w.n<=24
 lm:w.m.length=w.n
 ls:w.s.length=w.n
 st:∀r∈w.s,r≠[]/\r.length<=30/\∀t∈r,t<w.n
 mc:∀r∈w.m,∀c∈r,PyData.strOk c=true
noncomputable def Wd.stp (w:Wd) (r:Nat):List Nat:=w.s.getD r []
noncomputable def Wd.mks (w:Wd) (r:Nat):List Str:=w.m.getD r []
theorem Wd.Ok.at2 {w:Wd} (h:w.Ok) {r:Nat} (hr:r<w.n):atI (w.s.map rms) (r:Int)=some (rms (w.stp r)):=by
 refine zEW ?_
 unfold Wd.stp
 rw [getElem?_map,getD_eq_getElem?_getD,getElem?_eq_getElem (by rw [h.ls];exact hr)]
 rfl
theorem Wd.Ok.at1 {w:Wd} (h:w.Ok) {r:Nat} (hr:r<w.n):atI (w.m.map txs) (r:Int)=some (txs (w.mks r)):=by
 refine zEW ?_
 unfold Wd.mks
 rw [getElem?_map,getD_eq_getElem?_getD,getElem?_eq_getElem (by rw [h.lm];exact hr)]
 rfl
theorem Wd.Ok.stp_lt {w:Wd} (h:w.Ok) {r t:Nat} (ht:t∈w.stp r):t<w.n:=by
 unfold Wd.stp at ht
 rw [getD_eq_getElem?_getD] at ht
 cases e:w.s[r]? with
 | none=>rw [e] at ht;simp at ht
 | some x=>rw [e] at ht;exact (h.st x (mem_of_getElem? e)).2.2 t ht
noncomputable def letters:List Str:=["a", "b", "c", "d", "e", "f"]
noncomputable def chA (cl:List Bool) (r:Nat):Bool:=cl.getD r false
theorem Wd.Ok.check {w:Wd} (ok:w.Ok):m_check_world [w.enc]=.ok ⟨.leaf,.none⟩:=den_check (ok.g.wk (b:=24) ok.h24) (by omega) (ok.g.isW ok.h1 ok.h24)
end KC
namespace T
open PySem PySem.Spec L2
open PyProof.Rows hiding St
theorem zDK {α:Type} (en:α->D) {i:Nat} {body:FS} {Inv:List α->Ev->Prop} (hb:∀a r U,Inv (a::r) U->i<U.length/\∃U',body (U.set i (some ⟨.leaf,en a⟩))=.nx U'/\Inv r U'):∀(xs:List α) (U:Ev),Inv xs U->∃U',forGo i body (xs.map en) U=.nx U'/\Inv [] U'
 | [],U,h=>⟨U,rfl,h⟩
 | a::r,U,h=>by
  obtain ⟨hi,U1,h1,h2⟩:=hb a r U h
  obtain ⟨U2,e,h3⟩:=zDK en hb r U1 h2
  refine ⟨U2,?_,h3⟩
  rw [map_cons,forGo,if_pos hi,h1]
  exact e
theorem v_idxO {U:Ev} {i j:Nat} {fb:F1} {s:Sh} {k:Int} {ds:List D} {d:D} (ho:U[i]?=some (some ⟨.lst .leaf,.list ds⟩)) (hb:fb U=.ok ⟨s,.int k⟩ U) (hi:ixN ds.length k=some j) (hd:ds[j]?=some d):eIdxO i fb U=.ok ⟨.leaf,d⟩ U:=by
 unfold eIdxO zA8
 rw [ho]
 simp only [if_true,hb,zER]
 unfold idxK
 rw [ho]
 simp only [hi,hd]
end T
namespace KC
open PySem PySem.Spec L2 T PySem.SeqAt
open PyProof.Rows hiding St
variable {n:Nat}
theorem to_wd {os ms ss:List D} (g:Gw (n:Int) n os ms ss) (h1:1<=n) (h24:n<=24):∃w:Wd,w.Ok/\w.enc=tup3 os ms ss/\w.n=n:=by
 have hm:∀l:List D,(∀r∈l,∃xs,r=.list xs/\RowS xs)->∃M:List (List Str),l=M.map txs/\∀r∈M,∀c∈r,PyData.strOk c=true:=by
  have one:∀xs:List D,RowS xs->∃r:List Str,xs=r.map .str/\∀c∈r,PyData.strOk c=true:=by
   intro xs
   induction xs with
   | nil=>intro _;exact ⟨[],rfl,by simp⟩
   | cons a r ih=>
    intro h
    obtain ⟨x,rfl,hx⟩:=h a mem_cons_self
    obtain ⟨t,rfl,ht⟩:=ih fun b hb=>h b (mem_cons_of_mem _ hb)
    exact ⟨x::t,rfl,fun c hc=>(List.mem_cons.mp hc).elim (fun e=>by rw [e];exact hx) (ht c)⟩
  intro l
  induction l with
  | nil=>intro _;exact ⟨[],rfl,by simp⟩
  | cons a r ih=>
   intro h
   obtain ⟨xs,rfl,hx⟩:=h a mem_cons_self
   obtain ⟨x,rfl,hx2⟩:=one xs hx
   obtain ⟨M,rfl,hM⟩:=ih fun b hb=>h b (mem_cons_of_mem _ hb)
   exact ⟨x::M,rfl,fun c hc=>(List.mem_cons.mp hc).elim (fun e=>by rw [e];exact hx2) (hM c)⟩
 have hs:∀l:List D,(∀r∈l,∃ts:List Int,r=.list (ts.map .int)/\ts.length<=30/\ts≠[]/\(∀t∈ts,0<=t/\t<(n:Int))/\ts.Pairwise (· < ·))->∃S:List (List Nat),l=S.map rms/\∀r∈S,r≠[]/\r.length<=30/\∀t∈r,t<n:=by
  have one:∀ts:List Int,(∀t∈ts,0<=t/\t<(n:Int))->∃r:List Nat,ts.map PyData.int=r.map rm/\r.length=ts.length/\∀t∈r,t<n:=by
   intro ts
   induction ts with
   | nil=>intro _;exact ⟨[],rfl,rfl,by simp⟩
   | cons a r ih=>
    intro h
    have ha:=h a mem_cons_self
    obtain ⟨t,e,el,ht⟩:=ih fun b hb=>h b (mem_cons_of_mem _ hb)
    refine ⟨a.toNat::t,?_,by simp [el],fun c hc=>(List.mem_cons.mp hc).elim (fun e=>by omega) (ht c)⟩
    rw [map_cons,map_cons,e]
    congr 2
    omega
  intro l
  induction l with
  | nil=>intro _;exact ⟨[],rfl,by simp⟩
  | cons a r ih=>
   intro h
   obtain ⟨ts,rfl,t1,t2,t3,_⟩:=h a mem_cons_self
   obtain ⟨x,e,el,hx⟩:=one ts t3
   obtain ⟨S,rfl,hS⟩:=ih fun b hb=>h b (mem_cons_of_mem _ hb)
   refine ⟨x::S,by rw [map_cons,e],fun c hc=>(List.mem_cons.mp hc).elim (fun e=>by
    subst e
    exact ⟨fun z=>t2 (List.length_eq_zero_iff.mp (by rw [<-el,z];rfl)),by omega,hx⟩) (hS c)⟩
 obtain ⟨M,eM,hM⟩:=hm ms fun r hr=>let ⟨xs,a,b,_⟩:=g.m r hr;⟨xs,a,b⟩
 obtain ⟨S,eS,hS⟩:=hs ss g.s
 subst eM eS
 refine ⟨⟨n,os,M,S⟩,⟨g,h1,h24,?_,?_,hS,hM⟩,rfl,rfl⟩
 ·have:=g.lm;simpa using this
 ·have:=g.ls;simpa using this
theorem R1_of {fl:FL} {U:Ev} {s:Sh} (hn:n<=1000) (h:fl U=.ok [⟨s,.int (n:Int)⟩] U):iR1 fl U=.ok ⟨(List.range n).map rm,true⟩ U:=by
 rw [w_r1 (k:=(n:Int)) h rfl (by omega) (by omega),Int.toNat_natCast,rng_rms]
noncomputable def isI (p:Int):D->Bool
 | .int o=>o==p
 | _=>false
noncomputable def own (w:Wd) (p:Int):Nat->Bool:=chA (w.os.map (isI p))
theorem Wd.Ok.o_at {w:Wd} (ok:w.Ok) {r:Nat} (hr:r<w.n):∃o:Int,(o=0\/o=1)/\atI w.os (r:Int)=some (.int o)/\∀p,own w p r=(o==p):=by
 have hl:r<w.os.length:=by rw [ok.g.lo];exact hr
 have hm:=ok.g.o _ (getElem_mem hl)
 have key:∀o:Int,w.os[r]=.int o->atI w.os (r:Int)=some (.int o)/\∀p,own w p r=(o==p):=fun o e=>by
  refine ⟨zEW (by rw [getElem?_eq_getElem hl,e]),fun p=>?_⟩
  unfold own chA
  rw [getD_eq_getElem?_getD,getElem?_map,getElem?_eq_getElem hl,e]
  rfl
 rcases hm with e | e
 ·exact ⟨0,.inl rfl,key 0 e⟩
 ·exact ⟨1,.inr rfl,key 1 e⟩
end KC
namespace T
open PySem PySem.Spec L2
open PyProof.Rows hiding St
section
variable {K:Fg} {W:XW} {σ:St} {H:Hp} {Q:VK} {D:Ends} {fa fb:F1} {fl:FL}
def rInsert:V->List V->Hp->VK->Prop:=fun x vs H Q=>∃l xs,∃k:Nat,∃y,x=.ref l/\vs=[.int (k:Int),y]/\H l=some (.lst xs)/\k<=xs.length/\xs.length<10000/\Q .non (upd H l (.lst (xs.take k++y::xs.drop k)))
theorem mt_insert {X:Cx}:MtM X "list.insert" rInsert:=by
 intro pins s σ H x vs v us Q I rx rv h
 obtain ⟨l,xs,k,y,rfl,rfl,hH,hk,hz,q⟩:=h
 cases rx
 obtain ⟨u1,u,rfl,r1,ru⟩:∃u1 u2,us=[u1,u2]/\RelV (.int (k:Int)) u1/\RelV y u2:=by
  cases rv with
  | cons p q=>
   cases q with
   | cons p' q'=>
    cases q'
    exact ⟨_,_,rfl,p,p'⟩
 obtain ⟨t,rfl⟩:=r1
 obtain ⟨z,its,n,r,hl,e⟩:=I.lstM hH
 have hb:(10000:Nat)<=sizeLine:=by decide
 have hf:Builtin.List.listFitsIndex (k:Int)=true:=fitsIndex_both (by omega) (by omega)
 have hsz:its.toArray.size<=sizeLine:=by rw [size_toArray];omega
 generalize hkk:(k:Int)=kk at hf
 refine call_meets F.slot_list_insert ⟨_,e,rfl⟩ F.entry_list_insert (F.args_list_insert_3 _ _ _) (AutoSeq1.list_insert_list_int_val_1 l its.toArray n kk t u (by simp [hf]) hsz) ⟨e,?_⟩
 subst hkk
 refine ⟨.non,_,I.lset (its':=its.take k++u::its.drop k) hH e ?_ ((r.take k).append (.cons ru (r.drop k))) ?_,rfl,q⟩
 ·have hm:min (k:Int).toNat its.toArray.size=k:=by
   rw [Int.toNat_natCast,size_toArray]
   omega
  show (have k':=if (k:Int)<0 then ((k:Int)+((its.toArray.size:Nat):Int)).toNat else min (k:Int).toNat its.toArray.size;(its.toArray.extract 0 k').push u++its.toArray.extract k')=_
  simp only [if_neg (show ¬(k:Int)<0 by omega),hm]
  apply Array.ext'
  simp [List.extract_eq_take_drop,take_of_length_le]
 ·simp only [length_append,length_cons,length_take,length_drop]
  omega
end
section
variable {K:Fg} {W:XW} {σ:St} {H:Hp} {Q:VK} {D:Ends} {fa fb:F1} {fl:FL}
open Classical in
def zDL (i:Nat):F1:=fun U=>if zA8 U[i]? then (match U[i]? with
 | some (some p)=>.ok p U
 | _=>.no) else .no
theorem rd_listO {i:Nat} (h:tE K W (zDL i) σ H Q):tCB (fun xs H Q=>∃p ys,xs=[.ref p]/\(SqL K H p ys\/SqT K H p ys)/\∀l,H l=none->Q (.ref l) (upd H l (.lst ys))) (tCons (tVar i) tNil) σ H Q:=by
 obtain ⟨He,O,Fs,U,E,h⟩:=h
 unfold zDL at h
 cases ho:zA8 U[i]? with
 | false=>rw [ho] at h;exact h.elim
 | true=>
  obtain ⟨ds,e0⟩:=zBV ho
  rw [ho,e0] at h
  have h:Wants K W He O Fs H σ Q (.ok ⟨.lst .leaf,.list ds⟩ U):=h
  obtain ⟨l,vs,h1,h2,h3,h4,_⟩:=E.chgF e0
  refine ⟨.ref l,h1,?_⟩
  exact ⟨l,vs,rfl,.inl (.inl (.of h2)),fun l' hl=>h _ _ _ _ (zFC E (Same.refl _) (fun a ha=>.inl ha) ⟨h3,h4⟩ hl)⟩
end
section
variable {X:Cx} {N gl:List Str} {vs cs ls lo gs:List Nat} {W:XW} {a b c e:Expr} {es:List Expr} {pos p:Pos} {fa fb fc:F1} {fl:FL} {g:FS}
theorem cb_listO (S:Cp X N gl vs cs ls lo gs) (j:Nat) (hj:gl[j]?=some ("list":Str)) (hg:gs.contains j=true) (hm:X.mg "list"=none) (i:Nat) {x:Str} {p2:Pos} (hi:N[i]?=some x) (hv:vs.contains i=true) (hs:starEach [.Name x p2] X.env=[(false,eval (.Name x p2) X.env)]) :
  PE X (.Call (.Name "list" p) [.Name x p2] [] pos) (tE X.K W (zDL i)):=by
 have m:=S.nm x (mem_of_getElem? hi)
 exact PEimp (zDH call_list_of (S.g hj hg).1 hm zGL (zAE (zCD (by rw [S.hN];exact hi) (S.vis i x hi hv) m.1 m.2) zAS hs) (by decide) (by decide) hs rfl) fun _ _ _=>rd_listO
end
end T
namespace TQ
open PySem PySem.Spec L2 T
open PyProof.Rows hiding St
section
variable {X:Cx} {N gl:List Str} {vs cs ls lo gs:List Nat} {W:XW} {a b c e:Expr} {es:List Expr} {pos p:Pos} {fa fb fc:F1} {fl:FL} {g:FS}
theorem w_cb_listO (S:Cp X N gl vs cs ls lo gs) (j:Nat) (hj:gl[j]?=some ("list":Str)) (hg:gs.contains j=true) (hm:X.mg "list"=none) (i:Nat) {x:Str} {p2:Pos} (hi:N[i]?=some x) (hv:vs.contains i=true) (hs:starEach [.Name x p2] X.env=[(false,eval (.Name x p2) X.env)]) :
  Q (PE X (.Call (.Name "list" p) [.Name x p2] [] pos) (tE X.K W (zDL i))):=⟨T.cb_listO S j hj hg hm i hi hv hs⟩
end
end TQ
namespace KC
open PySem PySem.Spec L2 T PySem.SeqAt
open PyProof.Rows hiding St
theorem size_ev {w:Wd} (ok:w.Ok) {U:Ev} {i:Nat} (h0:U[i]?=some (some ⟨.leaf,w.enc⟩)):eCB gLen (eCons (eIdx (eVar i) (eK (.int 0))) eNil) U=.ok ⟨.leaf,.int (w.n:Int)⟩ U:=by
 have e:eIdx (eVar i) (eK (.int 0)) U=.ok ⟨.leaf,.list w.os⟩ U:=by
  rw [r_idx,zAB h0]
  simp only [Out.bind,v_k,Wd.enc,tup3,r_idT,r_at0]
 refine v_cb (zAC e v_nil) ?_
 simp [ok.g.lo]
end KC
namespace KC
open PySem PySem.Spec L2 T
open PyProof.Rows hiding St
noncomputable def d_check_room:FS:=(sIf (bNot (bOf gBool (zC4 gLe gLt (eK (.int 0)) (eVar 1) (eCB gLen (eCons (eIdx (eVar 0) (eK (.int 0))) eNil))))) sNo sNext)
noncomputable def m_check_room:List PySem.PyData->Res:=denOf 2 d_check_room
open PySem.SeqAt
theorem den_check_room {w:Wd} (ok:w.Ok) {r:Nat} (hr:r<w.n):m_check_room [w.enc,rm r]=.ok ⟨.leaf,.none⟩:=by
 have c:=v_chain (g:=gLe) (g':=gLt) (U:=zAO 2 [w.enc,rm r]) (fa:=eK (.int 0)) (fb:=eVar 1) (fc:=eCB gLen (eCons (eIdx (eVar 0) (eK (.int 0))) eNil)) (b:=decide ((0:Int)<=(r:Int))) (b':=decide ((r:Int)<(w.n:Int))) v_k (zAB (i:=1) rfl) rfl rfl (size_ev ok rfl) rfl
 have t:=b_not (zAK (s:=.leaf) c)
 rw [decide_eq_true (show (0:Int)<=(r:Int) by omega),decide_eq_true (show (r:Int)<(w.n:Int) by omega)] at t
 exact nx_of (x_if t nofun fun _=>rfl)
end KC
namespace T
open PySem PySem.Spec L2
open PyProof.Rows hiding St
variable {b a:Addr} {us:List Value} {h':Heap} {o:Obj} {es:Array DictEntry} {ep n:Nat} {K:Fg} {H':Hp} {X:Cx} {pins:List (Addr×Obj)} {σ:St} {sh:List Bool}
def popDK (i:Nat) (q:PV) (U:Ev):OutS:=match q.d,U[i]? with
 | .int k,some (some ⟨.lst .leaf,.list ds⟩)=>if decide (0<=k)&&decide (k<1000)&&decide (k.toNat<ds.length) then .nx (U.set i (some ⟨.lst .leaf,.list (ds.eraseIdx k.toNat)⟩)) else .no
 | _,_=>.no
def sPopD (i:Nat) (fb:F1):FS:=fun U=>if zA8 U[i]? then (match fb U with
 | .ok q U2=>popDK i q U2
 | _=>.no) else .no
theorem popDK_ok {i:Nat} {q:PV} {U:Ev}:popDK i q U=.no\/∃k ds,q.d=.int k/\U[i]?=some (some ⟨.lst .leaf,.list ds⟩)/\0<=k/\k<1000/\k.toNat<ds.length/\popDK i q U=.nx (U.set i (some ⟨.lst .leaf,.list (ds.eraseIdx k.toNat)⟩)):=by
 unfold popDK
 split
 ·rename_i k ds e0 e1
  split
  ·rename_i hc
   rw [Bool.and_eq_true,Bool.and_eq_true,decide_eq_true_eq,decide_eq_true_eq,decide_eq_true_eq] at hc
   exact .inr ⟨k,ds,e0,e1,hc.1.1,hc.1.2,hc.2,rfl⟩
  ·exact .inl rfl
 ·exact .inl rfl
section
variable {K:Fg} {W:XW} {σ:St} {H:Hp} {Q:VK} {D:Ends} {fb:F1}
theorem rd_popD {i:Nat} (h:tS K W (sPopD i fb) D σ H):tDrop (tBM K "list" zFL (tVar i) (tCons (tE K W fb) tNil)) D σ H:=by
 obtain ⟨He,O,Fs,U,E,h⟩:=h
 unfold sPopD at h
 cases hc:zA8 U[i]? with
 | false=>rw [hc] at h;exact h.elim
 | true=>
  rw [hc] at h
  obtain ⟨ds0,ei⟩:=zBV hc
  obtain ⟨l,vs,h1,h2,_⟩:=E.chgF ei
  refine ⟨.ref l,h1,.inl ⟨rfl,vs,.of h2⟩,He,O,Fs,U,E,?_⟩
  cases e:fb U with
  | er c U'=>rw [e] at h;exact h.elim
  | no=>rw [e] at h;exact h.elim
  | ok q U2=>
   rw [e] at h
   intro y H3 G Fs3 A
   have hw:zCG K W He O D (popDK i q U2):=h
   clear h
   have E3:=A.go
   have own:=A.own
   obtain ⟨s,dd⟩:=q
   rcases popDK_ok (i:=i) (q:=⟨s,dd⟩) (U:=U2) with z | ⟨k,ds,ek,e1,c1,c2,c3,z⟩
   ·rw [z] at hw;exact hw.elim
   ·rw [z] at hw
    cases ek
    have ey:Rep K H3 y (.int k):=own.rep
    cases ey
    obtain ⟨l',vs',a1,a2,a3,a4,a5⟩:=E3.chgF e1
    rw [h1] at a1
    cases a1
    have hu:vs'[k.toNat]?=some (vs'[k.toNat]'(by omega)):=getElem?_eq_getElem _
    have E4:=a5 (vs'.eraseIdx k.toNat) (ds.eraseIdx k.toNat) (by rw [length_eraseIdx,length_eraseIdx,a3]) fun n x d b1 b2=>by
     rw [List.getElem?_eraseIdx] at b1 b2
     split at b1
     ·rename_i hn
      rw [if_pos hn] at b2
      exact a4 _ x d b1 b2
     ·rename_i hn
      rw [if_neg hn] at b2
      exact a4 _ x d b1 b2
    have six:seqIndex? k vs'.length=some k.toNat:=by
     have n0:¬k<0:=by omega
     have:(decide (0<=k)&&decide (k<(vs'.length:Int)))=true:=by rw [Bool.and_eq_true,decide_eq_true_eq,decide_eq_true_eq];omega
     simp only [seqIndex?,if_neg n0,this,if_true]
    refine ⟨l,vs',k,k.toNat,_,rfl,rfl,a2,?_,?_,six,hu,hw σ _ Fs3 E4⟩
    ·have:(0:Int)<=2 ^ 63:=by decide
     omega
    ·have:(1000:Int)<=2 ^ 63:=by decide
     omega
end
abbrev It:=Key ⊕ List Key
section
variable {prog:Program} {w:World}
inductive Its2 (h:Heap):List It->List Value->Prop
 | nil:Its2 h [] []
 | v {k:Key} {u:Value} {ks:List It} {us:List Value}:(zBC prog w).is k u=true->Its2 h ks us->Its2 h (.inl k::ks) (u::us)
 | t {l:List Key} {b:Addr} {ks:List It} {us:List Value}:IsTupleKey (zBC prog w) h l b->Its2 h ks us->Its2 h (.inr l::ks) (.ref b::us)
variable (prog w)
def Is2 (h:Heap) (ks:List It) (a:Addr):Prop:=∃o items n,h.get? a=some o/\o.cls=.type "tuple"/\o.data=.seq items n/\Its2 (prog:=prog) (w:=w) h ks items.toList
variable {prog w}
theorem key_ref {k:Key}:(zBC prog w).is k (.ref b)=true->False:=fun h=>by
 rcases zA6 h with ⟨i,t,_,e⟩ | ⟨x,t,_,e⟩<;>cases e
theorem Its2.inj {h:Heap} {x y:List It} (hx:Its2 (prog:=prog) (w:=w) h x us) (hy:Its2 (prog:=prog) (w:=w) h y us):x=y:=by
 induction hx generalizing y with
 | nil=>cases hy;rfl
 | v h1 _ ih=>
  cases hy with
  | v h2 t2=>rw [(zBC prog w).inj _ _ _ h1 h2,ih t2]
  | t h2 t2=>exact (key_ref h1).elim
 | t h1 _ ih=>
  cases hy with
  | v h2 t2=>exact (key_ref h2).elim
  | t h2 t2=>rw [h1.inj h2,ih t2]
theorem Is2.typeIs {s:Shared} {ks:List It} (x:Is2 prog w s.heap ks a):s.TypeIs (.ref a) "tuple":=let ⟨o,_,_,ho,hc,_⟩:=x;⟨o,ho,hc⟩
theorem Is2.inj {h:Heap} {x y:List It} (hx:Is2 prog w h x a) (hy:Is2 prog w h y a):x=y:=by
 obtain ⟨o,items,n,ho,_,hd,hi⟩:=hx
 obtain ⟨o',items',n',ho',_,hd',hi'⟩:=hy
 obtain rfl:o=o':=Option.some.inj (ho.symm.trans ho')
 rw [hd] at hd'
 injection hd' with h1 _
 subst h1
 exact hi.inj hi'
theorem Its2.keeps {h:Heap} {ks:List It} {d:Addr} (x:Its2 (prog:=prog) (w:=w) h ks us) (ho:h.get? d=some o) (hd:o.data=.dict es ep) (hs:Heap.SameBut d h h'):Its2 (prog:=prog) (w:=w) h' ks us:=by
 induction x with
 | nil=>exact .nil
 | v h1 _ ih=>exact .v h1 ih
 | t h1 _ ih=>exact .t (h1.keeps ho hd hs) ih
theorem Is2.keeps {h:Heap} {ks:List It} {d:Addr} (x:Is2 prog w h ks a) (ho:h.get? d=some o) (hd:o.data=.dict es ep) (hs:Heap.SameBut d h h'):Is2 prog w h' ks a:=by
 obtain ⟨o',items,n,ho',hc,hd',hi⟩:=x
 have hne:a≠d:=by
  rintro rfl
  obtain rfl:o'=o:=Option.some.inj (ho'.symm.trans ho)
  rw [hd] at hd'
  exact nomatch hd'
 exact ⟨o',items,n,(hs.2 a hne).trans ho',hc,hd',hi.keeps ho hd hs⟩
def hI (w:World):It->Int
 | .inl k=>keyH w k
 | .inr l=>reduceHash (Builtin.Tuple.tupleHashOf (l.map (keyH w)))
def dI:It->Nat
 | .inl _=>1
 | .inr l=>l.length+1
def h2H (w:World) (ks:List It):Int:=reduceHash (Builtin.Tuple.tupleHashOf (ks.map (hI w)))
def dr2 (ks:List It):Nat:=(ks.map dI).sum+1
variable {A:Around} {E:Value->Shared->Prop} {s:Shared}
theorem hash2 {ks:List It} {Q:Int->Shared->Prop} (hu:A.units+1<cLine) (hk:Is2 prog w s.heap ks a) (h:Q (h2H w ks) { s with toks:=s.toks+dr2 ks }):wpAny (model prog w) A (pyHash (.ref a)) Q E s:=by
 have hT:=hk.typeIs
 obtain ⟨o,items,n,ho,_,hd,hi⟩:=hk
 unfold pyHash
 first | unfold pyHashByItsType | skip
 first | refine wpAny_bind (wpAny_cRoomFor_or (.inr (by omega)) ?_) | skip
 refine wpAny_bind (wpAny_specialOf hT PySem.F.slot_tuple_hash.lookup ?_)
 show wpAny _ _ (if (some (Value.builtin "tuple.__hash__")==some Value.none)=true then _ else _) Q E s
 rw [if_neg (by rw [beq_builtin_none];exact Bool.false_ne_true)]
 refine wpAny_bind (wpAny_specialOf hT PySem.F.slot_tuple_hash.lookup ?_)
 show wpAny _ _ (callSpecialIfBoundUnlessNone? (.ref a) "__hash__" _ >>= _) Q E s
 refine wpAny_bind (wpAny_callSpecialIfBoundUnlessNone?_slot hT PySem.F.slot_tuple_hash (wpAny_call_entry PySem.F.slot_tuple_hash hT PySem.F.entry_tuple_hash ?_ (PySem.F.args_tuple_hash_1 _)))
 show wpAny _ _ (Builtin.Tuple.tupleItemsOf (.ref a) >>= _) _ _ s
 refine wpAny_bind (wpAny_tupleItemsOf ho hd ?_)
 refine wpAny_bind ?_
 rw [<-Array.forIn_toList]
 refine wpAny_forIn_list _
  (fun rest (b:Array Int) s'=>∃done left,ks=done++left/\Its2 (prog:=prog) (w:=w) s.heap left rest/\b.toList=done.map (hI w)/\s'={ s with toks:=s.toks+(done.map dI).sum })
  _ ?_ ?_ _ _ ⟨[],ks,rfl,hi,rfl,rfl⟩
 ·rintro x rest b s' ⟨done,left,rfl,hl,hb,rfl⟩
  cases hl with
  | @v k _ ks' _ h1 hl'=>
   refine wpAny_bind ((zBC prog w).pyHash h1 ?_)
   first
    | exact wpAny_pure ⟨done++[.inl k],ks',by simp,hl',by simp [hb];rfl,by simp [Nat.add_assoc,dI]⟩
    | exact wpAny_bind (wpAny_pure (wpAny_pure ⟨done++[.inl k],ks',by simp,hl',by simp [hb];rfl,by simp [Nat.add_assoc,dI]⟩))
  | @t l q ks' _ h1 hl'=>
   refine wpAny_bind (wpAny_pyHash_tuple (knd:=zBC prog w) (by simp;omega) h1 ?_)
   first
    | exact wpAny_pure ⟨done++[.inr l],ks',by simp,hl',by simp [hb];rfl,by simp [Nat.add_assoc,dI]⟩
    | exact wpAny_bind (wpAny_pure (wpAny_pure ⟨done++[.inr l],ks',by simp,hl',by simp [hb];rfl,by simp [Nat.add_assoc,dI]⟩))
 ·rintro b s' ⟨done,left,rfl,hl,hb,rfl⟩
  cases hl
  rw [append_nil] at h
  show wpAny _ _ (retInt (Builtin.Tuple.tupleHashOf b.toList)) _ _ _
  rw [hb]
  refine wpAny_ret_mkInt ?_
  show wpAny _ _ (if (decide (-(2:Int) ^ 63<=Builtin.Tuple.tupleHashOf (done.map (hI w)))&&decide (Builtin.Tuple.tupleHashOf (done.map (hI w))<2 ^ 63))=true then _ else _) Q E _
  unfold h2H reduceHash dr2 at h
  by_cases hr:(decide (-(2:Int) ^ 63<=Builtin.Tuple.tupleHashOf (done.map (hI w)))&&decide (Builtin.Tuple.tupleHashOf (done.map (hI w))<2 ^ 63))=true
  ·rw [if_pos hr]
   rw [if_pos hr] at h
   exact wpAny_pure (by simpa [Nat.add_assoc] using h)
  ·rw [if_neg hr]
   rw [if_neg hr] at h
   exact wpAny_bind (wpAny_rule (wpAny_pure (by simpa [Nat.add_assoc] using h)))
def isT:It->Bool
 | .inl _=>false
 | .inr _=>true
theorem eq_tree2 {x y:List It} {P:Fin->Shared->Prop} (hu:A.units<cLine) (hsh:x.map isT=y.map isT) (hx:Is2 prog w s.heap x a) (hy:Is2 prog w s.heap y b) (h:P (.done (.ret (.bool (decide (x=y))))) s) :
  wpAny (model prog w) A (Builtin.«tuple.__eq__» ⟨[.ref a,.ref b],[]⟩) P E s:=by
 have hTb:=hy.typeIs
 obtain ⟨oa,xs,na,hoa,_,hda,hia⟩:=hx
 obtain ⟨ob,ys,nb,hob,_,hdb,hib⟩:=hy
 show wpAny _ _ (isInstance (.ref b) (.type "tuple") >>= _) _ _ s
 refine wpAny_bind (wpAny_isInstance hTb isSubtype_tuple_tuple ?_)
 simp only [Bool.not_true,Bool.false_eq_true,if_false]
 refine wpAny_bind (wpAny_tupleItemsOf hoa hda ?_)
 refine wpAny_bind (wpAny_tupleItemsOf hob hdb ?_)
 refine wpAny_bind ?_
 refine wpAny_forIn_list _
  (fun rest r s'=>r.1=none/\s'=s/\∃x' y' xs' ys',rest=List.zip xs' ys'/\x'.map isT=y'.map isT/\Its2 (prog:=prog) (w:=w) s.heap x' xs'/\Its2 (prog:=prog) (w:=w) s.heap y' ys'/\decide (x'=y')=decide (x=y)/\(xs'.length==ys'.length)=(xs.size==ys.size))
  _ ?_ ?_ _ _ ⟨rfl,rfl,x,y,xs.toList,ys.toList,rfl,hsh,hia,hib,rfl,by simp⟩
 ·rintro ⟨u,v⟩ rest r s' ⟨hr,rfl,x',y',xs',ys',hz,hsh',hx',hy',hdec,hlen⟩
  cases hx' with
  | nil=>simp at hz
  | @v k1 u' x'' xs'' h1 hx''=>
   cases hy' with
   | nil=>simp at hz
   | t h2 hy''=>simp [isT] at hsh'
   | @v k2 v' y'' ys'' h2 hy''=>
    simp only [List.zip_cons_cons,List.cons.injEq,Prod.mk.injEq] at hz
    obtain ⟨⟨rfl,rfl⟩,rfl⟩:=hz
    refine wpAny_bind ((zBC prog w).eqBool (a:=k1) (b:=k2) h1 h2 ?_)
    by_cases hk:k1=k2
    ·subst hk
     rw [decide_eq_true rfl]
     simp only [Bool.not_true,Bool.false_eq_true,if_false]
     refine wpAny_pure ⟨rfl,rfl,x'',y'',xs'',ys'',rfl,by simpa using hsh',hx'',hy'',?_,by simpa using hlen⟩
     rw [<-hdec]
     by_cases hxy:x''=y''
     ·simp [hxy]
     ·simp [hxy]
    ·rw [decide_eq_false hk]
     simp only [Bool.not_false,if_true]
     have hf:decide (x=y)=false:=by rw [<-hdec];simp [hk]
     rw [hf] at h
     exact wpAny_bind (wpAny_pure (wpAny_pure (wpAny_pure h)))
  | @t l1 b1 x'' xs'' h1 hx''=>
   cases hy' with
   | nil=>simp at hz
   | v h2 hy''=>simp [isT] at hsh'
   | @t l2 b2 y'' ys'' h2 hy''=>
    simp only [List.zip_cons_cons,List.cons.injEq,Prod.mk.injEq] at hz
    obtain ⟨⟨rfl,rfl⟩,rfl⟩:=hz
    refine wpAny_bind (wpAny_eqBool_tuple (knd:=zBC prog w) hu h1 h2 ?_)
    by_cases hk:l1=l2
    ·subst hk
     rw [decide_eq_true rfl]
     simp only [Bool.not_true,Bool.false_eq_true,if_false]
     refine wpAny_pure ⟨rfl,rfl,x'',y'',xs'',ys'',rfl,by simpa using hsh',hx'',hy'',?_,by simpa using hlen⟩
     rw [<-hdec]
     by_cases hxy:x''=y''
     ·simp [hxy]
     ·simp [hxy]
    ·rw [decide_eq_false hk]
     simp only [Bool.not_false,if_true]
     have hf:decide (x=y)=false:=by rw [<-hdec];simp [hk]
     rw [hf] at h
     exact wpAny_bind (wpAny_pure (wpAny_pure (wpAny_pure h)))
 ·rintro ⟨r1,r2⟩ s' ⟨hr,rfl,x',y',xs',ys',hz,hsh',hx',hy',hdec,hlen⟩
  simp only at hr
  subst hr
  refine wpAny_pure ?_
  have hfin:(xs.size==ys.size)=decide (x=y):=by
   rw [<-hdec,<-hlen]
   cases hx' with
   | nil=>
    cases hy' with
    | nil=>simp
    | v _ _=>simp at hsh'
    | t _ _=>simp at hsh'
   | v _ _=>
    cases hy' with
    | nil=>simp at hsh'
    | v _ _=>simp at hz
    | t _ _=>simp at hz
   | t _ _=>
    cases hy' with
    | nil=>simp at hsh'
    | v _ _=>simp at hz
    | t _ _=>simp at hz
  show P (.done (.ret (.bool (xs.size==ys.size)))) s'
  rw [hfin];exact h
theorem eqb2 {x y:List It} {Q:Bool->Shared->Prop} (hu:A.units+1<cLine) (hsh:x.map isT=y.map isT) (hx:Is2 prog w s.heap x a) (hy:Is2 prog w s.heap y b) (h:Q (decide (x=y)) s) :
  wpAny (model prog w) A (eqBool (.ref a) (.ref b)) Q E s:=by
 unfold eqBool
 try with_reducible refine wpAny_holding ?_
 show wpAny _ _ (if (Value.ref a==Value.ref b)=true then _ else _) Q E s
 by_cases hab:(Value.ref a==Value.ref b)=true
 ·rw [if_pos hab]
  have e:a=b:=by have:=eq_of_beq hab;injection this
  subst e
  obtain rfl:=hx.inj hy
  exact wpAny_bind (wpAny_rule (wpAny_pure (by simpa using h)))
 ·rw [if_neg hab]
  exact wpAny_bind (wpAny_richCompare_same_room (op:=.Eq) hx.typeIs hy.typeIs PySem.F.slot_tuple_eq
   (wpAny_call_entry PySem.F.slot_tuple_eq hx.typeIs PySem.F.entry_tuple_eq (eq_tree2 (by simp;omega) hsh hx hy ⟨_,rfl,(fun e=>nomatch e),wpAny_truthy_bool h⟩) (PySem.F.args_tuple_eq_2 _ _)) (by omega))
theorem quiet1 {ks:List Key} {Q:Bool->Shared->Prop} (hk:IsTupleKey (zBC prog w) s.heap ks a) (h:Q true s):wpAny (model prog w) A (eqIsQuiet (n+1) (.ref a)) Q E s:=by
 have hT:=hk.typeIs
 obtain ⟨o,items,m,ho,_,hd,hi⟩:=hk
 unfold eqIsQuiet
 refine wpAny_bind (wpAny_specialOf hT PySem.F.slot_tuple_eq.lookup ?_)
 show wpAny _ _ (isInstance (.ref a) (.type "tuple") >>= _) _ _ s
 refine wpAny_bind (wpAny_isInstance hT isSubtype_tuple_tuple ?_)
 simp only [Bool.not_true,Bool.false_eq_true,if_false]
 refine wpAny_bind (wpAny_seqItems ho hd ?_)
 refine wpAny_bind ?_
 show wpAny _ _ (forIn items _ _) _ _ s
 rw [<-Array.forIn_toList]
 refine wpAny_forIn_list _ (fun rest r s'=>r.1=none/\s'=s/\∀v∈rest,carriedByValue v=true) _ ?_ ?_ _ _ ⟨rfl,rfl,hi.byValue⟩
 ·rintro v rest r s' ⟨hr,rfl,hall⟩
  rw [eqIsQuiet_byValue _ (hall v mem_cons_self)]
  refine wpAny_bind (wpAny_pure ?_)
  simp only [Bool.not_true,Bool.false_eq_true,if_false]
  exact wpAny_pure ⟨rfl,rfl,fun u hu'=>hall u (mem_cons_of_mem _ hu')⟩
 ·rintro ⟨r1,r2⟩ s' ⟨hr,rfl,_⟩
  simp only at hr
  subst hr
  exact wpAny_pure h
theorem quiet2 {ks:List It} {Q:Bool->Shared->Prop} (hk:Is2 prog w s.heap ks a) (h:Q true s):wpAny (model prog w) A (eqIsQuiet (n+2) (.ref a)) Q E s:=by
 have hT:=hk.typeIs
 obtain ⟨o,items,m,ho,_,hd,hi⟩:=hk
 unfold eqIsQuiet
 refine wpAny_bind (wpAny_specialOf hT PySem.F.slot_tuple_eq.lookup ?_)
 show wpAny _ _ (isInstance (.ref a) (.type "tuple") >>= _) _ _ s
 refine wpAny_bind (wpAny_isInstance hT isSubtype_tuple_tuple ?_)
 simp only [Bool.not_true,Bool.false_eq_true,if_false]
 refine wpAny_bind (wpAny_seqItems ho hd ?_)
 refine wpAny_bind ?_
 show wpAny _ _ (forIn items _ _) _ _ s
 rw [<-Array.forIn_toList]
 refine wpAny_forIn_list _ (fun rest r s'=>r.1=none/\s'=s/\∃ks,Its2 (prog:=prog) (w:=w) s.heap ks rest) _ ?_ ?_ _ _ ⟨rfl,rfl,ks,hi⟩
 ·rintro v rest r s' ⟨hr,rfl,ks,hall⟩
  cases hall with
  | @v k _ ks' _ h1 hl'=>
   rw [eqIsQuiet_byValue _ ((zBC prog w).byValue _ _ h1)]
   refine wpAny_bind (wpAny_pure ?_)
   simp only [Bool.not_true,Bool.false_eq_true,if_false]
   exact wpAny_pure ⟨rfl,rfl,ks',hl'⟩
  | @t l q ks' _ h1 hl'=>
   refine wpAny_bind (quiet1 h1 ?_)
   simp only [Bool.not_true,Bool.false_eq_true,if_false]
   exact wpAny_pure ⟨rfl,rfl,ks',hl'⟩
 ·rintro ⟨r1,r2⟩ s' ⟨hr,rfl,_⟩
  simp only at hr
  subst hr
  exact wpAny_pure h
end
def kind2 (prog:Program) (w:World) (sh:List Bool):HeapKind prog w (List It) where
 is:=fun h ks a=>Is2 prog w h ks a/\ks.map isT=sh
 hash:=h2H w
 draws:=dr2
 room:=fun A=>A.units+1<cLine
 inj:=fun hx hy=>hx.1.inj hy.1
 keeps:=fun x ho hd hs=>⟨x.1.keeps ho hd hs,x.2⟩
 pyHash:=fun hu hk h=>hash2 hu hk.1 h
 eqBool:=fun hu hx hy h=>eqb2 hu (hx.2.trans hy.2.symm) hx.1 hy.1 h
 quiet:=fun hk h=>quiet2 hk.1 h
def itV (K:Fg) (H:Hp):It->V->Prop
 | .inl k,v=>v=kV k
 | .inr l,v=>∃c,v=.ref c/\SqT K H c (l.map kV)
def K2 (K:Fg) (H:Hp) (ks:List It) (b:Addr):Prop:=∃vs,SqT K H b vs/\Paired (itV K H) ks vs
theorem K2.mono {H:Hp} {ks:List It} (k:K2 K H ks b) (m:∀c xs,SqT K H c xs->SqT K H' c xs):K2 K H' ks b:=by
 obtain ⟨vs,h,p⟩:=k
 refine ⟨vs,m _ _ h,?_⟩
 clear h
 induction p with
 | nil=>exact .nil
 | @cons a v l l' q _ ih=>
  refine .cons ?_ ih
  cases a with
  | inl k=>exact q
  | inr l=>obtain ⟨c,e,h⟩:=q;exact ⟨c,e,m _ _ h⟩
theorem tkey_of {H:Hp} {s:Shared} {l:List Key} {c:Addr} (I:L2.Inv X pins σ H s) (h:SqT X.K H c (l.map kV)):IsTupleKey (zBC X.prog X.w) s.heap l c:=by
 obtain ⟨its,r,⟨o,h1,h2,n,h3⟩,_⟩:=I.tuple h
 exact ⟨o,its.toArray,n,h1,h2,h3,by simpa using items_are r⟩
theorem zB4 {H:Hp} {s:Shared} {ks:List It} (I:L2.Inv X pins σ H s) (k:K2 X.K H ks b):Is2 X.prog X.w s.heap ks b:=by
 obtain ⟨vs,h,p⟩:=k
 obtain ⟨its,r,⟨o,h1,h2,n,h3⟩,_⟩:=I.tuple h
 refine ⟨o,its.toArray,n,h1,h2,h3,?_⟩
 show Its2 s.heap ks its.toArray.toList
 rw [List.toList_toArray]
 have key:∀{ks:List It} {vs:List V} {us:List Value},Paired (itV X.K H) ks vs->Vals vs us->Its2 (prog:=X.prog) (w:=X.w) s.heap ks us:=by
  intro ks vs us p
  induction p generalizing us with
  | nil=>intro r;cases r;exact .nil
  | @cons a v l l' q _ ih=>
   intro r
   cases r with
   | cons rv r=>
    cases a with
    | inl k=>
     cases (show v=kV k from q)
     exact .v (kV_is rv) (ih r)
    | inr m=>
     obtain ⟨c,e,hc⟩:=q
     subst e
     rename_i u _
     cases (show u=Value.ref c from rv)
     exact .t (tkey_of I hc) (ih r)
 exact key p r
def oD2 (P:Program) (w:World) (sh:List Bool) (a:Addr) (xs:List (List It×Addr×Value)):HO:=.ext fun h=>∃o es ep,h.get? a=some o/\o.ExactDict/\o.data=.dict es ep/\es.toList=xs.map (entryOfKey (kind2 P w sh))
abbrev KX (K:Fg) (H:Hp) (sh:List Bool):List (List It×V)->List (List It×Addr×Value)->Prop:=Paired fun p q=>p.1=q.1/\p.1.map isT=sh/\K2 K H p.1 q.2.1/\RelV p.2 q.2.2
def D2 (P:Program) (w:World) (K:Fg) (H:Hp) (sh:List Bool) (a:Addr) (kvs:List (List It×V)):Prop:=
 ∃xs,H a=some (oD2 P w sh a xs)/\KX K H sh kvs xs/\(xs.map (·.1)).Nodup/\xs.length<=1000/\(a==sysModules)=false
theorem KX.mono {H:Hp} {kvs:List (List It×V)} {xs:List (List It×Addr×Value)} (k:KX K H sh kvs xs) (m:∀c xs,SqT K H c xs->SqT K H' c xs):KX K H' sh kvs xs:=by
 induction k with
 | nil=>exact .nil
 | cons q _ ih=>exact .cons ⟨q.1,q.2.1,q.2.2.1.mono m,q.2.2.2⟩ ih
theorem KX.val {H:Hp} {kvs:List (List It×V)} {xs:List (List It×Addr×Value)} (r:KX K H sh kvs xs) (k:List It):RelO (valV kvs k) ((atKey xs k).map (·.2)):=by
 induction r with
 | nil=>exact trivial
 | @cons p q l l' h _ ih=>
  by_cases e:p.1=k
  ·rw [zD0 e]
   have:atKey (q::l') k=some q.2:=by simp [atKey,find?_cons,<-h.1,e]
   rw [this]
   exact h.2.2.2
  ·rw [zCY e]
   have:atKey (q::l') k=atKey l' k:=by
    have e':¬q.1=k:=fun z=>e (h.1.trans z)
    simp [atKey,find?_cons,e']
   rw [this]
   exact ih
theorem KX.len {H:Hp} {kvs:List (List It×V)} {xs:List (List It×Addr×Value)} (r:KX K H sh kvs xs):kvs.length=xs.length:=Paired.length r
theorem zBR {H:Hp} {s:Shared} {kvs:List (List It×V)} {xs:List (List It×Addr×Value)} (I:L2.Inv X pins σ H s) (e:H a=some (oD2 X.prog X.w sh a xs)) (r:KX X.K H sh kvs xs) (nd:(xs.map (·.1)).Nodup):s.heap.DictOfH (kind2 X.prog X.w sh) a xs:=by
 obtain ⟨⟨o,es,ep,h1,h2,h3,h4⟩,_⟩:=(show ObjOk X.prog X.w H s.heap a (oD2 X.prog X.w sh a xs) from I.hok a _ e)
 refine ⟨o,es,ep,h1,h2,h3,h4,fun x hx=>?_,nd⟩
 have all:∀{l:List (List It×V)} {m:List (List It×Addr×Value)},KX X.K H sh l m->∀x∈m,(kind2 X.prog X.w sh).is s.heap x.1 x.2.1:=by
  intro l m q
  induction q with
  | nil=>intro x hx;exact nomatch hx
  | @cons p q ps qs hq t ih=>
   intro x hx
   rcases List.mem_cons.mp hx with e | hx
   ·subst e
    exact ⟨by rw [<-hq.1];exact zB4 I hq.2.2.1,by rw [<-hq.1];exact hq.2.1⟩
   ·exact ih x hx
 exact all r x hx
theorem room2 {P:Program} {w:World} {A:Around} (hu:A.units+2<cLine):(kind2 P w sh).room A.in1:=by
 show A.in1.units+1<cLine
 simp
 omega
def zFK (P:Program) (w:World) (K:Fg) (td ty:TE):TE:=fun σ H Q=>td σ H fun x H1=>ty σ H1 fun y H2=>∃a b sh kvs ks v,x=.ref a/\y=.ref b/\D2 P w K H2 sh a kvs/\K2 K H2 ks b/\ks.map isT=sh/\valV kvs ks=some v/\Q v H2
def zD2 (P:Program) (w:World) (K:Fg) (ty td:TE):TE:=fun σ H Q=>ty σ H fun y H1=>td σ H1 fun x H2=>∃a b sh kvs ks,x=.ref a/\y=.ref b/\D2 P w K H2 sh a kvs/\K2 K H2 ks b/\ks.map isT=sh/\Q (.bl (!(valV kvs ks).isSome)) H2
def sD2Put (P:Program) (w:World) (K:Fg) (td ty tv:TE):TS:=fun D σ H=>tv σ H fun v H1=>td σ H1 fun x H2=>ty σ H2 fun y H3=>∃a b sh kvs ks,x=.ref a/\y=.ref b/\D2 P w K H3 sh a kvs/\K2 K H3 ks b/\ks.map isT=sh/\kvs.length<1000/\valV kvs ks=none /\
 ∀ob,D2 P w K (upd H3 a ob) sh a (kvs++[(ks,v)])->D.nx σ (upd H3 a ob)
def zGB (P:Program) (w:World) (K:Fg) (sh:List Bool):TE:=fun _ H Q=>∀p ob,H p=none->D2 P w K (upd H p ob) sh p []->Q (.ref p) (upd H p ob)
theorem zES {P:Program} {w:World} {H:Hp} {h:Heap} {xs:List (List It×Addr×Value)} (x:∃o es ep,h.get? a=some o/\o.ExactDict/\o.data=.dict es ep/\es.toList=xs.map (entryOfKey (kind2 P w sh))):ObjOk P w H h a (oD2 P w sh a xs):=by
 refine ⟨x,let ⟨o,_,_,ho,_⟩:=x;⟨o,ho⟩,fun h1 h2 ⟨o,es,ep,ho,r⟩ k=>⟨o,es,ep,k o ho,r⟩⟩
section
variable {X:Cx} {o i e value:Expr} {pos pos' tpos:Pos} {td ty tv:TE}
theorem zE7 (hu:X.A.units+2<cLine) (ho:PE X o td) (hi:PE X i ty) (hs:NoSl i):PE X (.Subscript o i pos) (zFK X.prog X.w X.K td ty):=by
 intro pins s σ H Q I h
 refine subD_of PySem.F.slot_dict_getitem.lookup hs (thn (ho pins s σ H _ I h) fun u s1 ⟨x,H1,I1,rx,q1⟩=>thn (hi pins s1 σ H1 _ I1 q1) fun iv s2 ⟨y,H2,I2,ry,a,b,sh,kvs,ks,v,ex,ey,⟨xs,e,r,nd,hz,hd⟩,k,hsh,hv,q2⟩=>?_)
 subst ex ey
 obtain rfl:u=Value.ref a:=rx
 obtain rfl:iv=Value.ref b:=ry
 have dd:=zBR I2 e r nd
 refine ⟨dd.typeIs,?_⟩
 obtain ⟨w',hw,rw'⟩:=RelO.some_of (v:=v) (o:=(atKey xs ks).map (·.2)) (by rw [<-hv];exact r.val ks)
 obtain ⟨p,hp,hp2⟩:=Option.map_eq_some_iff.mp hw
 refine wpAny_getItem_heap (room2 hu) ⟨zB4 I2 k,hsh⟩ dd hp ?_
 rw [hp2]
 exact ⟨v,H2,I2.tok _,rw',q2⟩
theorem pc_d2notin (hu:X.A.units+2<cLine) (hi:PE X i ty) (ho:PE X o td):PC X .NotIn i o (zD2 X.prog X.w X.K ty td):=by
 intro pins s σ H Q I h
 refine thn (hi pins s σ H _ I h) fun iv s1 ⟨y,H1,I1,ry,q1⟩=>thn (ho pins s1 σ H1 _ I1 q1) fun u s2 ⟨x,H2,I2,rx,a,b,sh,kvs,ks,ex,ey,⟨xs,e,r,nd,hz,hd⟩,k,hsh,q2⟩=>?_
 subst ex ey
 obtain rfl:u=Value.ref a:=rx
 obtain rfl:iv=Value.ref b:=ry
 have dd:=zBR I2 e r nd
 refine wpAny_notIn_heap (room2 hu) ⟨zB4 I2 k,hsh⟩ hd dd ?_
 have q:=(r.val ks).isSome_eq
 rw [Option.isSome_map] at q
 rw [<-q]
 exact ⟨.bl (!(valV kvs ks).isSome),H2,I2.tok _,rfl,q2⟩
theorem ps_d2put (hu:X.A.units+2<cLine) (ho:PE X o td) (hi:PE X i ty) (hv:PE X value tv) (hs:swapsWith value (some (.Subscript o i pos')) pos.line X.env=pure false) :
  PS X (.Assign [.Subscript o i pos'] value pos) (sD2Put X.prog X.w X.K td ty tv):=by
 intro pins s σ H D I h
 refine wpAny_Assign_Subscript (thn (hv pins s σ H _ I h) fun r s1 ⟨v,H1,I1,rv,q1⟩=>thn (ho pins s1 σ H1 _ I1 q1) fun u s2 ⟨x,H2,I2,rx,q2⟩=>thn (hi pins s2 σ H2 _ I2 q2) fun iv s3 ⟨y,H3,I3,ry,a,b,sh,kvs,ks,ex,ey,⟨xs,e,rr,nd,hz,hd⟩,k,hsh,hl,hn,q3⟩=>?_) hs
 subst ex ey
 obtain rfl:u=Value.ref a:=rx
 obtain rfl:iv=Value.ref b:=ry
 have dd:=zBR I3 e rr nd
 have hb:(1000:Nat)<=sizeLine:=by decide
 have hat:atKey xs ks=none:=by
  have q:=(rr.val ks).isSome_eq
  rw [hn,Option.isSome_map] at q
  cases z:atKey xs ks with
  | none=>rfl
  | some _=>rw [z] at q;cases q
 refine wpAny_setItem_heap (hsz:=by omega) (room2 hu) ⟨zB4 I3 k,hsh⟩ dd fun h' dd' hs'=>?_
 rw [storedH_new hat] at dd'
 obtain ⟨q,es,ep,hq,h2,h3,h4,_,h5⟩:=dd'
 have m:∀c ys,SqT X.K H3 c ys->SqT X.K (upd H3 a (oD2 X.prog X.w sh a (xs++[(ks,b,r)]))) c ys:=fun c ys hc=>by
  rcases hc with hc | hc
  ·left
   rcases hc with hc | ⟨o',hc⟩
   ·exact .inl (by rw [zAI (fun z=>by subst z;rw [e] at hc;cases hc)];exact hc)
   ·exact .inr ⟨o',by rw [zAI (fun z=>by subst z;rw [e] at hc;cases hc)];exact hc⟩
  ·exact .inr hc
 have I4:=zFH (t':=s3.toks+(kind2 X.prog X.w sh).draws ks) (ob:=oD2 X.prog X.w sh a (xs++[(ks,b,r)])) I3 (by rw [e];exact True.intro) hs' ⟨q,hq⟩ (zES ⟨q,es,ep,hq,h2,h3,h4⟩)
 refine ⟨σ,_,I4,q3 _ ⟨xs++[(ks,b,r)],zAF,?_,h5,?_,hd⟩⟩
 ·exact Paired.snoc (rr.mono m) ⟨rfl,hsh,k.mono m,rv⟩
 ·rw [length_append,length_singleton,<-rr.len]
  omega
theorem zE6 (sh:List Bool):PE X (.Dict [] [] pos) (zGB X.prog X.w X.K sh):=fun pins s σ H Q I h=>by
 have hp:=I.hok.fresh (Nat.le_refl s.heap.objs.size)
 refine wpAny_Dict_empty ⟨.ref s.heap.objs.size,_,I.laid (a:=s.heap.objs.size) (o:=oD2 X.prog X.w sh s.heap.objs.size []) (t':=s.toks) (fun _ _ q=>Heap.get?_push_of_some _ q) (Nat.le_refl _) (zES ⟨_,#[],0,Heap.get?_push_size _ rfl,⟨rfl,rfl,rfl⟩,rfl,rfl⟩),rfl,h _ _ hp ⟨[],zAF,.nil,nodup_nil,by simp,beq_eq_false_iff_ne.mpr (Ne.symm (Nat.ne_of_lt I.big))⟩⟩
end
theorem iteT' {A B:Bool->Hp->Prop} {H:Hp} (h:A true H):tTrue σ H fun b H=>if b=true then A b H else B b H:=by
 show (if true=true then A true H else B true H)
 rw [if_pos rfl]
 exact h
end T
namespace KC
open PySem PySem.Spec L2 T
open PyProof.Rows hiding St
variable {fb:F1}
noncomputable def d__law_twin:FS:=(sRet (eTup (eCons (zCB (eIdx (eVar 0) (eK (.int 0)))) (eCons (eComp .leaf 1 (iSeq (eIdx (eVar 0) (eK (.int 1)))) bTrue (zCB (eVar 1))) (eCons (eComp .leaf 1 (iSeq (eIdx (eVar 0) (eK (.int 2)))) bTrue (zCB (eVar 1))) eNil)))))
noncomputable def m__law_twin:List PySem.PyData->Res:=denOf 2 d__law_twin
noncomputable def d__law_like_world:FS:=(sSeq (sSet false 3 (eCall 3 m__law_world (eCons (eVar 0) (eCons (eVar 1) (eCons (eVar 2) eNil)))))
  (sSeq (sSet false 4 (eCall 2 m__law_cell_at (eCons (eVar 0) (eCons (eOp gAddI (eOp gAddI (eVar 1) (eK (.int 1))) (eVar 2)) eNil))))
  (sSeq (sIf (bOf gBool (eOp gGt (eOp gMod (eVar 4) (eK (.int 3))) (eK (.int 0)))) (sSeq (sSet false 5 (eList .leaf (eCons (eList .leaf (eCons (eK (.str "a")) eNil)) (eCons (eList .leaf (eCons (eK (.str "a")) eNil)) (eCons (eList .leaf (eCons (eK (.str "b")) eNil)) eNil)))))
  (sSet false 3 (eTup (eCons (eIdx (eVar 3) (eK (.int 0))) (eCons (eComp .leaf 6 (iR1 (eCons (eCB gLen (eCons (eIdx (eVar 3) (eK (.int 0))) eNil)) eNil)) bTrue (eIdx (eVar 5) (eCall 3 m__law_draw (eCons (eVar 4) (eCons (eVar 6) (eCons (eK (.int 3)) eNil)))))) (eCons (eIdx (eVar 3) (eK (.int 2))) eNil)))))) sNext)
  (sSeq (sIf (bOf gBool (eOp gEq (eOp gMod (eVar 4) (eK (.int 4))) (eK (.int 1)))) (sSet false 3 (eTup (eCons (eComp .leaf 6 (iR1 (eCons (eCB gLen (eCons (eIdx (eVar 3) (eK (.int 0))) eNil)) eNil)) bTrue (eOp gDiv (eCall 3 m__law_draw (eCons (eVar 4) (eCons (eOp gAddI (eK (.int 30)) (eVar 6)) (eCons (eK (.int 9)) eNil)))) (eK (.int 8)))) (eCons (eIdx (eVar 3) (eK (.int 1))) (eCons (eIdx (eVar 3) (eK (.int 2))) eNil))))) sNext)
  (sRet (eCall 1 m__law_twin (eCons (eVar 3) eNil)))))))
noncomputable def m__law_like_world:List PySem.PyData->Res:=denOf 7 d__law_like_world
open PySem.SeqAt
noncomputable def owI (w:Wd) (r:Nat):Int:=if own w 0 r then 0 else 1
section
variable {w:Wd}
theorem zGG (ok:w.Ok) {U:Ev} {i:Nat} {s:Sh} {r:Nat} (h0:U[i]?=some (some ⟨.leaf,w.enc⟩)) (hb:fb U=.ok ⟨s,rm r⟩ U) (hr:r<w.n):eIdx (eIdx (eVar i) (eK (.int 1))) fb U=.ok ⟨.leaf,txs (w.mks r)⟩ U:=by
 rw [r_idx,r_idx,zAB h0]
 simp only [Out.bind,v_k,Wd.enc,tup3,r_idT,r_at1]
 rw [hb]
 simp only [r_idL]
 rw [ok.at1 hr]
end
section
variable {w:Wd} {o:Bool} {N:List Nat} {m:Nat}
theorem zC6 (ok:w.Ok) {U:Ev} {i:Nat} {s:Sh} {r:Nat} (h0:U[i]?=some (some ⟨.leaf,w.enc⟩)) (hb:fb U=.ok ⟨s,rm r⟩ U) (hr:r<w.n):eIdx (eIdx (eVar i) (eK (.int 2))) fb U=.ok ⟨.leaf,rms (w.stp r)⟩ U:=by
 rw [r_idx,r_idx,zAB h0]
 simp only [Out.bind,v_k,Wd.enc,tup3,r_idT,r_at2]
 rw [hb]
 simp only [r_idL]
 rw [ok.at2 hr]
end
theorem den_twinQ {w:Wd} (ok:w.Ok):m__law_twin [w.enc]=.ok ⟨W3,w.enc⟩:=by
 have i0:eIdx (eVar 0) (eK (.int 0)) [some ⟨.leaf,w.enc⟩,none]=.ok ⟨.leaf,.list w.os⟩ [some ⟨.leaf,w.enc⟩,none]:=zAM (j:=0) (zAB rfl) v_k rfl rfl rfl
 have i1:eIdx (eVar 0) (eK (.int 1)) [some ⟨.leaf,w.enc⟩,none]=.ok ⟨.leaf,.list (w.m.map txs)⟩ [some ⟨.leaf,w.enc⟩,none]:=zAM (j:=1) (zAB rfl) v_k rfl rfl rfl
 have i2:eIdx (eVar 0) (eK (.int 2)) [some ⟨.leaf,w.enc⟩,none]=.ok ⟨.leaf,.list (w.s.map rms)⟩ [some ⟨.leaf,w.enc⟩,none]:=zAM (j:=2) (zAB rfl) v_k rfl rfl rfl
 have h24:=ok.h24
 have c1:eComp .leaf 1 (iSeq (eIdx (eVar 0) (eK (.int 1)))) bTrue (zCB (eVar 1)) [some ⟨.leaf,w.enc⟩,none]=.ok ⟨.lst .leaf,.list (w.m.map txs)⟩ [some ⟨.leaf,w.enc⟩,none]:=
  zBK txs w.m (fun x=>⟨.lst .leaf,txs x⟩) (st:=true) (w_seq (s:=.leaf) i1 rfl) (by simp) rfl (by rw [ok.lm];omega) fun x hx=>⟨zEY (zAB rfl) rfl,rfl⟩
 have c2:eComp .leaf 1 (iSeq (eIdx (eVar 0) (eK (.int 2)))) bTrue (zCB (eVar 1)) [some ⟨.leaf,w.enc⟩,none]=.ok ⟨.lst .leaf,.list (w.s.map rms)⟩ [some ⟨.leaf,w.enc⟩,none]:=
  zBK rms w.s (fun x=>⟨.lst .leaf,rms x⟩) (st:=true) (w_seq (s:=.leaf) i2 rfl) (by simp) rfl (by rw [ok.ls];omega) fun x hx=>⟨zEY (zAB rfl) rfl,rfl⟩
 exact rt_of (x_ret (v_tup (zAC (zEY i0 rfl) (zAC c1 (zAC c2 v_nil))) rfl rfl) rfl)
noncomputable def fewR (j:Int):D:=if j=2 then .list [.str "b"] else .list [.str "a"]
noncomputable abbrev fewD:D:=.list [.list [.str "a"],.list [.str "a"],.list [.str "b"]]
theorem few_row {j:Int}:∃xs,fewR j=.list xs/\RowS xs/\xs.length<=30/\mOk (fewR j)=true:=by
 unfold fewR
 split
 ·exact ⟨_,rfl,fun d hd=>⟨"b",List.mem_singleton.mp hd,by decide +kernel⟩,by simp,by decide +kernel⟩
 ·exact ⟨_,rfl,fun d hd=>⟨"a",List.mem_singleton.mp hd,by decide +kernel⟩,by simp,by decide +kernel⟩
noncomputable abbrev GKa (a l:Int) (xs os ms ss:List D) (c:Int) (x5:Option PV):Ev:=[some ⟨.leaf,.list xs⟩,some ⟨.leaf,.int a⟩,some ⟨.leaf,.int l⟩,some ⟨.leaf,tup3 os ms ss⟩,some ⟨.leaf,.int c⟩,x5,none]
theorem den_likeA {xs:List D} (hx:RowI xs) {a l:Int} (ha:0<=a) (hl:1<=l) (hl2:l<=24):∃w:Wd,w.Ok/\(w.n:Int)<=l/\m__law_like_world [.list xs,.int a,.int l]=.ok ⟨W3,w.enc⟩:=by
 obtain ⟨n,os,ms,ss,e0,g,h1,h6⟩:=den_world hx (at':=a) (lim:=l) ha hl hl2
 obtain ⟨c,hc⟩:=zCM hx (k:=a+1+l) (by omega)
 have len:∀(os ms ss:List D) (x5:Option PV),os.length=n->eCB gLen (eCons (eIdx (eVar 3) (eK (.int 0))) eNil) (GKa a l xs os ms ss c x5)=.ok ⟨.leaf,.int (n:Int)⟩ (GKa a l xs os ms ss c x5):=fun os ms ss x5 h=>v_cb (zAC (zAM (j:=0) (s2:=.leaf) (zAB rfl) v_k rfl rfl rfl) v_nil) (by simp [h])
 have st1:∃ms' x5,Gw (n:Int) n os ms' ss/\sIf (bOf gBool (eOp gGt (eOp gMod (eVar 4) (eK (.int 3))) (eK (.int 0)))) (sSeq (sSet false 5 (eList .leaf (eCons (eList .leaf (eCons (eK (.str "a")) eNil)) (eCons (eList .leaf (eCons (eK (.str "a")) eNil)) (eCons (eList .leaf (eCons (eK (.str "b")) eNil)) eNil)))))
  (sSet false 3 (eTup (eCons (eIdx (eVar 3) (eK (.int 0))) (eCons (eComp .leaf 6 (iR1 (eCons (eCB gLen (eCons (eIdx (eVar 3) (eK (.int 0))) eNil)) eNil)) bTrue (eIdx (eVar 5) (eCall 3 m__law_draw (eCons (eVar 4) (eCons (eVar 6) (eCons (eK (.int 3)) eNil)))))) (eCons (eIdx (eVar 3) (eK (.int 2))) eNil)))))) sNext (GKa a l xs os ms ss c none)=.nx (GKa a l xs os ms' ss c x5):=by
  have t:bOf gBool (eOp gGt (eOp gMod (eVar 4) (eK (.int 3))) (eK (.int 0))) (GKa a l xs os ms ss c none)=.ok (decide ((0:Int)<c % 3)) (GKa a l xs os ms ss c none):=zAK (s:=.leaf) (v_op (v_op (zAB rfl) v_k (mod_i (by omega))) v_k rfl)
  cases q:decide ((0:Int)<c % 3) with
  | false=>
   rw [q] at t
   exact ⟨ms,none,g,x_if t nofun fun _=>rfl⟩
  | true=>
   rw [q] at t
   have cm:eComp .leaf 6 (iR1 (eCons (eCB gLen (eCons (eIdx (eVar 3) (eK (.int 0))) eNil)) eNil)) bTrue (eIdx (eVar 5) (eCall 3 m__law_draw (eCons (eVar 4) (eCons (eVar 6) (eCons (eK (.int 3)) eNil))))) (GKa a l xs os ms ss c (some ⟨.leaf,fewD⟩))=.ok ⟨.lst .leaf,.list ((List.range n).map fun r:Nat=>fewR (drw c (r:Int) 3))⟩ (GKa a l xs os ms ss c (some ⟨.leaf,fewD⟩)):=by
    refine zBK rm (List.range n) (fun r=>⟨.leaf,fewR (drw c (r:Int) 3)⟩) (st:=true) (R1_of (s:=.leaf) (n:=n) (by omega) (zAC (len os ms ss _ g.lo) v_nil)) (by simp) rfl (by simp;omega) fun r hr=>⟨?_,rfl⟩
    have hr:=List.mem_range.mp hr
    have d:=zDT (c:=c) (k:=(r:Int)) (b:=3) (by omega) (by omega) (by omega) (by omega)
    have i:=zGK (c:=c) (k:=(r:Int)) (b:=3) (by omega) (by omega) (by omega) (by omega)
    have cl:=zAQ (n:=3) (fl:=eCons (eVar 4) (eCons (eVar 6) (eCons (eK (.int 3)) eNil))) (U:=(GKa a l xs os ms ss c (some ⟨.leaf,fewD⟩)).set 6 (some ⟨.leaf,rm r⟩)) (zAC (zAB (i:=4) rfl) (zAC (zAB (i:=6) rfl) (zAC v_k v_nil))) d rfl rfl
    generalize drw c (r:Int) 3=z at cl i
    rcases (by omega:z=0\/z=1\/z=2) with rfl | rfl | rfl
    ·exact zB0 (j:=0) (zAB (i:=5) rfl) cl rfl rfl rfl
    ·exact zB0 (j:=1) (zAB (i:=5) rfl) cl rfl rfl rfl
    ·exact zB0 (j:=2) (zAB (i:=5) rfl) cl rfl rfl rfl
   refine ⟨(List.range n).map fun r:Nat=>fewR (drw c (r:Int) 3),some ⟨.leaf,fewD⟩,⟨g.lo,by simp,g.ls,g.o,fun a ha=>?_,g.s⟩,x_if t (fun _=>x_seq (zA1 (zBZ (s:=.leaf) (zAC (zBZ (s:=.leaf) (zAC v_k v_nil) rfl rfl rfl) (zAC (zBZ (s:=.leaf) (zAC v_k v_nil) rfl rfl rfl) (zAC (zBZ (s:=.leaf) (zAC v_k v_nil) rfl rfl rfl) v_nil))) rfl rfl rfl) rfl (by simp)) (zA1 (v_tup (zAC (zAM (j:=0) (s2:=.leaf) (zAB rfl) v_k rfl rfl rfl) (zAC cm (zAC (zAM (j:=2) (s2:=.leaf) (zAB rfl) v_k rfl rfl rfl) v_nil))) rfl rfl) rfl (by simp))) nofun⟩
   obtain ⟨r,_,rfl⟩:=List.mem_map.mp ha
   exact few_row
 obtain ⟨ms1,x5,g1,e1⟩:=st1
 have st2:∃os',Gw (n:Int) n os' ms1 ss/\sIf (bOf gBool (eOp gEq (eOp gMod (eVar 4) (eK (.int 4))) (eK (.int 1)))) (sSet false 3 (eTup (eCons (eComp .leaf 6 (iR1 (eCons (eCB gLen (eCons (eIdx (eVar 3) (eK (.int 0))) eNil)) eNil)) bTrue (eOp gDiv (eCall 3 m__law_draw (eCons (eVar 4) (eCons (eOp gAddI (eK (.int 30)) (eVar 6)) (eCons (eK (.int 9)) eNil)))) (eK (.int 8)))) (eCons (eIdx (eVar 3) (eK (.int 1))) (eCons (eIdx (eVar 3) (eK (.int 2))) eNil))))) sNext (GKa a l xs os ms1 ss c x5)=.nx (GKa a l xs os' ms1 ss c x5):=by
  have t:bOf gBool (eOp gEq (eOp gMod (eVar 4) (eK (.int 4))) (eK (.int 1))) (GKa a l xs os ms1 ss c x5)=.ok (c % 4==1) (GKa a l xs os ms1 ss c x5):=zAK (s:=.leaf) (v_op (v_op (zAB rfl) v_k (mod_i (by omega))) v_k KC.eq_int)
  cases q:(c % 4==1) with
  | false=>
   rw [q] at t
   exact ⟨os,g1,x_if t nofun fun _=>rfl⟩
  | true=>
   rw [q] at t
   have cm:eComp .leaf 6 (iR1 (eCons (eCB gLen (eCons (eIdx (eVar 3) (eK (.int 0))) eNil)) eNil)) bTrue (eOp gDiv (eCall 3 m__law_draw (eCons (eVar 4) (eCons (eOp gAddI (eK (.int 30)) (eVar 6)) (eCons (eK (.int 9)) eNil)))) (eK (.int 8))) (GKa a l xs os ms1 ss c x5)=.ok ⟨.lst .leaf,.list ((List.range n).map fun r:Nat=>PyData.int (drw c (30+(r:Int)) 9 / 8))⟩ (GKa a l xs os ms1 ss c x5):=by
    refine zBK rm (List.range n) (fun r=>⟨.leaf,.int (drw c (30+(r:Int)) 9 / 8)⟩) (st:=true) (R1_of (s:=.leaf) (n:=n) (by omega) (zAC (len os ms1 ss _ g1.lo) v_nil)) (by simp) rfl (by simp;omega) fun r hr=>⟨?_,rfl⟩
    have hr:=List.mem_range.mp hr
    exact v_op (zAQ (zAC (zAB (i:=4) rfl) (zAC (v_op v_k (zAB (i:=6) rfl) zA7) (zAC v_k v_nil))) (zDT (c:=c) (k:=30+(r:Int)) (b:=9) (by omega) (by omega) (by omega) (by omega)) rfl rfl) v_k (div_i (by omega) (by omega))
   refine ⟨(List.range n).map fun r:Nat=>PyData.int (drw c (30+(r:Int)) 9 / 8),⟨by simp,g1.lm,g1.ls,fun a ha=>?_,g1.m,g1.s⟩,x_if t (fun _=>zA1 (v_tup (zAC cm (zAC (zAM (j:=1) (s2:=.leaf) (zAB rfl) v_k rfl rfl rfl) (zAC (zAM (j:=2) (s2:=.leaf) (zAB rfl) v_k rfl rfl rfl) v_nil))) rfl rfl) rfl (by simp)) nofun⟩
   obtain ⟨r,hr,rfl⟩:=List.mem_map.mp ha
   have hr:=List.mem_range.mp hr
   have i:=zGK (c:=c) (k:=30+(r:Int)) (b:=9) (by omega) (by omega) (by omega) (by omega)
   rcases (by omega:drw c (30+(r:Int)) 9 / 8=0\/drw c (30+(r:Int)) 9 / 8=1) with e | e
   ·exact .inl (by rw [e])
   ·exact .inr (by rw [e])
 obtain ⟨os2,g2,e2⟩:=st2
 obtain ⟨w,ok,ew,en⟩:=to_wd g2 h1 (by omega)
 refine ⟨w,ok,by rw [en];exact h6,?_⟩
 have eT:=den_twinQ ok
 rw [ew] at eT ⊢
 exact rt_of (x_seq (zA1 (zAQ (zAC (zAB rfl) (zAC (zAB rfl) (zAC (zAB rfl) v_nil))) e0 rfl rfl) rfl (by simp [zAO])) (x_seq (U1:=GKa a l xs os ms ss c none) (zA1 (zAQ (zAC (zAB rfl) (zAC (v_op (v_op (zAB rfl) v_k zA7) (zAB rfl) zA7) v_nil)) hc rfl rfl) rfl (by simp [zAO])) (x_seq e1 (x_seq e2 (x_ret (zAQ (zAC (zAB (i:=3) rfl) v_nil) eT rfl rfl) rfl)))))
end KC
namespace T
open PySem PySem.Spec L2
open PyProof.Rows hiding St
def isLL:Sh->Bool
 | .lst .leaf=>true
 | _=>false
theorem zFE {s:Sh} (h:isLL s=true):s=.lst .leaf:=by
 unfold isLL at h
 split at h
 ·rfl
 ·cases h
def eSlV (fa fb:F1):F1:=eBind fa fun p=>eBind fb fun q=>fun U=>match p.d,q.d with
 | .tuple xs,.int k=>if decide (0<=k)&&decide (k<xs.length)&&(xs.take k.toNat).all scalD then .ok ⟨.leaf,.tuple (xs.take k.toNat)⟩ U else .no
 | _,_=>.no
section
variable {K:Fg} {W:XW} {σ:St} {H:Hp} {Q:VK} {fa fb:F1}
theorem rep_any {H':Hp} {v:V} {d:PySem.PyData} (h:Rep K H v d) (s:scalD d=true):Rep K H' v d:=(h.sc s).rep
theorem rd_slV (h:tE K W (eSlV fa fb) σ H Q):tSl (rSlT K) (tE K W fa) tNoPart (tPart (tE K W fb)) σ H Q:=by
 refine zGA (R:=fun v u H2=>∃i,u=.int i/\rSlT K v none (some i) H2 Q) h fun He O Fs U2 p q v u H1 H2 G1 G2 Fs2 nd s1 s2 E new o1 o2 w=>?_
 obtain ⟨s,d⟩:=p
 obtain ⟨s',d'⟩:=q
 dsimp only at w o1 o2
 split at w
 ·rename_i xs k
  cases hc:(decide (0<=k)&&decide (k<xs.length)&&(xs.take k.toNat).all scalD) with
  | false=>rw [hc] at w;exact w.elim
  | true=>
   rw [hc] at w
   simp only [Bool.and_eq_true,decide_eq_true_eq] at hc
   obtain ⟨⟨h1,h2⟩,h3⟩:=hc
   have E1:=E.drop (fun a ha=>mem_append_right _ (mem_append_right _ ha)) nd
   have nw:∀a∈Fs2.flatten,a∈Fs.flatten\/H a=none:=fun a ha=>new a (mem_append_right _ (mem_append_right _ ha))
   have r1:=o1.rep
   have ru:=o2.rep
   cases ru
   refine ⟨k,rfl,?_⟩
   cases r1 with
   | @tup a vs _ hq hl hr=>
    have ek:k=((k.toNat:Nat):Int):=by omega
    refine ⟨a,vs,rfl,hq,fun z=>?_,fun p' hp'=>?_⟩
    ·have z1:=z.2
     rw [ek,HT.sIx_nat] at z1
     omega
    ·have ec:cutV vs none (some k)=vs.take k.toNat:=by
      unfold cutV
      rw [ek,HT.sIx_nat,HT.sIx_none,Int.toNat_natCast,List.drop_zero,Nat.sub_zero,Nat.min_eq_left (by omega)]
     rw [ec]
     have tk:=Reps.take k.toNat (show Reps K H2 vs xs from ⟨hl,hr⟩)
     exact w _ _ _ _ (leafTup E1 (s1.trans s2) nw ⟨tk.1,fun i v d e1 e2=>rep_any (tk.2 i v d e1 e2) (List.all_eq_true.mp h3 d (mem_of_getElem? e2))⟩ hp')
 ·exact w.elim
theorem v_slV {U:Ev} {s s':Sh} {xs:List PySem.PyData} {k:Nat} (ha:fa U=.ok ⟨s,.tuple xs⟩ U) (hb:fb U=.ok ⟨s',.int (k:Int)⟩ U) (hk:k<xs.length) (hs:(xs.take k).all scalD=true):eSlV fa fb U=.ok ⟨.leaf,.tuple (xs.take k)⟩ U:=by
 unfold eSlV eBind
 rw [ha]
 simp only [Out.bind]
 rw [hb]
 simp only [Int.toNat_natCast,hs,Bool.and_true]
 rw [if_pos (by simp [hk])]
end
end T
namespace TQ
open PySem PySem.Spec L2 T
open PyProof.Rows hiding St
theorem w_ce_slV {X:Cx} {W:XW} {fa fb:F1} {a b:Expr} {p2 pos:Pos} (ha:Q (PE X a (tE X.K W fa))) (hb:Q (PE X b (tE X.K W fb))):Q (PE X (.Subscript a (.Slice none (some b) none p2) pos) (tE X.K W (eSlV fa fb))):=⟨have ha:=ha.p;have hb:=hb.p;PEimp (pe_slice sl_tup ha po_none (po_some hb)) fun _ _ _=>rd_slV⟩
end TQ
namespace T
open PySem PySem.Spec L2
open PyProof.Rows hiding St
variable {x:Str} {fd:FuncData} {N ps:List Str} {K:Fg}
def agr (L:List Nat) (σ σ':St):Prop:=∀i∈L,σ'[i]?=σ[i]?
def nD (L:List Nat) (D:Ends) (σ:St):Ends:={ D with nx:=fun σ' H'=>agr L σ σ'->D.nx σ' H' }
def tN (L:List Nat) (K:Fg) (W:XW) (g:FS):TS:=fun D σ H=>tS K W g (nD L D σ) σ H
section
variable {K:Fg} {W:XW} {σ:St} {H:Hp} {D:Ends} {fa fb fk:F1} {g g1 g2:FS} {c:FB} {L:List Nat}
theorem agr_set {i:Nat} {x:Option V} (h:i∉L):agr L σ (σ.set i x):=fun j hj=>getElem?_set_ne (fun z:i=j=>h (by rw [z];exact hj))
theorem nD_self:(nD L D σ).nx σ=D.nx σ:=funext fun _=>propext ⟨fun h=>h fun _ _=>rfl,fun h _=>h⟩
theorem nraw {R:(Hp->Prop)->Prop} (h:R ((nD L D σ).nx σ)):R (D.nx σ):=nD_self (L:=L) (D:=D) (σ:=σ)▸h
theorem tS_mono {D':Ends} (h:tS K W g D σ H) (h1:∀σ' H',D.nx σ' H'->D'.nx σ' H') (h2:D'.rt=D.rt) (h3:D'.bk=D.bk) (h4:D'.ct=D.ct):tS K W g D' σ H:=by
 obtain ⟨He,O,Fs,U,E,h⟩:=h
 refine ⟨He,O,Fs,U,E,?_⟩
 cases e:g U with
 | nx U'=>rw [e] at h;exact fun σ' H' Fs' E'=>h1 _ _ (h σ' H' Fs' E')
 | bk U'=>rw [e] at h;exact fun σ' H' Fs' E'=>by rw [h3];exact h σ' H' Fs' E'
 | ct U'=>rw [e] at h;exact fun σ' H' Fs' E'=>by rw [h4];exact h σ' H' Fs' E'
 | rt p=>rw [e] at h;exact fun v H' G r=>by rw [h2];exact h v H' G r
 | er c U'=>rw [e] at h;exact h
 | no=>rw [e] at h;exact h
theorem nD_agr {σ1:St} (h:agr L σ σ1):nD L D σ1=nD L D σ:=by
 unfold nD
 congr 1
 funext σ' H'
 have:agr L σ1 σ'↔agr L σ σ':=⟨fun z i hi=>(z i hi).trans (h i hi),fun z i hi=>(z i hi).trans (h i hi).symm⟩
 rw [propext this]
theorem rd_seqN (h:tN L K W (sSeq g1 g2) D σ H):tSeq (tN L K W g1) (tN L K W g2) D σ H:=by
 have h:=rd_seq h
 refine tS_mono (D':=nD L { D with nx:=tN L K W g2 D } σ) h (fun σ1 H1 z a=>?_) rfl rfl rfl
 show tS K W g2 (nD L D σ1) σ1 H1
 rw [nD_agr a]
 exact z
theorem rd_nextN (h:tN L K W sNext D σ H):tNext D σ H:=nraw (L:=L) (R:=fun P=>P H) (rd_next h)
theorem rd_ifN (h:tN L K W (sIf c g1 g2) D σ H):tIfS (tT K W c) (tN L K W g1) (tN L K W g2) D σ H:=rd_ifS h
theorem rd_setN {own:Bool} {i:Nat} (hi:i∉L) (h:tN L K W (sSet own i fa) D σ H):tAsg (tE K W fa) (L2.gName i) D σ H:=by
 have h:tE K W fa σ H fun v H1=>(nD L D σ).nx (σ.set i (some v)) H1:=zGS h
 have e:(fun v H1=>(nD L D σ).nx (σ.set i (some v)) H1)=fun v H1=>D.nx (σ.set i (some v)) H1:=funext fun v=>funext fun H1=>propext ⟨fun z=>z (agr_set hi),fun z _=>z⟩
 rw [e] at h
 exact h
theorem rd_setIN {i:Nat} (h:tN L K W (sSetI i fa fb) D σ H):tAsg (tE K W fa) (L2.gSub (tVar i) (tE K W fb) rSetL) D σ H:=
 nraw (L:=L) (R:=fun P=>tE K W fa σ H fun x H1=>tVar i σ H1 fun o H1=>tE K W fb σ H1 fun i H2=>rSetL o i x H2 fun H3=>P H3) (rd_setI h)
end
def zGC:Sh->Sh->Bool
 | .leaf,.leaf=>true
 | .lst s,.lst t=>isLL (.lst s)&&isLL (.lst t)
 | .tup ss,.tup ts=>ss.all isLL&&ts.all isLL&&decide (ss.length=ts.length)
 | _,_=>false
theorem allLL:∀{ss ts:List Sh},ss.all isLL=true->ts.all isLL=true->ss.length=ts.length->ss=ts
 | [],[],_,_,_=>rfl
 | s::ss,t::ts,h1,h2,h3=>by
  simp only [List.all_cons,Bool.and_eq_true] at h1 h2
  rw [zFE h1.1,zFE h2.1,allLL h1.2 h2.2 (by simpa using h3)]
 | [],_::_,_,_,h=>by cases h
 | _::_,[],_,_,h=>by cases h
theorem sameSh_eq {s t:Sh} (h:zGC s t=true):s=t:=by
 unfold zGC at h
 split at h
 ·rfl
 ·simp only [Bool.and_eq_true] at h
  rw [zFE h.1,zFE h.2]
 ·simp only [Bool.and_eq_true,decide_eq_true_eq] at h
  rw [allLL h.1.1 h.1.2 h.2]
 ·cases h
def outN:List Sh->Ev->Option (List PySem.PyData)
 | [],_=>some []
 | s::ss,some p::U=>if zGC p.s s then (outN ss U).map (p.d :: ·) else none
 | _,_=>none
theorem outN_get:∀{ss:List Sh} {U:Ev} {ds:List PySem.PyData},outN ss U=some ds->ds.length=ss.length/\ss.length<=U.length/\∀(i:Nat) s d,ss[i]?=some s->ds[i]?=some d->U[i]?=some (some ⟨s,d⟩)
 | [],U,ds,h=>by
  cases h
  exact ⟨rfl,Nat.zero_le _,fun i s d e=>by simp at e⟩
 | s::ss,[],ds,h=>by cases h
 | s::ss,none::U,ds,h=>by cases h
 | s::ss,some p::U,ds,h=>by
  unfold outN at h
  cases hs:zGC p.s s with
  | false=>rw [hs] at h;cases h
  | true=>
   rw [hs] at h
   simp only [if_true] at h
   cases e:outN ss U with
   | none=>rw [e] at h;cases h
   | some ds'=>
    rw [e] at h
    cases h
    obtain ⟨a,b,c⟩:=outN_get e
    refine ⟨by simp [a],by simpa using b,fun i s' d e1 e2=>?_⟩
    cases i with
    | zero=>
     simp at e1 e2
     subst e1 e2
     have:=sameSh_eq hs
     obtain ⟨ps,pd⟩:=p
     cases this
     rfl
    | succ i=>simpa using c i s' d (by simpa using e1) (by simpa using e2)
def denL (n:Nat) (ss:List Sh) (g:FS) (ds:List PySem.PyData):Option (List PySem.PyData):=match g (zDW n ss ds) with
 | .nx U=>outN ss U
 | _=>none
structure LentOk (K:Fg) (He:Hp) (O:List Addr) (ss:List Sh) (vs:List V) (ds:List PySem.PyData) (H:Hp) (Gs:List (List Addr)):Prop where
 same:Same He H
 lg:Gs.length=ss.length
 ld:ds.length=ss.length
 nd:Gs.flatten.Nodup
 inH:∀a∈Gs.flatten,H a≠none
 fresh:∀a∈Gs.flatten,He a=none
 own:∀(i:Nat) v d G s,vs[i]?=some v->ds[i]?=some d->Gs[i]?=some G->ss[i]?=some s->Own K (Gs.flatten++O) H s G v d
def spL (K:Fg) (ss:List Sh) (den:List PySem.PyData->Option (List PySem.PyData)):Sp:=fun vs H Q _=>vs.length=ss.length/\∃(O:List Addr) (Gs:List (List Addr)) (ds:List PySem.PyData),(Gs.flatten++O).Nodup/\(∀a∈Gs.flatten++O,H a≠none)/\Gs.length=ss.length/\ds.length=ss.length/\(∀s∈ss,s.isView=false) /\
 (∀(i:Nat) v d G s,vs[i]?=some v->ds[i]?=some d->Gs[i]?=some G->ss[i]?=some s->Own K (Gs.flatten++O) H s G v d)/\match den ds with
 | some ds'=>∀H' Gs',LentOk K (hid H Gs.flatten) O ss vs ds' H' Gs'->Q .non H'
 | none=>False
section
variable {P:Program} {w:World} {K:Fg} {mg:Str->Option Value} {base:Heap}
theorem flat_take:∀{Fs:List (List Addr)} {n:Nat},(Fs.take n).flatten.Sublist Fs.flatten
 | [],n=>by rw [List.take_nil];exact List.Sublist.refl _
 | F::Fs,0=>List.nil_sublist _
 | F::Fs,n+1=>by
  rw [List.take_succ_cons,flatten_cons,flatten_cons]
  exact List.Sublist.append (List.Sublist.refl _) flat_take
theorem fn_denL {qual:Str} {st:Stmt} {f:Addr} {k:Nat} {g:FS} {ss:List Sh} (F:Fun K x qual st f fd) (S:FnScope N ps (zAH st)) (hss:ss.length=ps.length)
  (hb:∀(cdv:Value) (A:Around) (outer:List Env) (s:Shared) (H:Hp) (E:XK),Room k (A.deeper (envOfC qual (zAH st) s.heap.objs.size f cdv)) ->
   PSs (cxOf CX0 P w K mg base N qual (zAH st) f cdv A outer s H E).nox (zA2 st) (tN (List.range ss.length) K W0 g)):FnOk P w K mg base CX0 (k+1) f fd ps (spL K ss (denL N.length ss g)):=by
 have hpl:ps.length<=N.length:=by have:=congrArg List.length S.pre;rw [length_take] at this;omega
 refine F.ok S (fun vs H Q E h=>by rw [h.1];exact hss) (fun cdv A outer s H vs Q E hr h=>⟨_,hb cdv A outer s H E hr,?_⟩)
 obtain ⟨hl,O,Gs,ds,nd,inH,hG,hd,nv,ow,w⟩:=h
 refine ⟨_,O,_,zDW N.length ss ds,env_startM (by omega) hl hG hd nd inH nv ow,?_⟩
 unfold denL at w
 cases e:g (zDW N.length ss ds) with
 | nx U'=>
  rw [e] at w
  dsimp only at w
  intro σ' H' Fs' E' ag
  show Q .non H'
  cases eo:outN ss U' with
  | none=>rw [eo] at w;exact w.elim
  | some ds'=>
   rw [eo] at w
   obtain ⟨b1,b2,b3⟩:=outN_get eo
   have hF:Fs'.length=U'.length:=E'.len2
   obtain ⟨m1,m2,m3⟩:=List.nodup_append.mp E'.nd
   have sub:∀a∈(Fs'.take ss.length).flatten,a∈Fs'.flatten:=fun a ha=>flat_take.subset ha
   refine w H' (Fs'.take ss.length) ⟨E'.same,by rw [length_take];omega,b1,m2.sublist flat_take,fun a ha=>E'.inH a (mem_append_right _ (sub a ha)),fun a ha=>E'.fresh a (sub a ha),fun i v d G s h1 h2 h3 h4=>?_⟩
   have hi:i<ss.length:=(List.getElem?_eq_some_iff.mp h4).1
   obtain ⟨_,u,F2,c1,c2,c3⟩:=E'.slot i ⟨s,d⟩ (b3 i s d h4 h2)
   have a1:=ag i (List.mem_range.mpr hi)
   have s1:(L2.start N vs)[i]?=some (some v):=by
    unfold L2.start
    rw [getElem?_append_left (by simp;omega),getElem?_map,h1]
    rfl
   rw [s1,c1] at a1
   cases a1
   rw [List.getElem?_take_of_lt hi,c2] at h3
   cases h3
   exact c3.mono (Same.refl _) fun a ha=>.inl (by
    rcases List.mem_append.mp ha with z | z
    ·exact mem_append_right _ (sub a z)
    ·exact mem_append_left _ z)
 | rt p=>rw [e] at w;exact w.elim
 | bk U'=>rw [e] at w;exact w.elim
 | ct U'=>rw [e] at w;exact w.elim
 | er c U'=>rw [e] at w;exact w.elim
 | no=>rw [e] at w;exact w.elim
end
def DefOkL (P:Program) (w:World) (K:Fg) (mg:Str->Option Value) (base:Heap) (j:Nat) (x:Str) (ss:List Sh) (den:List PySem.PyData->Option (List PySem.PyData)):Prop:=
 ∃(f:Addr) (fd:FuncData) (ps:List Str),FnOk P w K mg base CX0 j f fd ps (spL K ss den)/\mg x=some (.ref f)/\PySem.W.keepIn K (.ref f)=true/\Binds K fd ps []
def CalL (X:Cx) (x:Str) (ss:List Sh) (den:List PySem.PyData->Option (List PySem.PyData)):Prop:=∃(k:Nat) (f:Addr) (fd:FuncData) (ps:List Str),FnOk X.prog X.w X.K X.mg X.base CX0 k f fd ps (spL X.K ss den)/\Room k X.A/\X.mg x=some (.ref f)/\PySem.W.keepIn X.K (.ref f)=true/\Binds X.K fd ps []
theorem DefOkL.cal {X:Cx} {j k:Nat} {ss:List Sh} {den:List PySem.PyData->Option (List PySem.PyData)} (h:DefOkL X.prog X.w X.K X.mg X.base j x ss den) (hr:Room k X.A) (hj:decide (j<=k)=true):CalL X x ss den:=by
 obtain ⟨f,fd,ps,F,a,b,c⟩:=h
 exact ⟨j,f,fd,ps,F,hr.mono (of_decide_eq_true hj),a,b,c⟩
section
variable {X:Cx} {N gl:List Str} {vs cs ls lo gs:List Nat} {W:XW} {L:List Nat} {a b c e:Expr} {es:List Expr} {pos p:Pos} {fa fb fk:F1} {ga:FB} {g g1 g2:FS}
theorem ns_setI (S:Cp X N gl vs cs ls lo gs) (i:Nat) {px pos':Pos} (hi:N[i]?=some x) (hv:vs.contains i=true) (ha:PE X a (tE X.K W fa)) (hb:PE X b (tE X.K W fb))
  (hs:swapsWithSole [.Subscript (.Name x px) b pos'] a pos.line X.env=pure false) (hw:swappedStores [.Subscript (.Name x px) b pos'] a X.env=pure none)
  (h1:(assignEach [.Subscript (.Name x px) b pos'] X.env).map (·.2)=[assign (.Subscript (.Name x px) b pos') X.env])
  (has:∀v,assign (.Subscript (.Name x px) b pos') X.env v=(do
   let ov <-holding [v] (eval (.Name x px) X.env)
   let iv <-holding [v,ov] (eval b X.env)
   standAt pos'
   holding [v,ov,iv] (setItem ov iv v)
   release [v,ov,iv] [])):PS X (.Assign [.Subscript (.Name x px) b pos'] a pos) (tN L X.K W (sSetI i fa fb)):=by
 have m:=S.nm x (mem_of_getElem? hi)
 exact PSimp (ps_asg ha (pg_sub (zCD (by rw [S.hN];exact hi) (S.vis i x hi hv) m.1 m.2) hb set_list has) hs hw h1) fun _ _ _=>rd_setIN
end
abbrev zEP (x:Str) (s:Stmt) (ps:List Str) (us:List Value):Prop:=∀(kV doc pm:Value) (an:Option Addr) (cdv ct:Value),bindArgs (PySem.W.fnOf x x (zDU s) (zA2 s) (zAH s) .none kV doc pm an cdv ct) ⟨us,[]⟩=pure (ps.zip us)
abbrev zC5 (x:Str) (s:Stmt) (ps:List Str):Prop:=∀us:List Value,us.length=ps.length->zEP x s ps us
section
variable {x:Str} {s:Stmt} {p1 p2 p3 p4 p5 p6:Str}
theorem bn1 (h:∀a,zEP x s [p1] [a]:=by exact fun _ _ _ _ _ _ _=>rfl):zC5 x s [p1]:=fun us hl=>match us,hl with | [_],_=>h _
theorem bn2 (h:∀a b,zEP x s [p1,p2] [a,b]:=by exact fun _ _ _ _ _ _ _ _=>rfl):zC5 x s [p1,p2]:=fun us hl=>match us,hl with | [_,_],_=>h _ _
theorem bn3 (h:∀a b c,zEP x s [p1,p2,p3] [a,b,c]:=by exact fun _ _ _ _ _ _ _ _ _=>rfl):zC5 x s [p1,p2,p3]:=fun us hl=>match us,hl with | [_,_,_],_=>h _ _ _
theorem bn4 (h:∀a b c d,zEP x s [p1,p2,p3,p4] [a,b,c,d]:=by exact fun _ _ _ _ _ _ _ _ _ _=>rfl):zC5 x s [p1,p2,p3,p4]:=fun us hl=>match us,hl with | [_,_,_,_],_=>h _ _ _ _
theorem bn5 (h:∀a b c d e,zEP x s [p1,p2,p3,p4,p5] [a,b,c,d,e]:=by exact fun _ _ _ _ _ _ _ _ _ _ _=>rfl):zC5 x s [p1,p2,p3,p4,p5]:=fun us hl=>match us,hl with | [_,_,_,_,_],_=>h _ _ _ _ _
theorem bn6 (h:∀a b c d e f,zEP x s [p1,p2,p3,p4,p5,p6] [a,b,c,d,e,f]:=by exact fun _ _ _ _ _ _ _ _ _ _ _ _=>rfl):zC5 x s [p1,p2,p3,p4,p5,p6]:=fun us hl=>match us,hl with | [_,_,_,_,_,_],_=>h _ _ _ _ _ _
end
def Ft (K:Fg) (mg:Str->Option Value) (n:Str) (s:Stmt):Prop:=∃f fd,mg n=some (.ref f)/\Fun K n n s f fd
theorem ft {h:Heap} {mg:Str->Option Value} {n:Str} {s:Stmt} {f:Addr} {od an:Option Addr} {sl:Array (Option Value)} {oc kV dc pm cd ct:Value} (X:K.In h) (G:h.Ns mainGlobals mg) (a:PySem.W.nsIn K mainGlobals n=some (some (.ref f))) (l:K.lookup f=some ⟨oc,od,.func (PySem.W.fnOf n n (zDU s) (zA2 s) (zAH s) .none kV dc pm an cd ct),sl⟩) (c:PySem.W.codeIn K cd n=true) (k:PySem.W.keepIn K (.ref f)=true):Ft K mg n s:=⟨f,_,PySem.W.mg_of X G a,fun_mk (st:=s) l c k⟩
theorem zCT {st:Stmt} {f:Addr} (F:Fun K x x st f fd) (b:zC5 x st ps):Binds K fd ps []:=F.binds fun kV doc pm an cdv ct us hl=>b us hl kV doc pm an cdv ct
def lsOf (vs cs:List Nat):List Nat:=vs.filter fun i=>!cs.contains i
def fB (N gl ps:List Str) (vs cs gs:List Nat) (s:Stmt):Bool:=cpB N gl vs cs vs (lsOf vs cs) gs (zAH s)&&nmB N gl&&(!(zAH s).isCoroutine&&!(zAH s).isGenerator&&decide (N.take ps.length=ps)&&(ps.all fun x=>zDY (zAH s) [.local,.cell] (some x))&&((zAH s).names.all fun y=>!decide (y.2=.free)))
theorem fB_ok {gl:List Str} {vs cs gs:List Nat} {s:Stmt} (h:fB N gl ps vs cs gs s=true):cpB N gl vs cs vs (lsOf vs cs) gs (zAH s)=true/\nmB N gl=true/\FnScope N ps (zAH s):=by
 unfold fB at h
 simp only [Bool.and_eq_true,decide_eq_true_eq,all_eq_true,Bool.not_eq_true',decide_eq_false_iff_not] at h
 obtain ⟨⟨h1,h2⟩,⟨⟨⟨h3,h4⟩,h5⟩,h6⟩,h7⟩:=h
 refine ⟨h1,h2,(zG0 h1).kind,h3,h4,(nmB_ok h2).1,h5,fun x hx=>?_,h7⟩
 obtain ⟨k,hk,q⟩:=zBO (h6 x hx)
 simp only [mem_cons,not_mem_nil,or_false] at hk
 rcases hk with rfl | rfl
 ·exact .inl q
 ·exact .inr q
structure In (p:Fg->(Str->Option Value)->Prop) (X:Cx) (P:Program) (w:World) (K:Fg) (mg:Str->Option Value) (base:Heap) (k:Nat):Prop where
 e1:X.prog=P
 e2:X.w=w
 e3:X.K=K
 e4:X.mg=mg
 e5:X.base=base
 rm:Room k X.A
 pp:p K mg
section
variable {p:Fg->(Str->Option Value)->Prop} {X Y:Cx} {P:Program} {w:World} {K:Fg} {mg:Str->Option Value} {base:Heap} {j k n:Nat} {x:Str} {s:Stmt} {ps:List Str} {g:FS} {den:List PySem.PyData->Res} {ss:List Sh}
theorem In.r (I:In p X P w K mg base k):Rm X:=I.rm.units
theorem In.e (I:In p X P w K mg base k):p X.K X.mg:=by rw [I.e3,I.e4];exact I.pp
theorem In.c (I:In p X P w K mg base k) (h:DefOk P w K mg base j x n den) (hj:decide (j<=k)=true:=by first | exact rfl | exact decide_eq_true (by omega)):Cal X x n den:=by
 obtain ⟨rfl,rfl,rfl,rfl,rfl,r,_⟩:=I
 exact h.cal r hj
theorem Fx.i (F:Fx X Y) (I:In p X P w K mg base k):In p Y P w K mg base k:=⟨F.prog.trans I.e1,F.w.trans I.e2,F.K.trans I.e3,F.mg.trans I.e4,F.base.trans I.e5,by rw [F.A];exact I.rm,I.pp⟩
abbrev Bd (p:Fg->(Str->Option Value)->Prop) (P:Program) (w:World) (K:Fg) (mg:Str->Option Value) (base:Heap) (k:Nat) (N gl:List Str) (vs cs gs:List Nat) (s:Stmt) (g:FS):Prop:=∀X:Cx,Cp X N gl vs cs vs (lsOf vs cs) gs->In p X P w K mg base k->PassesOwn (model X.prog X.w) X.A X.env X.xe->TQ.Q (PSs X (zA2 s) (tS X.K W0 g))
theorem mk1 {f:Addr} (F:Fun K x x s f fd) (e:p K mg) (N gl:List Str) (vs cs gs:List Nat) (h:fB N gl ps vs cs gs s=true) (hb:Bd p P w K mg base k N gl vs cs gs s g):FnOk P w K mg base CX0 (k+1) f fd ps (spD K ps.length (denOf N.length g)):=by
 obtain ⟨h1,h2,h3⟩:=fB_ok h
 exact fn_den F h3 fun cdv A outer s H E hr=>(hb _ (Cp.fn h1 h2) ⟨rfl,rfl,rfl,rfl,rfl,hr,e⟩ PassesOwn.never).p
theorem mk (F:Ft K mg x s) (e:p K mg) (ps:List Str) (b:zC5 x s ps) (rs gl:List Str) (vs cs gs:List Nat) (hb:Bd p P w K mg base k (ps++rs) gl vs cs gs s g) (h:fB (ps++rs) gl ps vs cs gs s=true:=by kernel_rfl):DefOk P w K mg base (k+1) x ps.length (denOf (ps++rs).length g):=by
 obtain ⟨f,fd,hm,F⟩:=F
 exact ⟨f,fd,ps,mk1 F e _ gl vs cs gs h hb,hm,F.kp,zCT F b⟩
theorem mkL {fa:Addr} (F:Ft K mg x s) (e:p K mg) (q:Str) (b:zC5 x s [q]) (hfa:mg x=some (.ref fa)) (rs gl:List Str) (vs cs gs:List Nat) (hb:∀base,Bd p P w K mg base k ([q]++rs) gl vs cs gs s g) (h:fB ([q]++rs) gl [q] vs cs gs s=true:=by kernel_rfl) :
  ∃fd:FuncData,(∀(s:Shared) (v:Value),BindsTo s fd ⟨[v],[]⟩ [(q,v)])/\∀base:Heap,K.In base->base.Ns mainGlobals mg->FnOk P w K mg base CX0 (k+1) fa fd [q] (spD K 1 (denOf ([q]++rs).length g)):=by
 obtain ⟨f,fd,hm,F⟩:=F
 have e':=hfa.symm.trans hm
 cases e'
 refine ⟨fd,fun s v=>?_,fun base _ _=>mk1 F e _ gl vs cs gs h (hb base)⟩
 obtain ⟨oc,od,kV,doc,pm,an,cdv,ct,osl,rfl,lk,hcd⟩:=F.ex
 exact .of_eq (b [v] rfl kV doc pm an cdv ct)
section
variable {h:Heap} {a:Addr} {dd:Option Addr} {its:Array Value} {n:Nat} {sl:Array (Option Value)} {ds:List PySem.PyData} (KX:K.In h) (G:h.Ns mainGlobals mg)
include KX G
theorem gn (z:PySem.W.nsIn K mainGlobals x=some none):mg x=none:=PySem.W.mg_none_of KX G z
theorem gi {i:Int} {t:Tok} (z:PySem.W.nsIn K mainGlobals x=some (some (.int i t))):ConK K mg x (.int i):=con_int (PySem.W.mg_of KX G z)
theorem gt (z:PySem.W.nsIn K mainGlobals x=some (some (.ref a))) (l:K.lookup a=some ⟨.type "tuple",dd,.seq its n,sl⟩) (c:chkT its ds=true):ConK K mg x (.tuple ds):=con_tup (PySem.W.mg_of KX G z) l c
end
theorem walkG {m:List PySem.PyData->Res} {l:PySem.W.OpenLaw} {q:Program} {loose:List Str} {XP:(Str->Option Value)->Heap->Prop} {YP:World->Heap->Prop} {d:DefRec} {K:Params->Fg} (lt:∀ns:List Int,ns.length<=63->m [.list (ns.map .int)]=.ok ⟨.leaf,.bool true⟩) (hr:Room j callerA) (hn:l.most=some 63) (hdf:d.params.defaults=[])
  (hY:∀(w:World) (h:Heap),YP w h->(K w.params).In h)
  (F:∀(w:World) (mg:Str->Option Value) (fa:Addr) (h:Heap),(K w.params).In h->h.Ns mainGlobals mg->mg d.name=some (.ref fa) ->
   ∃fd:FuncData,(∀(s:Shared) (u:Value),BindsTo s fd ⟨[u],[]⟩ [("script",u)])/\∀base:Heap,(K w.params).In base->base.Ns mainGlobals mg->FnOk l.prog w (K w.params) mg base CX0 j fa fd ["script"] (spD (K w.params) 1 m)) :
  PySem.W.WalkO q loose XP YP l.row.toRowW d [] (fun f vs=>PySem.call f vs):=
 L2.walk_of (n:=63) (k:=j) (x := "script") (CX:=fun _=>CX0) (sp:=fun w=>spD (K w.params) 1 m) hn (by decide) hdf hr hY F (fun _ _ a ns hl _ hS=>law_sp (lt ns hl) hS) fun _ _ _ _ _ z=>z
end
end T
namespace TQ
open PySem PySem.Spec L2 T
open PyProof.Rows hiding St
variable {x:Str}
section
variable {X:Cx} {N gl:List Str} {vs cs ls lo gs:List Nat} {W:XW} {a b c e:Expr} {es:List Expr} {pos p:Pos} {fa fb fc:F1} {fl:FL} {ga gb:FB} {g1 g2 g:FS}
theorem u_v (S:Cp X N gl vs cs ls lo gs) (i:Nat) (hN:N[i]?=some x:=by exact rfl) (hv:vs.contains i=true:=by exact rfl):Q (PE X (.Name x pos) (tE X.K W (eVar i))):=w_cv S i hN hv
theorem u_c (ha:Q (PE X e (tE X.K W fa))) (hr:Q (PA X es (tA X.K W fl))) (hs:zDZ e=false:=by exact rfl):Q (PA X (e::es) (tA X.K W (eCons fa fl))):=w_da_cons ha hr (zAA hs)
theorem u_1 (ha:Q (PE X e (tE X.K W fa))) (hs:zDZ e=false:=by exact rfl):Q (PA X [e] (tA X.K W (eCons fa eNil))):=w_da_cons ha w_da_nil (zAA hs)
theorem u_x (ha:Q (PE X a (tE X.K W fa))) (hb:Q (PE X b (tE X.K W fb))) (hs:zFJ b:=by exact fun _ _=>rfl):Q (PE X (.Subscript a b pos) (tE X.K W (eIdx fa fb))):=w_de_idx ha hb hs
theorem u_f {n:Nat} {den:List PySem.PyData->Res} (S:Cp X N gl vs cs ls lo gs) (j:Nat) (C:Cal X x n den) (ha:Q (PA X (e::es) (tA X.K W fl))) (hj:gl[j]?=some x:=by exact rfl) (hg:gs.contains j=true:=by exact rfl) (he:zDZ e=false:=by exact rfl) (hpl:(backTo pos (starEach es X.env)).any (·.1)=false:=by exact rfl):Q (PE X (.Call (.Name x p) (e::es) [] pos) (tE X.K W (eCall n den fl))):=w_cc S j hj hg C ha (zAA he) hpl
theorem u_s (S:Cp X N gl vs cs ls lo gs) (own:Bool) (i:Nat) {pos':Pos} (ha:Q (PE X a (tE X.K W fa))) (hi:N[i]?=some x:=by exact rfl) (hl:ls.contains i=true:=by exact rfl) (hs:swapsWith a (some (.Name x pos')) pos.line X.env=pure false:=by exact rfl):Q (PS X (.Assign [.Name x pos'] a pos) (tS X.K W (sSet own i fa))):=w_cs_set S own i hi hl hs ha
theorem u_n (S:Cp X N gl vs cs ls lo gs) (j:Nat) (hm:X.mg "len"=none) (ha:Q (PA X (e::es) (tA X.K W fl))) (hj:gl[j]?=some ("len":Str):=by exact rfl) (hg:gs.contains j=true:=by exact rfl) (he:zDZ e=false:=by exact rfl) (hpl:(backTo pos (starEach es X.env)).any (·.1)=false:=by exact rfl):Q (PE X (.Call (.Name "len" p) (e::es) [] pos) (tE X.K W (eCB gLen fl))):=w_cb_len S j hj hg hm ha (zAA he) hpl
theorem u_t {op:CmpOp} {r:R2} {g:PySem.PyData->PySem.PyData->Option PySem.PyData} (k:Ck X op r g) (ha:Q (PE X a (tE X.K W fa))) (hb:Q (PE X b (tE X.K W fb))) (hm:behindInMarks op b=false:=by with_unfolding_all rfl):Q (PT X (.Compare a [op] [b] pos) (tT X.K W (bOf gBool (eOp g fa fb)))):=w_ct k ha hb hm
theorem u_e {op:CmpOp} {r:R2} {g:PySem.PyData->PySem.PyData->Option PySem.PyData} (k:Ck X op r g) (ha:Q (PE X a (tE X.K W fa))) (hb:Q (PE X b (tE X.K W fb))) (hm:behindInMarks op b=false:=by with_unfolding_all rfl):Q (PE X (.Compare a [op] [b] pos) (tE X.K W (eOp g fa fb))):=w_ce k ha hb hm
theorem u_r (ha:Q (PE X a (tE X.K W fa))):Q (PSs X [.Return (some a) pos] (tS X.K W (sRet fa))):=zA3 (w_ds_ret ha)
theorem u_o {scope:Scope} {px:Pos} {iter elt:Expr} {ifs:List Expr} {fi:FI} {fe:F1} {fc:FB} (vs' cs' gs':List Nat) (S:Cp X N gl vs cs ls lo gs) (i:Nat) (hi':Q (PI X (.Name x px) iter (tI X.K W fi))) (hc:Blk X N gl vs' cs' [i] [] gs' fun Y=>Q (PF Y ifs (tT Y.K W0 fc))) (he:Blk X N gl vs' cs' [i] [] gs' fun Y=>Q (PE Y elt (tE Y.K W0 fe))) (hx:N[i]?=some x:=by exact rfl) (h1:compB N i cs scope=true:=by kernel_rfl) (h2:cpB N gl vs' cs' [i] [] gs' scope=true:=by kernel_rfl) (hs:∀x,foldedSetIterable iter X.env x=pure x:=by exact fun _=>rfl):Q (PE X (.ListComp elt [⟨.Name x px,iter,ifs,0⟩] scope pos) (tE X.K W (eComp .leaf i fi fc fe))):=w_co S .leaf i hx h1 h2 hi' hc he hs
end
end TQ
namespace T
open PySem PySem.Spec L2
open PyProof.Rows hiding St
section
variable {X:Cx} {N gl:List Str} {vs cs ls lo gs:List Nat} {W:XW} {a:Expr} {pos:Pos} {fa:F1}
theorem cs_unpt (S:Cp X N gl vs cs ls lo gs) (i j k:Nat) {x y z:Str} {px py pz pt:Pos} {kt:Nat} (hi:N[i]?=some x) (hj:N[j]?=some y) (hk:N[k]?=some z) (li:ls.contains i=true) (lj:ls.contains j=true) (lk:ls.contains k=true) (ha:PE X a (tE X.K W fa))
  (hs:swapsWithSole [.Tuple [.Name x px,.Name y py,.Name z pz] kt pt] a pos.line X.env=pure false) (hw:swappedStores [.Tuple [.Name x px,.Name y py,.Name z pz] kt pt] a X.env=pure none) :
  PS X (.Assign [.Tuple [.Name x px,.Name y py,.Name z pz] kt pt] a pos) (tS X.K W (sUnpN [i,j,k] fa)):=by
 have hN:X.N.Nodup:=by rw [S.hN];exact S.nd
 exact PSimp (ps_asg ha (zGT S.calm (zCL (zB3 hN (by rw [S.hN];exact hi) (S.loc i x hi li).1 (S.loc i x hi li).2) (zCL (zB3 hN (by rw [S.hN];exact hj) (S.loc j y hj lj).1 (S.loc j y hj lj).2) (zCL (zB3 hN (by rw [S.hN];exact hk) (S.loc k z hk lk).1 (S.loc k z hk lk).2) zF1)))) hs hw) fun _ _ _=>rd_unpN (is:=[i,j,k])
end
end T
namespace TQ
open PySem PySem.Spec L2 T
open PyProof.Rows hiding St
variable {X:Cx} {N gl:List Str} {vs cs ls lo gs:List Nat} {W:XW} {a:Expr} {pos:Pos} {fa:F1}
theorem w_cs_unpt (S:Cp X N gl vs cs ls lo gs) (i j k:Nat) {x y z:Str} {px py pz pt:Pos} {kt:Nat} (hi:N[i]?=some x) (hj:N[j]?=some y) (hk:N[k]?=some z) (li:ls.contains i=true) (lj:ls.contains j=true) (lk:ls.contains k=true) (ha:Q (PE X a (tE X.K W fa)))
  (hs:swapsWithSole [.Tuple [.Name x px,.Name y py,.Name z pz] kt pt] a pos.line X.env=pure false) (hw:swappedStores [.Tuple [.Name x px,.Name y py,.Name z pz] kt pt] a X.env=pure none) :
  Q (PS X (.Assign [.Tuple [.Name x px,.Name y py,.Name z pz] kt pt] a pos) (tS X.K W (sUnpN [i,j,k] fa))):=⟨T.cs_unpt S i j k hi hj hk li lj lk ha.p hs hw⟩
end TQ
namespace T
open PySem PySem.Spec L2
open PyProof.Rows hiding St
section
variable {p:Fg->(Str->Option Value)->Prop} {X Y:Cx} {P:Program} {w:World} {K:Fg} {mg:Str->Option Value} {base:Heap} {j k n:Nat} {x:Str} {s:Stmt} {ps:List Str} {g:FS} {den:List PySem.PyData->Option (List PySem.PyData)} {ss:List Sh}
theorem In.l (I:In p X P w K mg base k) (h:DefOkL P w K mg base j x ss den) (hj:decide (j<=k)=true:=by first | exact rfl | exact decide_eq_true (by omega)):CalL X x ss den:=by
 obtain ⟨rfl,rfl,rfl,rfl,rfl,r,_⟩:=I
 exact h.cal r hj
abbrev BdN (L:List Nat) (p:Fg->(Str->Option Value)->Prop) (P:Program) (w:World) (K:Fg) (mg:Str->Option Value) (base:Heap) (k:Nat) (N gl:List Str) (vs cs gs:List Nat) (s:Stmt) (g:FS):Prop:=∀X:Cx,Cp X N gl vs cs vs (lsOf vs cs) gs->In p X P w K mg base k->PassesOwn (model X.prog X.w) X.A X.env X.xe->TQ.Q (PSs X (zA2 s) (tN L X.K W0 g))
theorem mkN (F:Ft K mg x s) (e:p K mg) (ps:List Str) (b:zC5 x s ps) (hss:ss.length=ps.length) (rs gl:List Str) (vs cs gs:List Nat) (hb:BdN (List.range ss.length) p P w K mg base k (ps++rs) gl vs cs gs s g) (h:fB (ps++rs) gl ps vs cs gs s=true:=by kernel_rfl):DefOkL P w K mg base (k+1) x ss (denL (ps++rs).length ss g):=by
 obtain ⟨f,fd,hm,F⟩:=F
 obtain ⟨h1,h2,h3⟩:=fB_ok h
 exact ⟨f,fd,ps,fn_denL F h3 hss fun cdv A outer s H E hr=>(hb _ (Cp.fn h1 h2) ⟨rfl,rfl,rfl,rfl,rfl,hr,e⟩ PassesOwn.never).p,hm,F.kp,zCT F b⟩
end
end T
namespace TQ
open PySem PySem.Spec L2 T
open PyProof.Rows hiding St
variable {x:Str} {pos':Pos}
section
variable {X:Cx} {N gl:List Str} {vs cs ls lo gs:List Nat} {W:XW} {L:List Nat} {a b c e:Expr} {es:List Expr} {pos p:Pos} {fa fb fk:F1} {ga:FB} {g g1 g2:FS}
theorem zC9:Q (PSs X [] (tN L X.K W sNext)):=⟨zGN zBM fun _ _ _=>rd_nextN⟩
theorem zBX {st:Stmt} {rest:List Stmt} (h1:Q (PS X st (tN L X.K W g1))) (h2:Q (PSs X rest (tN L X.K W g2))):Q (PSs X (st::rest) (tN L X.K W (sSeq g1 g2))):=⟨have h1:=h1.p;have h2:=h2.p;zGN (zAJ h1 h2) fun _ _ _=>rd_seqN⟩
theorem zCV {st:Stmt} (h1:Q (PS X st (tN L X.K W g1))):Q (PSs X [st] (tN L X.K W g1)):=⟨have h1:=h1.p;zAL h1⟩
theorem zD5 {A B:List Stmt} (hc:Q (PT X c (tT X.K W ga))) (ha:Q (PSs X A (tN L X.K W g1))) (hb:Q (PSs X B (tN L X.K W g2))):Q (PS X (.If c A B pos) (tN L X.K W (sIf ga g1 g2))):=⟨have hc:=hc.p;have ha:=ha.p;have hb:=hb.p;PSimp (ps_if hc ha hb) fun _ _ _=>rd_ifN⟩
theorem zEX (S:Cp X N gl vs cs ls lo gs) (own:Bool) (i:Nat) (hi:N[i]?=some x) (hl:ls.contains i=true) (hs:swapsWith a (some (.Name x pos')) pos.line X.env=pure false) (ha:Q (PE X a (tE X.K W fa))) (hL:L.contains i=false:=by rfl):Q (PS X (.Assign [.Name x pos'] a pos) (tN L X.K W (sSet own i fa))):=⟨have ha:=ha.p;PSimp (zDF (by rw [S.hN];exact S.nd) (by rw [S.hN];exact hi) (S.loc i x hi hl).1 ha hs (S.loc i x hi hl).2) fun _ _ _=>rd_setN fun z=>by rw [List.contains_iff_mem.mpr z] at hL;cases hL⟩
theorem w_ns_setI (S:Cp X N gl vs cs ls lo gs) (i:Nat) {px:Pos} (hi:N[i]?=some x) (hv:vs.contains i=true) (ha:Q (PE X a (tE X.K W fa))) (hb:Q (PE X b (tE X.K W fb)))
  (hs:swapsWithSole [.Subscript (.Name x px) b pos'] a pos.line X.env=pure false) (hw:swappedStores [.Subscript (.Name x px) b pos'] a X.env=pure none)
  (h1:(assignEach [.Subscript (.Name x px) b pos'] X.env).map (·.2)=[assign (.Subscript (.Name x px) b pos') X.env])
  (has:∀v,assign (.Subscript (.Name x px) b pos') X.env v=(do
   let ov <-holding [v] (eval (.Name x px) X.env)
   let iv <-holding [v,ov] (eval b X.env)
   standAt pos'
   holding [v,ov,iv] (setItem ov iv v)
   release [v,ov,iv] [])):Q (PS X (.Assign [.Subscript (.Name x px) b pos'] a pos) (tN L X.K W (sSetI i fa fb))):=⟨T.ns_setI S i hi hv ha.p hb.p hs hw h1 has⟩
end
end TQ
namespace T
open PySem PySem.Spec L2
open PyProof.Rows hiding St
variable {den:List PySem.PyData->Option (List PySem.PyData)} {x:Str} {cpos apos:Pos}
def insPK (i:Nat) (q:PV) (U:Ev):OutS:=match q.d,U[i]? with
 | .int k,some (some ⟨.lst .leaf,.list ds⟩)=>(match ds[k.toNat]? with
  | some d=>if decide (0<=k)&&decide (k<1000)&&decide (ds.length<10000) then .nx (U.set i (some ⟨.lst .leaf,.list (d::ds.eraseIdx k.toNat)⟩)) else .no
  | none=>.no)
 | _,_=>.no
def sInsP (i:Nat) (fb:F1):FS:=fun U=>if zA8 U[i]? then (match fb U with
 | .ok q U2=>insPK i q U2
 | _=>.no) else .no
theorem insPK_ok {i:Nat} {q:PV} {U:Ev}:insPK i q U=.no\/∃k ds d,q.d=.int k/\U[i]?=some (some ⟨.lst .leaf,.list ds⟩)/\ds[k.toNat]?=some d/\0<=k/\k<1000/\ds.length<10000/\insPK i q U=.nx (U.set i (some ⟨.lst .leaf,.list (d::ds.eraseIdx k.toNat)⟩)):=by
 unfold insPK
 split
 ·rename_i k ds e0 e1
  split
  ·rename_i d ed
   split
   ·rename_i hc
    rw [Bool.and_eq_true,Bool.and_eq_true,decide_eq_true_eq,decide_eq_true_eq,decide_eq_true_eq] at hc
    exact .inr ⟨k,ds,d,e0,e1,ed,hc.1.1,hc.1.2,hc.2,rfl⟩
   ·exact .inl rfl
  ·exact .inl rfl
 ·exact .inl rfl
theorem upd_upd {H:Hp} {l:Addr} {a b:HO}:upd (upd H l a) l b=upd H l b:=by
 funext c
 by_cases z:c=l
 ·rw [z,zAF,zAF]
 ·rw [zAI z,zAI z,zAI z]
section
variable {K:Fg} {W:XW} {σ:St} {H:Hp} {Q:VK} {D:Ends} {fa fb:F1} {fl:FL} {L:List Nat}
abbrev tInsP (K:Fg) (W:XW) (i:Nat) (fb:F1):TE:=tBM K "list" rInsert (tVar i) (tCons (tC (.int 0)) (tCons (tBM K "list" zFL (tVar i) (tCons (tE K W fb) tNil)) tNil))
theorem rd_insP {i:Nat} (h:tS K W (sInsP i fb) D σ H):tDrop (tInsP K W i fb) D σ H:=by
 obtain ⟨He,O,Fs,U,E,h⟩:=h
 unfold sInsP at h
 cases hc:zA8 U[i]? with
 | false=>rw [hc] at h;exact h.elim
 | true=>
  rw [hc] at h
  obtain ⟨ds0,ei⟩:=zBV hc
  obtain ⟨l,vs,h1,h2,_⟩:=E.chgF ei
  refine ⟨.ref l,h1,.inl ⟨rfl,vs,.of h2⟩,.ref l,h1,.inl ⟨rfl,vs,.of h2⟩,He,O,Fs,U,E,?_⟩
  cases e:fb U with
  | er c U'=>rw [e] at h;exact h.elim
  | no=>rw [e] at h;exact h.elim
  | ok q U2=>
   rw [e] at h
   intro y H3 G Fs3 A
   have hw:zCG K W He O D (insPK i q U2):=h
   clear h
   have E3:=A.go
   have own:=A.own
   obtain ⟨s,dd⟩:=q
   rcases insPK_ok (i:=i) (q:=⟨s,dd⟩) (U:=U2) with z | ⟨k,ds,d,ek,e1,ed,c1,c2,c3,z⟩
   ·rw [z] at hw;exact hw.elim
   ·rw [z] at hw
    cases ek
    have ey:Rep K H3 y (.int k):=own.rep
    cases ey
    obtain ⟨l',vs',a1,a2,a3,a4,a5⟩:=E3.chgF e1
    rw [h1] at a1
    cases a1
    have hlt:=(List.getElem?_eq_some_iff.mp ed).1
    have hu:vs'[k.toNat]?=some (vs'[k.toNat]'(by omega)):=getElem?_eq_getElem _
    have ru:=a4 k.toNat _ _ hu ed
    generalize vs'[k.toNat]'(by omega)=u at ru hu
    have E4:=a5 (u::vs'.eraseIdx k.toNat) (d::ds.eraseIdx k.toNat) (by rw [length_cons,length_cons,length_eraseIdx,length_eraseIdx,a3]) fun n x d' b1 b2=>by
     cases n with
     | zero=>cases b1;cases b2;exact ru
     | succ n=>
      rw [List.getElem?_cons_succ] at b1 b2
      rw [List.getElem?_eraseIdx] at b1 b2
      split at b1
      ·rename_i hn
       rw [if_pos hn] at b2
       exact a4 _ x d' b1 b2
      ·rename_i hn
       rw [if_neg hn] at b2
       exact a4 _ x d' b1 b2
    have six:seqIndex? k vs'.length=some k.toNat:=by
     have n0:¬k<0:=by omega
     have:(decide (0<=k)&&decide (k<(vs'.length:Int)))=true:=by rw [Bool.and_eq_true,decide_eq_true_eq,decide_eq_true_eq];omega
     simp only [seqIndex?,if_neg n0,this,if_true]
    have hz:(vs'.eraseIdx k.toNat).length<10000:=by rw [length_eraseIdx];split<;>omega
    refine ⟨l,vs',k,k.toNat,u,rfl,rfl,a2,?_,?_,six,hu,l,vs'.eraseIdx k.toNat,0,u,rfl,rfl,zAF,Nat.zero_le _,hz,?_⟩
    ·have:(0:Int)<=2 ^ 63:=by decide
     omega
    ·have:(1000:Int)<=2 ^ 63:=by decide
     omega
    ·rw [upd_upd]
     exact hw σ _ Fs3 E4
theorem rd_insPN {i:Nat} (h:tN L K W (sInsP i fb) D σ H):tDrop (tInsP K W i fb) D σ H:=by
 have h':=rd_insP h
 exact nraw (L:=L) (R:=fun P=>tInsP K W i fb σ H fun _ H3=>P H3) h'
theorem rd_popDN {i:Nat} (h:tN L K W (sPopD i fb) D σ H):tDrop (tBM K "list" zFL (tVar i) (tCons (tE K W fb) tNil)) D σ H:=
 nraw (L:=L) (R:=fun P=>tBM K "list" zFL (tVar i) (tCons (tE K W fb) tNil) σ H fun _ H3=>P H3) (rd_popD h)
theorem rd_appendN {i:Nat} (h:tN L K W (zAV i fa) D σ H):tDrop (tBM K "list" zDP (tVar i) (tA K W (eCons fa eNil))) D σ H:=
 nraw (L:=L) (R:=fun P=>tBM K "list" zDP (tVar i) (tA K W (eCons fa eNil)) σ H fun _ H3=>P H3) (rd_append h)
def lentK (i:Nat) (den:List PySem.PyData->Option (List PySem.PyData)) (ps:List PV) (U:Ev):OutS:=match ps,U[i]? with
 | [⟨_,.int a⟩,⟨_,.int b⟩],some (some ⟨.lst .leaf,.list ds⟩)=>(match den [.list ds,.int a,.int b] with
  | some [.list ds',_,_]=>.nx (U.set i (some ⟨.lst .leaf,.list ds'⟩))
  | _=>.no)
 | _,_=>.no
theorem lentK_ok {i:Nat} {ps:List PV} {U:Ev}:lentK i den ps U=.no\/∃s1 s2 a b ds ds' x y,ps=[⟨s1,.int a⟩,⟨s2,.int b⟩]/\U[i]?=some (some ⟨.lst .leaf,.list ds⟩)/\den [.list ds,.int a,.int b]=some [.list ds',x,y]/\lentK i den ps U=.nx (U.set i (some ⟨.lst .leaf,.list ds'⟩)):=by
 unfold lentK
 split
 ·rename_i s1 a s2 b ds e
  split
  ·rename_i ds' x y ed
   exact .inr ⟨_,_,a,b,ds,ds',x,y,rfl,e,ed,rfl⟩
  ·exact .inl rfl
 ·exact .inl rfl
def zDC (i:Nat) (fl:FL) (den:List PySem.PyData->Option (List PySem.PyData)):FS:=fun U=>if zA8 U[i]? then (match fl U with
 | .ok ps U1=>lentK i den ps U1
 | _=>.no) else .no
abbrev ssI:List Sh:=[.lst .leaf,.leaf,.leaf]
theorem leaf_nil {O G:List Addr} {v:V} {d:PySem.PyData} (o:Own K O H .leaf G v d):G=[]:=by cases o;rfl
theorem rd_lentI {i:Nat} {E:XK} (h:tS K W (zDC i fl den) D σ H):tDrop (tCall (spL K ssI den) [] E (tCons (tVar i) (tA K W fl))) D σ H:=by
 obtain ⟨He,O,Fs,U,E0,h⟩:=h
 unfold zDC at h
 cases hc:zA8 U[i]? with
 | false=>rw [hc] at h;exact h.elim
 | true=>
  rw [hc] at h
  obtain ⟨ds0,ei⟩:=zBV hc
  obtain ⟨l,vs,h1,h2,_⟩:=E0.chgF ei
  refine ⟨.ref l,h1,He,O,Fs,U,E0,?_⟩
  cases e:fl U with
  | er c U'=>rw [e] at h;exact h.elim
  | no=>rw [e] at h;exact h.elim
  | ok ps U1=>
   rw [e] at h
   intro us H1 Gs1 Fs1 A
   have hw:zCG K W He O D (lentK i den ps U1):=h
   clear h
   have E1:=A.env.dropL
   rcases lentK_ok (i:=i) (den:=den) (ps:=ps) (U:=U1) with z | ⟨s1,s2,a,b,ds,ds',x,y,rfl,e1,ed,z⟩
   ·rw [z] at hw;exact hw.elim
   rw [z] at hw
   have hw:∀σ' H' Fs',EnvOk K He O Fs' H' σ' (U1.set i (some ⟨.lst .leaf,.list ds'⟩))->D.nx σ' H':=hw
   match us,A.len1,Gs1,A.len2,A with
   | [u1,u2],_,[G1,G2],_,A=>
   have r1:=(A.own 0 u1 _ G1 rfl rfl rfl).rep
   have r2:=(A.own 1 u2 _ G2 rfl rfl rfl).rep
   cases r1
   cases r2
   obtain ⟨hv,v,F,hσ,E2,o1,sub⟩:=E1.move e1
   rw [h1] at hσ
   cases hσ
   have hi:i<U1.length:=(List.getElem?_eq_some_iff.mp e1).1
   have fr0:∀a∈F,He a=none:=fun a ha=>E1.fresh a (sub a (mem_append_left _ ha))
   have nd2:=E2.nd
   rw [append_assoc] at nd2
   have ef:([F,[],[]]:List (List Addr)).flatten=F:=by simp
   refine ⟨rfl,O++(Fs1.set i []).flatten,[F,[],[]],[.list ds,.int a,.int b],by rw [ef];exact nd2,fun c hc=>E2.inH c (by rw [ef] at hc;rw [append_assoc];exact hc),rfl,rfl,fun s hs=>by
    simp only [ssI,mem_cons,not_mem_nil,or_false] at hs
    rcases hs with rfl | rfl | rfl<;>rfl,fun n w d G s a1 a2 a3 a4=>?_,?_⟩
   ·match n,a1,a2,a3,a4 with
    | 0,a1,a2,a3,a4=>
     cases a1;cases a2;cases a3;cases a4
     rw [ef,<-append_assoc]
     exact o1
    | 1,a1,a2,a3,a4=>cases a1;cases a2;cases a3;cases a4;exact .leaf (.int _)
    | 2,a1,a2,a3,a4=>cases a1;cases a2;cases a3;cases a4;exact .leaf (.int _)
    | n+3,a1,a2,a3,a4=>cases a4
   ·rw [ed]
    intro H2 Gs2 r
    show D.nx σ H2
    rw [ef] at r
    match Gs2,r.lg,r with
    | [K0,K1,K2],_,r=>
    have n1:=leaf_nil (r.own 1 _ _ K1 _ rfl rfl rfl rfl)
    have n2:=leaf_nil (r.own 2 _ _ K2 _ rfl rfl rfl rfl)
    subst n1 n2
    have ef2:([K0,[],[]]:List (List Addr)).flatten=K0:=by simp
    have ndr:=r.nd
    have frr:=r.fresh
    have inr:=r.inH
    have ow:=r.own 0 _ _ K0 _ rfl rfl rfl rfl
    rw [ef2] at ndr frr inr ow
    have E3:=E2.step (G:=K0) r.same fr0 ndr frr inr
    have fr2:∀a∈K0,He a=none:=fun a ha=>by
     by_cases hm:a∈F
     ·exact fr0 a hm
     ·have:=frr a ha
      unfold hid at this
      rw [if_neg hm] at this
      exact E2.same.free this
    have E4:=EnvOk.put (i:=i) (p:=⟨.lst .leaf,.list ds'⟩) (v:=.ref l) E3 (by rw [append_assoc];exact ow) rfl fr2 (by rw [length_set];exact hi)
    rw [zCK h1,set_set,set_set] at E4
    exact hw σ H2 _ E4
end
section
variable {X:Cx} {N gl:List Str} {vs cs ls lo gs:List Nat} {W:XW} {L:List Nat} {a b c e:Expr} {es:List Expr} {pos p:Pos} {fa fb fk:F1} {fl:FL}
theorem cs_lentI (S:Cp X N gl vs cs ls lo gs) (i j:Nat) {y:Str} {px:Pos} (hi:N[i]?=some y) (hv:vs.contains i=true) (hj:gl[j]?=some x) (hg:gs.contains j=true) (C:CalL X x ssI den) (ha:PA X es (tA X.K W fl))
  (he:starEach (.Name y px::es) X.env=(false,eval (.Name y px) X.env)::starEach es X.env) (hpl:(backTo cpos (starEach es X.env)).any (·.1)=false) (hs:swapsWith (.Call (.Name x p) (.Name y px::es) [] cpos) none pos.line X.env=pure false) :
  PS X (.Expr (.Call (.Name x p) (.Name y px::es) [] cpos) pos) (tS X.K W (zDC i fl den)):=by
 obtain ⟨k,f,fd,ps,F,hr,hm,hk,hb⟩:=C
 have m:=S.nm y (mem_of_getElem? hi)
 exact PSimp (zCA (zEF F hr (S.g hj hg).1 hm hk hb .nil pass0 (zAE (zCD (by rw [S.hN];exact hi) (S.vis i y hi hv) m.1 m.2) ha he) (S.g hj hg).2.1 he hpl) hs) fun _ _ _=>rd_lentI
theorem ns_popD (S:Cp X N gl vs cs ls lo gs) (i:Nat) (hi:N[i]?=some x) (hv:vs.contains i=true) (hb:PE X b (tE X.K W fb))
  (hs1:starEach [b] X.env=[(false,eval b X.env)]) (hbase:attributeBase (.Name x p) "pop" X.env (eval (.Name x p) X.env)=eval (.Name x p) X.env) (hline:(apos.endLine==cpos.line)=true)
  (hfew:((backTo cpos (starEach [b] X.env)).all (fun x=>!x.1)&&(backToKw cpos (keywordEach [] X.env)).all (fun x=>x.1.isSome)
   && decide ([b].length+([]:List Keyword).length+(if ([]:List Keyword).isEmpty then 0 else 1)<30))=true)
  (hsw:swapsWith (.Call (.Attribute (.Name x p) "pop" apos) [b] [] cpos) none pos.line X.env=pure false) :
  PS X (.Expr (.Call (.Attribute (.Name x p) "pop" apos) [b] [] cpos) pos) (tN L X.K W (sPopD i fb)):=by
 have m:=S.nm x (mem_of_getElem? hi)
 exact PSimp (zCA (pe_bm PySem.F.plainAttrs_list PySem.F.slot_list_pop PySem.F.type_list_pop mt_popAt (zCD (by rw [S.hN];exact hi) (S.vis i x hi hv) m.1 m.2) (zAE hb zAS hs1) hbase hfew hline hs1 rfl) hsw) fun _ _ _=>rd_popDN
theorem ns_append (S:Cp X N gl vs cs ls lo gs) (i:Nat) (hi:N[i]?=some x) (hv:vs.contains i=true) (ha:PE X a (tE X.K W fa)) (hs:starEach [a] X.env=[(false,eval a X.env)])
  (hbase:attributeBase (.Name x p) "append" X.env (eval (.Name x p) X.env)=eval (.Name x p) X.env) (hline:(apos.endLine==cpos.line)=true)
  (hfew:((backTo cpos (starEach [a] X.env)).all (fun x=>!x.1)&&(backToKw cpos (keywordEach [] X.env)).all (fun x=>x.1.isSome)
   && decide ([a].length+([]:List Keyword).length+(if ([]:List Keyword).isEmpty then 0 else 1)<30))=true)
  (hsw:swapsWith (.Call (.Attribute (.Name x p) "append" apos) [a] [] cpos) none pos.line X.env=pure false) :
  PS X (.Expr (.Call (.Attribute (.Name x p) "append" apos) [a] [] cpos) pos) (tN L X.K W (zAV i fa)):=by
 have m:=S.nm x (mem_of_getElem? hi)
 exact PSimp (zCA (pe_bm PySem.F.plainAttrs_list PySem.F.slot_list_append PySem.F.type_list_append zCR (zCD (by rw [S.hN];exact hi) (S.vis i x hi hv) m.1 m.2) (da_cons ha da_nil hs) hbase hfew hline hs rfl) hsw) fun _ _ _=>rd_appendN
theorem ns_insP (S:Cp X N gl vs cs ls lo gs) (i:Nat) {k0:Nat} {p0 p2 apos2 cpos2:Pos} (hi:N[i]?=some x) (hv:vs.contains i=true) (hb:PE X b (tE X.K W fb))
  (hs1:starEach [b] X.env=[(false,eval b X.env)]) (hbase:attributeBase (.Name x p) "pop" X.env (eval (.Name x p) X.env)=eval (.Name x p) X.env) (hline:(apos.endLine==cpos.line)=true)
  (hfew:((backTo cpos (starEach [b] X.env)).all (fun x=>!x.1)&&(backToKw cpos (keywordEach [] X.env)).all (fun x=>x.1.isSome)
   && decide ([b].length+([]:List Keyword).length+(if ([]:List Keyword).isEmpty then 0 else 1)<30))=true)
  (hs2:starEach [.Constant (.int 0) k0 p0,.Call (.Attribute (.Name x p) "pop" apos) [b] [] cpos] X.env=(false,eval (.Constant (.int 0) k0 p0) X.env)::starEach [.Call (.Attribute (.Name x p) "pop" apos) [b] [] cpos] X.env)
  (hs3:starEach [.Call (.Attribute (.Name x p) "pop" apos) [b] [] cpos] X.env=[(false,eval (.Call (.Attribute (.Name x p) "pop" apos) [b] [] cpos) X.env)])
  (hbase2:attributeBase (.Name x p2) "insert" X.env (eval (.Name x p2) X.env)=eval (.Name x p2) X.env) (hline2:(apos2.endLine==cpos2.line)=true)
  (hfew2:((backTo cpos2 (starEach [.Constant (.int 0) k0 p0,.Call (.Attribute (.Name x p) "pop" apos) [b] [] cpos] X.env)).all (fun x=>!x.1)&&(backToKw cpos2 (keywordEach [] X.env)).all (fun x=>x.1.isSome)
   && decide ([Expr.Constant (.int 0) k0 p0,.Call (.Attribute (.Name x p) "pop" apos) [b] [] cpos].length+([]:List Keyword).length+(if ([]:List Keyword).isEmpty then 0 else 1)<30))=true)
  (hpl:(backTo cpos2 (starEach [.Call (.Attribute (.Name x p) "pop" apos) [b] [] cpos] X.env)).any (·.1)=false)
  (hsw:swapsWith (.Call (.Attribute (.Name x p2) "insert" apos2) [.Constant (.int 0) k0 p0,.Call (.Attribute (.Name x p) "pop" apos) [b] [] cpos] [] cpos2) none pos.line X.env=pure false) :
  PS X (.Expr (.Call (.Attribute (.Name x p2) "insert" apos2) [.Constant (.int 0) k0 p0,.Call (.Attribute (.Name x p) "pop" apos) [b] [] cpos] [] cpos2) pos) (tN L X.K W (sInsP i fb)):=by
 have m:=S.nm x (mem_of_getElem? hi)
 have nv:∀q,PE X (.Name x q) (tVar i):=fun q=>zCD (by rw [S.hN];exact hi) (S.vis i x hi hv) m.1 m.2
 exact PSimp (zCA (pe_bm PySem.F.plainAttrs_list PySem.F.slot_list_insert PySem.F.type_list_insert mt_insert (nv p2) (zAE zEE (zAE (pe_bm PySem.F.plainAttrs_list PySem.F.slot_list_pop PySem.F.type_list_pop mt_popAt (nv p) (zAE hb zAS hs1) hbase hfew hline hs1 rfl) zAS hs3) hs2) hbase2 hfew2 hline2 hs2 hpl) hsw) fun _ _ _=>rd_insPN
end
end T
namespace TQ
open PySem PySem.Spec L2 T
open PyProof.Rows hiding St
variable {x:Str} {cpos apos:Pos}
section
variable {X:Cx} {N gl:List Str} {vs cs ls lo gs:List Nat} {W:XW} {L:List Nat} {a b c e:Expr} {es:List Expr} {pos p:Pos} {fa fb fk:F1} {fl:FL}
theorem w_cs_lentI (S:Cp X N gl vs cs ls lo gs) (i j:Nat) {y:Str} {px:Pos} {den:List PySem.PyData->Option (List PySem.PyData)} (C:CalL X x ssI den) (ha:Q (PA X es (tA X.K W fl))) (hi:N[i]?=some y:=by rfl) (hv:vs.contains i=true:=by rfl) (hj:gl[j]?=some x:=by rfl) (hg:gs.contains j=true:=by rfl)
  (he:starEach (.Name y px::es) X.env=(false,eval (.Name y px) X.env)::starEach es X.env:=by exact zAA rfl) (hpl:(backTo cpos (starEach es X.env)).any (·.1)=false:=by rfl) (hs:swapsWith (.Call (.Name x p) (.Name y px::es) [] cpos) none pos.line X.env=pure false:=by rfl) :
  Q (PS X (.Expr (.Call (.Name x p) (.Name y px::es) [] cpos) pos) (tS X.K W (zDC i fl den))):=⟨T.cs_lentI S i j hi hv hj hg C ha.p he hpl hs⟩
theorem w_ns_popD (S:Cp X N gl vs cs ls lo gs) (i:Nat) (hb:Q (PE X b (tE X.K W fb))) (hi:N[i]?=some x:=by rfl) (hv:vs.contains i=true:=by rfl)
  (hs1:starEach [b] X.env=[(false,eval b X.env)]:=by exact zAN rfl) (hbase:attributeBase (.Name x p) "pop" X.env (eval (.Name x p) X.env)=eval (.Name x p) X.env:=by rfl) (hline:(apos.endLine==cpos.line)=true:=by rfl)
  (hfew:((backTo cpos (starEach [b] X.env)).all (fun x=>!x.1)&&(backToKw cpos (keywordEach [] X.env)).all (fun x=>x.1.isSome)
   && decide ([b].length+([]:List Keyword).length+(if ([]:List Keyword).isEmpty then 0 else 1)<30))=true:=by rfl)
  (hsw:swapsWith (.Call (.Attribute (.Name x p) "pop" apos) [b] [] cpos) none pos.line X.env=pure false:=by rfl) :
  Q (PS X (.Expr (.Call (.Attribute (.Name x p) "pop" apos) [b] [] cpos) pos) (tN L X.K W (sPopD i fb))):=⟨T.ns_popD S i hi hv hb.p hs1 hbase hline hfew hsw⟩
theorem w_ns_append (S:Cp X N gl vs cs ls lo gs) (i:Nat) (hi:N[i]?=some x) (hv:vs.contains i=true) (ha:Q (PE X a (tE X.K W fa))) (hs:starEach [a] X.env=[(false,eval a X.env)])
  (hbase:attributeBase (.Name x p) "append" X.env (eval (.Name x p) X.env)=eval (.Name x p) X.env) (hline:(apos.endLine==cpos.line)=true)
  (hfew:((backTo cpos (starEach [a] X.env)).all (fun x=>!x.1)&&(backToKw cpos (keywordEach [] X.env)).all (fun x=>x.1.isSome)
   && decide ([a].length+([]:List Keyword).length+(if ([]:List Keyword).isEmpty then 0 else 1)<30))=true)
  (hsw:swapsWith (.Call (.Attribute (.Name x p) "append" apos) [a] [] cpos) none pos.line X.env=pure false) :
  Q (PS X (.Expr (.Call (.Attribute (.Name x p) "append" apos) [a] [] cpos) pos) (tN L X.K W (zAV i fa))):=⟨T.ns_append S i hi hv ha.p hs hbase hline hfew hsw⟩
theorem w_ns_insP (S:Cp X N gl vs cs ls lo gs) (i:Nat) {k0:Nat} {p0 p2 apos2 cpos2:Pos} (hb:Q (PE X b (tE X.K W fb))) (hi:N[i]?=some x:=by rfl) (hv:vs.contains i=true:=by rfl)
  (hs1:starEach [b] X.env=[(false,eval b X.env)]:=by exact zAN rfl) (hbase:attributeBase (.Name x p) "pop" X.env (eval (.Name x p) X.env)=eval (.Name x p) X.env:=by rfl) (hline:(apos.endLine==cpos.line)=true:=by rfl)
  (hfew:((backTo cpos (starEach [b] X.env)).all (fun x=>!x.1)&&(backToKw cpos (keywordEach [] X.env)).all (fun x=>x.1.isSome)
   && decide ([b].length+([]:List Keyword).length+(if ([]:List Keyword).isEmpty then 0 else 1)<30))=true:=by rfl)
  (hs2:starEach [.Constant (.int 0) k0 p0,.Call (.Attribute (.Name x p) "pop" apos) [b] [] cpos] X.env=(false,eval (.Constant (.int 0) k0 p0) X.env)::starEach [.Call (.Attribute (.Name x p) "pop" apos) [b] [] cpos] X.env:=by exact zAA rfl)
  (hs3:starEach [.Call (.Attribute (.Name x p) "pop" apos) [b] [] cpos] X.env=[(false,eval (.Call (.Attribute (.Name x p) "pop" apos) [b] [] cpos) X.env)]:=by exact zAN rfl)
  (hbase2:attributeBase (.Name x p2) "insert" X.env (eval (.Name x p2) X.env)=eval (.Name x p2) X.env:=by rfl) (hline2:(apos2.endLine==cpos2.line)=true:=by rfl)
  (hfew2:((backTo cpos2 (starEach [.Constant (.int 0) k0 p0,.Call (.Attribute (.Name x p) "pop" apos) [b] [] cpos] X.env)).all (fun x=>!x.1)&&(backToKw cpos2 (keywordEach [] X.env)).all (fun x=>x.1.isSome)
   && decide ([Expr.Constant (.int 0) k0 p0,.Call (.Attribute (.Name x p) "pop" apos) [b] [] cpos].length+([]:List Keyword).length+(if ([]:List Keyword).isEmpty then 0 else 1)<30))=true:=by rfl)
  (hpl:(backTo cpos2 (starEach [.Call (.Attribute (.Name x p) "pop" apos) [b] [] cpos] X.env)).any (·.1)=false:=by rfl)
  (hsw:swapsWith (.Call (.Attribute (.Name x p2) "insert" apos2) [.Constant (.int 0) k0 p0,.Call (.Attribute (.Name x p) "pop" apos) [b] [] cpos] [] cpos2) none pos.line X.env=pure false:=by rfl) :
  Q (PS X (.Expr (.Call (.Attribute (.Name x p2) "insert" apos2) [.Constant (.int 0) k0 p0,.Call (.Attribute (.Name x p) "pop" apos) [b] [] cpos] [] cpos2) pos) (tN L X.K W (sInsP i fb))):=⟨T.ns_insP S i hi hv hb.p hs1 hbase hline hfew hs2 hs3 hbase2 hline2 hfew2 hpl hsw⟩
end
end TQ
namespace T
open PySem PySem.Spec L2
open PyProof.Rows hiding St
variable {b it:Addr} {K:Fg} {O' bs:List Addr} {ep:Nat} {sh:List Bool} {kvs:List (List It×V)} {g:Nat->Nat->Bool} {ps:List (Nat×Nat)}
section
variable {K:Fg} {H:Hp} {O:List Addr} {σ:St} {U U1:Ev} {W:XW} {f:F1} {fb:FB} {Q:VK} {QB:Bool->Hp->Prop}
theorem zFG:∀n:Nat,(List.replicate n ([]:List Addr)).flatten=[]
 | 0=>rfl
 | n+1=>by rw [List.replicate_succ,flatten_cons,zFG n];rfl
theorem envL (nd:O.Nodup) (inH:∀a∈O,H a≠none) (hl:σ.length=U.length) (hs:∀(i:Nat) p,U[i]?=some (some p)->p.s=.leaf/\∃v,σ[i]?=some (some v)/\Rep K (hid H O) v p.d):EnvOk K H O (List.replicate U.length []) H σ U:=by
 have e:=zFG U.length
 refine ⟨hl,List.length_replicate,Same.refl H,by rw [e,append_nil];exact nd,by rw [e,append_nil];exact inH,by rw [e];exact fun _ z=>(nomatch z),fun i p h=>?_⟩
 obtain ⟨h1,v,h2,h3⟩:=hs i p h
 have hi:i<U.length:=(List.getElem?_eq_some_iff.mp h).1
 refine ⟨by rw [h1];rfl,v,[],h2,by rw [getElem?_replicate,if_pos hi],?_⟩
 rw [h1,e,append_nil]
 exact .leaf h3
theorem evB {b:Bool} (E:EnvOk K H O (List.replicate U.length []) H σ U) (hf:fb U=.ok b U1) (q:∀H',Same H H'->QB b H'):tT K W fb σ H QB:=by
 refine ⟨_,_,_,_,E,?_⟩
 rw [hf]
 exact fun H' Fs' s _ _=>q H' s
theorem vals_int {H:Hp} {vs:List V} {xs:List Int} (hl:vs.length=(xs.map PySem.PyData.int).length) (hr:∀(i:Nat) v d,vs[i]?=some v->(xs.map PySem.PyData.int)[i]?=some d->Rep K H v d):vs=xs.map V.int:=by
 rw [length_map] at hl
 apply ext_getElem?
 intro i
 by_cases hi:i<vs.length
 ·have hi2:i<xs.length:=by omega
  have q:=hr i vs[i] (.int xs[i]) (getElem?_eq_getElem hi) (by rw [getElem?_map,getElem?_eq_getElem hi2];rfl)
  rw [getElem?_eq_getElem hi,getElem?_map,getElem?_eq_getElem hi2]
  generalize vs[i]=u at q
  cases q
  rfl
 ·rw [getElem?_eq_none (by omega),getElem?_eq_none (by rw [length_map];omega)]
theorem evL {xs:List Int} (E:EnvOk K H O (List.replicate U.length []) H σ U) (hf:f U=.ok ⟨.leaf,.list (xs.map .int)⟩ U1) (q:∀p H',Same H H'->SqL K H' p (xs.map V.int)->Q (.ref p) H'):tE K W f σ H Q:=by
 refine ⟨_,_,_,_,E,?_⟩
 rw [hf]
 intro v H' G Fs' A
 cases A.own with
 | leaf r=>
  cases r with
  | @lst p vs _ hq hl hr=>
   rw [vals_int hl hr] at hq
   exact q p H' A.same (hid_le.seq hq)
end
theorem zF6 {H:Hp} {O:List Addr} (s:∀a∈O,a∈O'):Same (hid H O') (hid H O):=fun b o hb=>by
 unfold hid at hb ⊢
 split at hb
 ·cases hb
 ·rename_i nb
  rw [if_neg fun z=>nb (s b z)]
  exact hb
theorem own_rep {O:List Addr} {H:Hp} {s:Sh} {F:List Addr} {v:V} {d:D} (o:Own K O' H s F v d):s.isView=false->(∀a∈F,a∉O)->(∀a∈O,a∈O')->Rep K (hid H O) v d:=by
 induction o with
 | view _=>intro h;cases h
 | leaf r=>intro _ _ h;exact r.mono (zF6 h)
 | @lst s p vs ds Fs hv hp hl _ _ hi ih=>
  intro _ hf hO
  refine .lst (.inl (.inl (zBA hp (hf p mem_cons_self)))) hl fun i v d h1 h2=>?_
  have hF:i<Fs.length:=by have:=(List.getElem?_eq_some_iff.mp h2).1;omega
  exact ih i v d Fs[i] h1 h2 (getElem?_eq_getElem hF) hv (fun a ha=>hf a (mem_cons_of_mem _ (List.mem_flatten.mpr ⟨_,getElem_mem hF,ha⟩))) hO
 | @tup ss p vs ds Fs hv hp np hl hl2 hl3 _ hi ih=>
  intro _ hf hO
  refine .tup (.inl (.inl (zBA hp fun z=>np (hO p z)))) hl fun i v d h1 h2=>?_
  have hd:=(List.getElem?_eq_some_iff.mp h2).1
  have hF:i<Fs.length:=by omega
  have hS:i<ss.length:=by omega
  exact ih i v d Fs[i] ss[i] h1 h2 (getElem?_eq_getElem hF) (getElem?_eq_getElem hS) (hv _ (getElem_mem hS)) (fun a ha=>hf a (List.mem_flatten.mpr ⟨_,getElem_mem hF,ha⟩)) hO
theorem evR {H:Hp} {O:List Addr} {σ:St} {U U1:Ev} {W:XW} {f:F1} {Q:VK} {p:PV} (inH:∀a∈O,H a≠none) (E:EnvOk K H O (List.replicate U.length []) H σ U) (hf:f U=.ok p U1) (hv:p.s.isView=false) (q:∀v H',Same H H'->Rep K (hid H' O) v p.d->Q v H'):tE K W f σ H Q:=by
 refine ⟨_,_,_,_,E,?_⟩
 rw [hf]
 intro v H' G Fs' A
 refine q v H' A.same (own_rep A.own hv (fun a ha z=>?_) fun a ha=>mem_append_left _ (mem_append_right _ ha))
 rcases A.new a (mem_append_left _ ha) with y | y
 ·rw [zFG] at y;cases y
 ·exact inH a z y
section
variable {prog:Program} {w:World} {A:Around} {E:Value->Shared->Prop} {s:Shared}
noncomputable def EAt (h:Heap) (d:Addr) (bs:List Addr) (ep:Nat):Prop:=∃o es,h.get? d=some o/\o.ExactDict/\o.data=.dict es ep/\es.toList.map (·.key)=bs.map Value.ref
theorem EAt.at {h h':Heap} {d:Addr} (x:EAt h d bs ep) (k:∀o,h.get? d=some o->h'.get? d=some o):EAt h' d bs ep:=let ⟨o,es,ho,r⟩:=x;⟨o,es,k o ho,r⟩
theorem EAt.ty {d:Addr} (x:EAt s.heap d bs ep):s.TypeIs (.ref d) "dict":=let ⟨o,_,ho,hc,_⟩:=x;⟨o,ho,hc.1⟩
theorem EAt.lt {h:Heap} {d:Addr} (x:EAt h d bs ep):d<h.objs.size:=let ⟨_,_,ho,_⟩:=x;Heap.lt_size ho
theorem EAt.size {es:Array DictEntry} (h:es.toList.map (·.key)=bs.map Value.ref):es.size=bs.length:=by
 have:=congrArg List.length h
 simpa using this
theorem iterE {d:Addr} {Q:Value->Shared->Prop} (hd:(d==sysModules)=false) (hm:EAt s.heap d bs ep)
  (hQ:Q (.ref s.heap.objs.size) { s with heap:=s.heap.push { cls:=.type "dict_keyiterator",data:=.fields #[.ref d,.int 0 0,.int bs.length 0,.int ep 0] } }):wpAny (model prog w) A (pyIter (.ref d)) Q E s:=by
 have hT:=hm.ty
 obtain ⟨o,es,ho,hc,hdat,hk⟩:=hm
 have hsz:=EAt.size hk
 refine wpAny_pyIter_slot hT PySem.F.slot_dict_iter (wpAny_call_entry PySem.F.slot_dict_iter hT PySem.F.entry_dict_iter ?_ (PySem.F.args_dict_iter_1 _))
 unfold Builtin.«dict.__iter__» Builtin.Dict.dictSlotNone
 refine wpAny_bind (wpAny_bind (wpAny_notOrdered_dict hT ?_))
 show wpAny _ _ (pure (Value.ref d)) _ _ s
 refine wpAny_pure ?_
 show wpAny _ _ (Builtin.Dict.showsAll d >>= _) _ _ s
 unfold Builtin.Dict.showsAll
 rw [if_neg (by rw [hd];exact Bool.false_ne_true)]
 refine wpAny_bind (wpAny_pure (wpAny_bind (wpAny_dictEntries ho hdat (wpAny_bind (wpAny_dictEpoch ho hdat ?_)))))
 refine wpAny_bind (wpAny_newObj_type (wpAny_pure ⟨_,rfl, "dict_keyiterator",_,⟨_,Heap.get?_push_size _ rfl,rfl⟩,PySem.F.slot_dict_keyiterator_next.lookup,?_⟩))
 simpa [rawInt,hsz] using hQ
theorem nextE {d:Addr} {i:Nat} {Q:Option Value->Shared->Prop} (hit:s.heap.IsKeyIter it d i bs.length ep) (hm:EAt s.heap d bs ep) (hx:bs[i]?=some b)
  (hQ:∀h',h'.IsKeyIter it d (i+1) bs.length ep->Heap.SameBut it s.heap h'->Q (some (.ref b)) { s with heap:=h' }):wpAny (model prog w) A (pyNext (.ref it)) Q E s:=by
 have ty:=hit.typeIs
 obtain ⟨o,ho,hc,hd⟩:=hit
 obtain ⟨od,es,hod,hcd,hdd,hk⟩:=hm
 have hsz:=EAt.size hk
 unfold pyNext
 refine wpAny_bind (wpAny_attempt (wpAny_callSpecial?_slot (name:=Str.ofString "__next__") ty PySem.F.slot_dict_keyiterator_next
  (wpAny_call_entry PySem.F.slot_dict_keyiterator_next ty PySem.F.entry_dict_keyiterator_next ?_ (PySem.F.args_dict_keyiterator_next_1 _))))
 refine wpAny_bind (wpAny_pure (wpAny_bind (wpAny_bind ?_)))
 first | refine wpAny_bind (wpAny_typeNameOfWhole_keyiter ty (wpAny_pure ?_)) | refine wpAny_bind (wpAny_typeNameOf_keyiter ty (wpAny_pure ?_))
 refine wpAny_bind (wpAny_fieldsOf ho hd ?_)
 simp only [show Builtin.Dict_items.ownsTuple "dict_keyiterator"=false by decide,Bool.false_eq_true,if_false]
 show wpAny _ _ (if (Value.ref d==Value.none)=true then _ else _) _ _ s
 rw [if_neg (show ¬((Value.ref d==Value.none)=true) from Bool.false_ne_true)]
 refine wpAny_bind (wpAny_pure (wpAny_bind (wpAny_dictEntries hod hdd ?_)))
 rw [if_neg (by rw [hsz];simp)]
 refine wpAny_bind (wpAny_pure (wpAny_bind (wpAny_dictEpoch hod hdd ?_)))
 rw [if_neg (by simp)]
 refine wpAny_pure ?_
 have hlt:i<es.size:=by rw [hsz];exact (List.getElem?_eq_some_iff.mp hx).1
 have hkey:es[i].key=.ref b:=by
  have q:(es.toList.map (·.key))[i]?=some (Value.ref b):=by rw [hk,getElem?_map,hx];rfl
  rw [getElem?_map,Array.getElem?_toList,Array.getElem?_eq_getElem hlt] at q
  exact Option.some.inj q
 simp only [show ¬((i:Int)<0) from by omega,if_false,Int.toNat_natCast,Array.getElem?_eq_getElem hlt]
 refine wpAny_bind ?_
 first | refine wpAny_bind (wpAny_typeNameOfWhole_keyiter ty (wpAny_pure ?_)) | refine wpAny_bind (wpAny_typeNameOf_keyiter ty (wpAny_pure ?_))
 refine wpAny_bind (wpAny_isOneOf_keyiter ty ?_)
 show wpAny _ _ (setField (.ref it) 1 (rawInt ((i:Int)+1)) >>= _) _ _ s
 refine wpAny_bind (wpAny_setField ho hd (by simp) ?_)
 have hit':(s.heap.update it (Obj.mapFields (·.setIfInBounds 1 (rawInt ((i:Int)+1))))).IsKeyIter it d (i+1) bs.length ep:=
  ⟨_,Heap.get?_update_self _ ho (Obj.isFreed_of_fields (Obj.data_mapFields hd _)),(Obj.cls_mapFields ..).trans hc,by rw [Obj.data_mapFields hd];simp [rawInt]⟩
 refine wpAny_bind (wpAny_holding (wpAny_bind (wpAny_isOneOf_keyiter (s:={ s with heap:=s.heap.update it (Obj.mapFields (·.setIfInBounds 1 (rawInt ((i:Int)+1)))) }) hit'.typeIs ?_)))
 show wpAny _ _ (pure es[i].key) _ _ _
 rw [hkey]
 exact wpAny_pure (wpAny_pure ⟨_,rfl,wpAny_pure (hQ _ hit' (Heap.SameBut.update ..))⟩)
theorem endE {d:Addr} {i:Nat} {Q:Option Value->Shared->Prop} (hh:A.handled=none) (hit:s.heap.IsKeyIter it d i bs.length ep) (hm:EAt s.heap d bs ep) (hx:bs.length<=i)
  (hQ:∀h',Heap.ExtBut it s.heap h'->Q none { s with heap:=h' }):wpAny (model prog w) A (pyNext (.ref it)) Q E s:=by
 have ty:=hit.typeIs
 obtain ⟨o,ho,hc,hd⟩:=hit
 obtain ⟨od,es,hod,hcd,hdd,hk⟩:=hm
 have hsz:=EAt.size hk
 unfold pyNext
 refine wpAny_bind (wpAny_attempt (wpAny_callSpecial?_slot (name:=Str.ofString "__next__") ty PySem.F.slot_dict_keyiterator_next
  (wpAny_call_entry PySem.F.slot_dict_keyiterator_next ty PySem.F.entry_dict_keyiterator_next ?_ (PySem.F.args_dict_keyiterator_next_1 _))))
 refine wpAny_bind (wpAny_pure (wpAny_bind (wpAny_bind ?_)))
 first | refine wpAny_bind (wpAny_typeNameOfWhole_keyiter ty (wpAny_pure ?_)) | refine wpAny_bind (wpAny_typeNameOf_keyiter ty (wpAny_pure ?_))
 refine wpAny_bind (wpAny_fieldsOf ho hd ?_)
 simp only [show Builtin.Dict_items.ownsTuple "dict_keyiterator"=false by decide,Bool.false_eq_true,if_false]
 show wpAny _ _ (if (Value.ref d==Value.none)=true then _ else _) _ _ s
 rw [if_neg (show ¬((Value.ref d==Value.none)=true) from Bool.false_ne_true)]
 refine wpAny_bind (wpAny_pure (wpAny_bind (wpAny_dictEntries hod hdd ?_)))
 rw [if_neg (by rw [hsz];simp)]
 refine wpAny_bind (wpAny_pure (wpAny_bind (wpAny_dictEpoch hod hdd ?_)))
 rw [if_neg (by simp)]
 refine wpAny_pure ?_
 simp only [show ¬((i:Int)<0) from by omega,if_false,Int.toNat_natCast,Array.getElem?_eq_none (show es.size<=i by rw [hsz];exact hx)]
 refine wpAny_bind ?_
 first | refine wpAny_bind (wpAny_typeNameOfWhole_keyiter ty (wpAny_pure ?_)) | refine wpAny_bind (wpAny_typeNameOf_keyiter ty (wpAny_pure ?_))
 show wpAny _ _ (setField (.ref it) 0 .none >>= _) _ _ s
 refine wpAny_bind (wpAny_setField ho hd (by simp) ?_)
 show wpAny _ _ (newExc (.type "StopIteration") [] >>= _) _ _ _
 refine wpAny_bind ?_
 simp only [newExc,newTuple]
 refine wpAny_bind (wpAny_newObj_type ?_ (by size_fits))
 refine wpAny_bind (m:=firstArgMember _ _) (wpAny_of_eq (a:=Value.none) (by first | rfl | (simp only [firstArgMember];rfl)) ?_)
 refine wpAny_newObj_type ?_ (by size_fits)
 simp only [raiseNew]
 refine wpAny_bind (wpAny_handled ?_)
 rw [show A.in1.handled=none from hh]
 refine wpAny_bind (wpAny_pure (wpAny_throw ?_))
 refine wpAny_bind (wpAny_isInstance (T := "StopIteration") (b:=true) ⟨_,Heap.get?_push_size _ rfl,rfl⟩ isSubtype_stop ?_)
 exact wpAny_pure (hQ _ (((Heap.SameBut.update ..).extBut.push _).push _))
theorem walksE (hh:A.handled=none) (I d:Addr) (hne:d≠I) (bs:List Addr) (ep:Nat) :
  Walks prog w A I [I,d] [I] bs.length (fun i v=>∃b,bs[i]?=some b/\v=.ref b) (fun i h=>h.IsKeyIter I d i bs.length ep/\EAt h d bs ep) where
 sub:=fun b hb=>by simp at hb;simp [hb]
 frame:=fun _ _ _ st hk=>⟨st.1.at fun o e=>hk I (by simp) o e,st.2.at fun o e=>hk d (by simp) o e⟩
 item:=fun i s Q E hi st hQ=>by
  have hx:bs[i]?=some bs[i]:=getElem?_eq_getElem hi
  refine nextE st.1 st.2 hx fun h' hit' hs'=>?_
  exact hQ _ h' s.toks ⟨_,hx,rfl⟩ ⟨hit',st.2.at fun o e=>hs'.extBut d o hne e⟩ fun b o hb e=>hs'.extBut b o (fun h=>hb (by simp [h])) e
 done:=fun s Q E st hQ=>endE hh st.1 st.2 (Nat.le_refl _) fun h' he'=>hQ h' s.toks fun b o hb e=>he' b o (fun h=>hb (by simp [h])) e
 self:=fun _ _ _ _ st hQ=>wpAny_pyIter_keyiter st.1 hQ
theorem srcE {d:Addr} (lo:(d==sysModules)=false):PySem.W.KdlSrc prog w "dict" d d bs.length (fun i v=>∃b,bs[i]?=some b/\v=.ref b) (fun h=>EAt h d bs ep) where
 type:=fun _ hm=>hm.ty
 there:=fun _ hm=>⟨hm.lt,hm.lt⟩
 keep:=fun _ _ hm hk=>hm.at fun o e=>hk d (.inl rfl) o e
 notList:=by decide
 notTuple:=by decide
 hint:=fun _ _ _ _ hm hq=>PySem.W.kdl_hint_dict hm.ty hq
 iter:=fun _ _ hh hm=>⟨_,_,(fun _ _ hq=>iterE lo hm hq),walksE hh _ d (Nat.ne_of_lt hm.lt) bs ep,⟨⟨_,Heap.get?_push_size _ rfl,rfl,rfl⟩,hm.at fun o e=>Heap.get?_push_of_some _ e⟩⟩
end
noncomputable def rD2List (P:Program) (w:World) (K:Fg):List V->Hp->VK->Prop:=fun ys H Q=>∃a sh kvs,ys=[.ref a]/\D2 P w K H sh a kvs/\∀l bs,H l=none->Paired (fun (p:List It×V) b=>K2 K H p.1 b) kvs bs->Q (.ref l) (upd H l (.lst (bs.map V.ref)))
theorem kx_bs {H:Hp} {xs:List (List It×Addr×Value)} (r:KX K H sh kvs xs):Paired (fun (p:List It×V) b=>K2 K H p.1 b) kvs (xs.map (·.2.1)):=by
 induction r with
 | nil=>exact .nil
 | cons q _ ih=>exact .cons q.2.2.1 ih
theorem vals_ref:∀{bs:List Addr},Vals (bs.map V.ref) (bs.map Value.ref)
 | []=>.nil
 | b::bs=>.cons rfl vals_ref
theorem call_d2list {X:Cx} (hc:X.calm=true):CallR X (.type "list") (rD2List X.prog X.w X.K):=by
 intro pins s σ H ys us Q I rv h
 obtain ⟨a,sh,kvs,rfl,⟨xs,e,r,nd,hz,hd⟩,q⟩:=h
 obtain ⟨u,rfl,ru⟩:=rv.one
 cases ru
 obtain ⟨⟨o,es,ep,h1,h2,h3,h4⟩,_⟩:=(show ObjOk X.prog X.w H s.heap a (oD2 X.prog X.w sh a xs) from I.hok a _ e)
 have hE:EAt s.heap a (xs.map (·.2.1)) ep:=⟨o,es,h1,h2,h3,by rw [h4,map_map,map_map];rfl⟩
 have hb:(1000:Nat)<=sizeLine:=by decide
 have hn:(xs.map (·.2.1)).length<=sizeLine:=by rw [length_map];omega
 refine PySem.W.kdl_call (srcE hd) (I.ok.hd hc) hE hn fun h' tk acc c' hk ho hacc=>?_
 have ea:acc.toList=(xs.map (·.2.1)).map Value.ref:=by
  apply ext_getElem?
  intro i
  rw [Array.getElem?_toList]
  cases e2:acc[i]? with
  | none=>
   have:=Array.getElem?_eq_none_iff.mp e2
   rw [getElem?_eq_none (by rw [length_map];have:=hacc.1;omega)]
  | some v=>
   obtain ⟨b,e3,rfl⟩:=hacc.2 i v e2
   rw [getElem?_map,e3]
   rfl
 refine ⟨.ref _,upd H _ (.lst ((xs.map (·.2.1)).map V.ref)),I.laid (t':=tk) (fun b o e=>hk b o e) (Nat.le_refl _) ⟨by rw [length_map];exact hn,acc.toList,c',by rw [ea];exact vals_ref,by simpa using ho⟩,rfl,q _ _ (I.hok.fresh (Nat.le_refl _)) (kx_bs r)⟩
noncomputable def tD2Get2 (P:Program) (w:World) (K:Fg) (td ty tx:TE):TE:=fun σ H Q=>td σ H fun x H1=>∃a,x=.ref a/\(∃sh kvs,D2 P w K H1 sh a kvs)/\ty σ H1 fun y H2=>tx σ H2 fun z H3=>∃b sh kvs ks,y=.ref b/\D2 P w K H3 sh a kvs/\K2 K H3 ks b/\ks.map isT=sh/\Q ((valV kvs ks).getD z) H3
noncomputable def sD2Up (P:Program) (w:World) (K:Fg) (td ty tv:TE):TS:=fun D σ H=>tv σ H fun v H1=>td σ H1 fun x H2=>ty σ H2 fun y H3=>∃a b sh kvs ks,x=.ref a/\y=.ref b/\D2 P w K H3 sh a kvs/\K2 K H3 ks b/\ks.map isT=sh/\kvs.length<1000 /\
 ∀ob,D2 P w K (upd H3 a ob) sh a (putK kvs ks v)->D.nx σ (upd H3 a ob)
theorem kx_put {H:Hp} {xs:List (List It×Addr×Value)} {ks:List It} {v:V} {r:Value} (rv:RelV v r) (q:KX K H sh kvs xs):KX K H sh (kvs.map fun kv=>if kv.1=ks then (kv.1,v) else kv) (xs.map (putAt ks r)):=by
 induction q with
 | nil=>exact .nil
 | @cons p x l l' h _ ih=>
  refine .cons ?_ ih
  unfold putAt
  dsimp only
  by_cases e:p.1=ks
  ·rw [if_pos e,if_pos (h.1▸e)]
   exact ⟨h.1,h.2.1,h.2.2.1,rv⟩
  ·rw [if_neg e,if_neg (h.1▸e)]
   exact h
section
variable {X:Cx} {o i e f value:Expr} {pos pos' tpos apos cpos:Pos} {td ty tv tx:TE}
theorem pe_d2get2 (hu:X.A.units+2<cLine) (ho:PE X o td) (he:PE X e ty) (hf:PE X f tx) (base:attributeBase o "get" X.env (eval o X.env)=eval o X.env)
  (few:((backTo cpos (starEach [e,f] X.env)).all (fun x=>!x.1)&&(backToKw cpos (keywordEach [] X.env)).all (fun x=>x.1.isSome)&&decide (([e,f]:List Expr).length+([]:List Keyword).length+(if ([]:List Keyword).isEmpty then 0 else 1)<30))=true)
  (line:(apos.endLine==cpos.line)=true) (trees:backTo cpos (starEach [e,f] X.env)=[(false,eval e X.env),(false,eval f X.env)]) :
  PE X (.Call (.Attribute o "get" apos) [e,f] [] cpos) (tD2Get2 X.prog X.w X.K td ty tx):=by
 intro pins s σ H Q I h
 refine wpAny_Call_method base few line PySem.F.plainAttrs_dict PySem.F.slot_dict_get PySem.F.type_dict_get (thn (ho pins s σ H _ I h) fun u s1 ⟨x,H1,I1,rx,a,ex,⟨sh0,kvs0,xs0,e0,r0,nd0,_⟩,q1⟩=>?_)
 subst ex
 obtain rfl:u=Value.ref a:=rx
 have d0:=zBR I1 e0 r0 nd0
 refine ⟨d0.typeIs,fun b eb=>?_,?_⟩
 ·cases eb
  obtain ⟨ob,_,_,h1,h2,_⟩:=d0
  exact ⟨ob,h1,h2.2.1⟩
 rw [trees]
 refine Calls.callWith_builtin rfl (Calls.evalArgs_plain (Calls.spliced_cons (thn (he pins s1 σ H1 _ I1 q1) fun iv s2 ⟨y,H2,I2,ry,q2⟩=>
  Calls.spliced_cons (thn (hf pins s2 σ H2 _ I2 q2) fun fv s3 ⟨z,H3,I3,rz,b,sh,kvs,ks,ey,⟨xs,e,r,nd,hz,hd⟩,k,hsh,q3⟩=>Calls.spliced_nil ?_))))
 subst ey
 obtain rfl:iv=Value.ref b:=ry
 have dd:=zBR I3 e r nd
 refine call_meetsIn PySem.F.slot_dict_get dd.typeIs PySem.F.entry_dict_get (PySem.F.args_dict_get_3 _ _ _) (meetsH_dict_get_default (kind2 X.prog X.w sh) a b hd fv) ⟨room2 hu,ks,xs,⟨zB4 I3 k,hsh⟩,dd,?_⟩
 exact ⟨(valV kvs ks).getD z,H3,I3.tok _,(r.val ks).getD rz,q3⟩
theorem zF0 (hu:X.A.units+2<cLine) (ho:PE X o td) (hi:PE X i ty) (hv:PE X value tv) (hs:swapsWith value (some (.Subscript o i pos')) pos.line X.env=pure false) :
  PS X (.Assign [.Subscript o i pos'] value pos) (sD2Up X.prog X.w X.K td ty tv):=by
 intro pins s σ H D I h
 refine wpAny_Assign_Subscript (thn (hv pins s σ H _ I h) fun r s1 ⟨v,H1,I1,rv,q1⟩=>thn (ho pins s1 σ H1 _ I1 q1) fun u s2 ⟨x,H2,I2,rx,q2⟩=>thn (hi pins s2 σ H2 _ I2 q2) fun iv s3 ⟨y,H3,I3,ry,a,b,sh,kvs,ks,ex,ey,⟨xs,e,rr,nd,hz,hd⟩,k,hsh,hl,q3⟩=>?_) hs
 subst ex ey
 obtain rfl:u=Value.ref a:=rx
 obtain rfl:iv=Value.ref b:=ry
 have dd:=zBR I3 e rr nd
 have hb:(1000:Nat)<=sizeLine:=by decide
 have is:(valV kvs ks).isSome=(atKey xs ks).isSome:=by
  have q:=(rr.val ks).isSome_eq
  rw [Option.isSome_map] at q
  exact q
 refine wpAny_setItem_heap (hsz:=by omega) (room2 hu) ⟨zB4 I3 k,hsh⟩ dd fun h' dd' hs'=>?_
 obtain ⟨q,es,ep,hq,h2,h3,h4,_,h5⟩:=dd'
 have m:∀ys c zs,SqT X.K H3 c zs->SqT X.K (upd H3 a (oD2 X.prog X.w sh a ys)) c zs:=fun ys c zs hc=>by
  rcases hc with hc | hc
  ·left
   rcases hc with hc | ⟨o',hc⟩
   ·exact .inl (by rw [zAI (fun z=>by subst z;rw [e] at hc;cases hc)];exact hc)
   ·exact .inr ⟨o',by rw [zAI (fun z=>by subst z;rw [e] at hc;cases hc)];exact hc⟩
  ·exact .inr hc
 have I4:=zFH (t':=s3.toks+(kind2 X.prog X.w sh).draws ks) (ob:=oD2 X.prog X.w sh a (storedH xs ks b r)) I3 (by rw [e];exact True.intro) hs' ⟨q,hq⟩ (zES ⟨q,es,ep,hq,h2,h3,h4⟩)
 refine ⟨σ,_,I4,q3 _ ⟨storedH xs ks b r,zAF,?_,h5,?_,hd⟩⟩
 ·unfold putK storedH
  rw [zD1,is]
  split
  ·exact (kx_put rv rr).mono (m _)
  ·exact Paired.snoc (rr.mono (m _)) ⟨rfl,hsh,k.mono (m _),rv⟩
 ·unfold storedH
  split
  ·rw [length_map,<-rr.len];omega
  ·rw [length_append,length_singleton,<-rr.len];omega
end
noncomputable def ky (i j:Nat):List It:=[.inl (.inl (i:Int)),.inl (.inl (j:Int))]
theorem zFP {i j a b:Nat} (h:ky i j=ky a b):i=a/\j=b:=by
 simp only [ky,List.cons.injEq,Sum.inl.injEq,and_true] at h
 omega
noncomputable def kvG (ps:List (Nat×Nat)) (g:Nat->Nat->Bool):List (List It×V):=ps.map fun p=>(ky p.1 p.2,.bl (g p.1 p.2))
noncomputable def upG (g:Nat->Nat->Bool) (i j:Nat) (c:Bool):Nat->Nat->Bool:=fun a b=>if a=i/\b=j then c else g a b
noncomputable def DG (P:Program) (w:World) (K:Fg) (H:Hp) (a:Addr) (ps:List (Nat×Nat)) (g:Nat->Nat->Bool):Prop:=D2 P w K H [false,false] a (kvG ps g)
theorem zEU {g:Nat->Nat->Bool} {i j:Nat}:∀{ps:List (Nat×Nat)},(i,j)∈ps->valV (kvG ps g) (ky i j)=some (.bl (g i j))
 | (a,b)::ps,h=>by
  by_cases e:ky a b=ky i j
  ·obtain ⟨rfl,rfl⟩:=zFP e
   exact zD0 rfl
  ·refine (zCY (p:=(ky a b,V.bl (g a b))) (r:=kvG ps g) e).trans (zEU ((List.mem_cons.mp h).resolve_left fun z=>e ?_))
   cases z
   rfl
theorem zEH {g:Nat->Nat->Bool} {i j:Nat}:∀{ps:List (Nat×Nat)},(i,j)∉ps->valV (kvG ps g) (ky i j)=none
 | [],_=>rfl
 | (a,b)::ps,h=>by
  have e:¬ky a b=ky i j:=fun e=>h (by obtain ⟨rfl,rfl⟩:=zFP e;exact mem_cons_self)
  exact (zCY (p:=(ky a b,V.bl (g a b))) (r:=kvG ps g) e).trans (zEH fun z=>h (mem_cons_of_mem _ z))
theorem zF4 {i j:Nat} {c:Bool}:putK (kvG ps g) (ky i j) (.bl c)=kvG (if (i,j)∈ps then ps else ps++[(i,j)]) (upG g i j c):=by
 have key:∀ps:List (Nat×Nat),((kvG ps g).map fun kv=>if kv.1=ky i j then (kv.1,V.bl c) else kv)=kvG ps (upG g i j c):=fun ps=>by
  unfold kvG
  rw [map_map]
  refine map_congr_left fun p _=>?_
  simp only [Function.comp]
  by_cases e:ky p.1 p.2=ky i j
  ·rw [if_pos e]
   unfold upG
   rw [if_pos (zFP e)]
  ·rw [if_neg e]
   unfold upG
   rw [if_neg fun z=>e (by rw [z.1,z.2])]
 by_cases h:(i,j)∈ps
 ·rw [if_pos h]
  unfold putK
  rw [zD1,zEU h,if_pos (show (some (V.bl (g i j))).isSome=true from rfl),key]
 ·rw [if_neg h,putK_new _ (zEH h)]
  unfold kvG
  rw [map_append]
  congr 1
  ·refine map_congr_left fun p hp=>?_
   unfold upG
   rw [if_neg]
   rintro ⟨rfl,rfl⟩
   exact h hp
  ·simp [upG]
theorem zC3 {H:Hp} {i j:Nat}:K2 K (upd H b (.tup [.int (i:Int),.int (j:Int)])) (ky i j) b:=⟨_,.inl (.inl zAF),.cons rfl (.cons rfl .nil)⟩
theorem k2_at {H:Hp} {i j:Nat} (h:K2 K H (ky i j) b):SqT K H b [.int (i:Int),.int (j:Int)]:=by
 obtain ⟨vs,h,p⟩:=h
 cases p with
 | cons e p=>
  cases p with
  | cons e2 p=>
   cases p
   cases e
   cases e2
   exact h
theorem DG.grow {P:Program} {w:World} {H H':Hp} {a:Addr} (x:DG P w K H a ps g) (s:Same H H'):DG P w K H' a ps g:=by
 obtain ⟨xs,h1,h2,h3⟩:=x
 exact ⟨xs,s _ _ h1,h2.mono fun c xs=>SameT s,h3⟩
theorem pair_bs {H:Hp} (h:Paired (fun (p:List It×V) b=>K2 K H p.1 b) (kvG ps g) bs):bs.length=ps.length/\∀(k:Nat) (p:Nat×Nat),ps[k]?=some p->∃b,bs[k]?=some b/\SqT K H b [.int (p.1:Int),.int (p.2:Int)]:=by
 induction ps generalizing bs with
 | nil=>cases h;exact ⟨rfl,fun k p e=>by simp at e⟩
 | cons q ps ih=>
  cases h with
  | @cons _ b _ bs h1 h2=>
   obtain ⟨l,r⟩:=ih h2
   refine ⟨by simp [l],fun k p e=>?_⟩
   cases k with
   | zero=>cases e;exact ⟨b,rfl,k2_at h1⟩
   | succ k=>exact r k p (by simpa using e)
end T
namespace KC
open PySem PySem.Spec L2 T PySem.SeqAt
open PyProof.Rows hiding St
variable {ps:List (Nat×Nat)} {g:Nat->Nat->Bool} {vs:List V} {R:List Nat} {σ:St} {a t0 n c:Nat} {x5 x4 x6:Option V} {Qn:St->Hp->Prop} {o:Bool} {H':Hp} {K:Fg} {ds:List PySem.PyData}
noncomputable abbrev N_pr:List Str:=["world", "pairs", "one", "other", "there", "room"]
noncomputable abbrev G_pr:List Str:=["any"]
noncomputable def tRow (K:Fg) (a:Nat):TE:=tOp (rIx K) (tOp (rIx K) (tVar 0) (tC (.int 2))) (tVar a)
noncomputable def tGg (P:Program) (w:World) (K:Fg):TE:=tD2Get2 P w K (tVar 1) (tTup (tCons (tVar 4) (tCons (tVar 5) tNil))) (tC (.bl false))
noncomputable def tAnyG (P:Program) (w:World) (K:Fg) (c k:Nat):TE:=tCB (rAll K true) (tCons (tComp [c] (iList K (tRow K k)) (gName c) tTrue (tGg P w K)) tNil)
noncomputable def tLp (P:Program) (w:World) (K:Fg) (a k c b:Nat):L2.TS:=tFor (iList K (tRow K a)) (gName k) (tIfS (tNot (tB (tAnyG P w K c b))) (tRet (tC (.bl false))) tNext)
noncomputable def tPR (P:Program) (w:World) (K:Fg):L2.TS:=tSeq (tLp P w K 2 4 5 3) (tSeq (tLp P w K 3 5 4 2) (tRet (tC (.bl true))))
noncomputable def gD (ps:List (Nat×Nat)) (g:Nat->Nat->Bool) (i j:Nat):Bool:=decide ((i,j)∈ps)&&g i j
theorem kvG_getD {i j:Nat}:(valV (kvG ps g) (ky i j)).getD (.bl false)=.bl (gD ps g i j):=by
 unfold gD
 by_cases h:(i,j)∈ps
 ·rw [zEU h,decide_eq_true h];rfl
 ·rw [zEH h,decide_eq_false h];rfl
noncomputable def prB (w:Wd) (h:Nat->Nat->Bool) (i j:Nat):Bool:=((w.stp i).all fun t=>(w.stp j).any fun r=>h t r)&&(w.stp j).all fun r=>(w.stp i).any fun t=>h t r
noncomputable def spPR (P:Program) (w:World) (K:Fg):Sp:=fun vs H Q _=>∃(wd:Wd) (Hb:Hp) (v0:V) (d:Addr) (ps:List (Nat×Nat)) (g:Nat->Nat->Bool) (i j:Nat),vs=[v0,.ref d,.int (i:Int),.int (j:Int)]/\wd.Ok/\Same Hb H/\Rep K Hb v0 wd.enc/\DG P w K H d ps g/\i<wd.n/\j<wd.n/\∀H',Same H H'->Q (.bl (prB wd (gD ps g) i j)) H'
section
variable {P:Program} {w:World} {K:Fg} {Hb H:Hp} {v0:V} {wd:Wd} {d:Addr} {ps:List (Nat×Nat)} {g:Nat->Nat->Bool}
theorem vals_rms {H:Hp} (hl:vs.length=(R.map rm).length) (hr:∀(i:Nat) v d,vs[i]?=some v->(R.map rm)[i]?=some d->Rep K H v d):vs=R.map fun r:Nat=>V.int (r:Int):=by
 have:=vals_int (K:=K) (H:=H) (vs:=vs) (xs:=R.map fun r:Nat=>(r:Int)) (by rw [map_map];exact hl) (by rw [map_map];exact hr)
 rw [this,map_map]
 rfl
theorem rowL {k:Nat} {Q:VK} (ok:wd.Ok) (r:Rep K Hb v0 wd.enc) (s:Same Hb H) (ha:a<wd.n) (h0:σ[0]?=some (some v0)) (hk:σ[k]?=some (some (.int (a:Int)))) (q:∀p,SqL K Hb p ((wd.stp a).map fun t:Nat=>V.int (t:Int))->Q (.ref p) H):tRow K k σ H Q:=by
 refine ⟨v0,h0,?_⟩
 unfold Wd.enc tup3 at r
 cases r with
 | @tup p vs _ hq hl hr=>
  match vs,hl with
  | [u0,u1,u2],_=>
   have r2:=hr 2 u2 _ rfl rfl
   refine .inr (.inl ⟨p,_,2,u2,rfl,rfl,SameT s hq,rfl,.int (a:Int),hk,?_⟩)
   cases r2 with
   | @lst p2 rows _ hq2 hl2 hr2=>
    have hn:a<wd.s.length:=by rw [ok.ls];exact ha
    have hn2:a<rows.length:=by rw [hl2,length_map];exact hn
    have r3:=hr2 a rows[a] (rms (wd.stp a)) (getElem?_eq_getElem hn2) (by rw [getElem?_map,getElem?_eq_getElem hn];unfold Wd.stp;rw [getD_eq_getElem?_getD,getElem?_eq_getElem hn];rfl)
    refine .inl ⟨p2,rows,(a:Int),rows[a],rfl,rfl,s.seq hq2,zEW (getElem?_eq_getElem hn2),?_⟩
    generalize rows[a]=rv at r3
    cases r3 with
    | @lst p3 us _ hq3 hl3 hr3=>
     rw [vals_rms hl3 hr3] at hq3
     exact q p3 hq3
theorem any5 {i j:Nat} {Q:VK} (ok:wd.Ok) (r:Rep K Hb v0 wd.enc) (sb:Same Hb H) (hD:DG P w K H d ps g) (hj:j<wd.n) (q:∀H',Same H H'->Q (.bl ((wd.stp j).any fun t=>gD ps g t0 t)) H') :
  tAnyG P w K 5 3 [some v0,some (.ref d),some (.int (i:Int)),some (.int (j:Int)),some (.int (t0:Int)),x5] H Q:=by
 refine rowL ok r sb hj rfl rfl fun p hp=>⟨p,rfl,⟨_,sb.seq hp⟩,fun L hL=>?_⟩
 have hbl:blank [5] [some v0,some (.ref d),some (.int (i:Int)),some (.int (j:Int)),some (.int (t0:Int)),x5]=[some v0,some (.ref d),some (.int (i:Int)),some (.int (j:Int)),some (.int (t0:Int)),none]:=by simp [blank]
 generalize hrow:wd.stp j=row at hp q
 have hrl:row.length<=1000:=by
  have:=ok.st
  rw [<-hrow]
  unfold Wd.stp
  rw [getD_eq_getElem?_getD]
  cases e:wd.s[j]? with
  | none=>simp
  | some z=>have:=(ok.st z (mem_of_getElem? e)).2.1;show z.length<=1000;omega
 have hb:(1000:Nat)<=sizeLine:=by decide
 refine ⟨fun k m ys H2=>m=row.length-k/\k<=row.length/\ys=(row.take k).map (fun t=>V.bl (gD ps g t0 t))/\H2 L=some (.lst ys)/\Same H H2,⟨row.length,by simp,Nat.zero_le _,by simp,zAF,zAG hL⟩,?_⟩
 rintro k m ys H2 ⟨rfl,hk,rfl,hLs,sH⟩
 refine ⟨hLs,?_⟩
 have hq2:SqL K H2 p (row.map fun t:Nat=>V.int (t:Int)):=sH.seq (sb.seq hp)
 by_cases hlt:k<row.length
 case neg=>
  left
  refine ⟨⟨_,hq2,by rw [length_map];omega⟩,L,row.map (fun t=>gD ps g t0 t),rfl,.inl (.inl ?_),?_⟩
  ·rw [hLs,take_of_length_le (by omega),map_map];rfl
  ·rw [if_pos rfl,List.any_map]
   exact q H2 sH
 case pos=>
  right
  have e1:(row.map fun t:Nat=>V.int (t:Int))[k]?=some (.int (row[k]:Int)):=by rw [getElem?_map,getElem?_eq_getElem hlt];rfl
  refine ⟨⟨_,_,hq2,e1⟩,by rw [length_map,length_take];omega,?_⟩
  rintro v H3 ⟨rfl,hv⟩
  have ev:v=.int (row[k]:Int):=Option.some.inj ((hv _ hq2).symm.trans e1)
  subst ev
  rw [hbl]
  show LeS [some v0,some (.ref d),some (.int (i:Int)),some (.int (j:Int)),some (.int (t0:Int)),none] [some v0,some (.ref d),some (.int (i:Int)),some (.int (j:Int)),some (.int (t0:Int)),some (.int (row[k]:Int))]/\_
  refine ⟨⟨rfl,fun n u h=>?_⟩,?_⟩
  ·match n,h with
   | 0,h=>exact h
   | 1,h=>exact h
   | 2,h=>exact h
   | 3,h=>exact h
   | 4,h=>exact h
   | 5,h=>cases h
   | n+6,h=>cases h
  refine iteT' ?_
  have hD3:=hD.grow sH
  refine ⟨.ref d,rfl,d,rfl,⟨_,_,hD3⟩,_,rfl,_,rfl,Nat.le_trans (by decide:2<=1000) hb,fun b hb'=>⟨b,[false,false],kvG ps g,ky t0 row[k],rfl,hD3.grow (zAG hb'),zC3,rfl,?_,row.length-(k+1),by omega,rfl,hlt,?_,zAF,fun c o hc=>?_⟩⟩
  ·rw [zAI (zAX hLs hb')];exact hLs
  ·rw [kvG_getD,take_succ,getElem?_eq_getElem hlt,map_append];rfl
  ·rw [zAI (fun z=>by subst z;rw [hL] at hc;cases hc),zAI (zAX (sH c o hc) hb')]
   exact sH c o hc
theorem any4 {i j:Nat} {Q:VK} (ok:wd.Ok) (r:Rep K Hb v0 wd.enc) (sb:Same Hb H) (hD:DG P w K H d ps g) (hj:i<wd.n) (q:∀H',Same H H'->Q (.bl ((wd.stp i).any fun t=>gD ps g t t0)) H') :
  tAnyG P w K 4 2 [some v0,some (.ref d),some (.int (i:Int)),some (.int (j:Int)),x4,some (.int (t0:Int))] H Q:=by
 refine rowL ok r sb hj rfl rfl fun p hp=>⟨p,rfl,⟨_,sb.seq hp⟩,fun L hL=>?_⟩
 have hbl:blank [4] [some v0,some (.ref d),some (.int (i:Int)),some (.int (j:Int)),x4,some (.int (t0:Int))]=[some v0,some (.ref d),some (.int (i:Int)),some (.int (j:Int)),none,some (.int (t0:Int))]:=by simp [blank]
 generalize hrow:wd.stp i=row at hp q
 have hrl:row.length<=1000:=by
  have:=ok.st
  rw [<-hrow]
  unfold Wd.stp
  rw [getD_eq_getElem?_getD]
  cases e:wd.s[i]? with
  | none=>simp
  | some z=>have:=(ok.st z (mem_of_getElem? e)).2.1;show z.length<=1000;omega
 have hb:(1000:Nat)<=sizeLine:=by decide
 refine ⟨fun k m ys H2=>m=row.length-k/\k<=row.length/\ys=(row.take k).map (fun t=>V.bl (gD ps g t t0))/\H2 L=some (.lst ys)/\Same H H2,⟨row.length,by simp,Nat.zero_le _,by simp,zAF,zAG hL⟩,?_⟩
 rintro k m ys H2 ⟨rfl,hk,rfl,hLs,sH⟩
 refine ⟨hLs,?_⟩
 have hq2:SqL K H2 p (row.map fun t:Nat=>V.int (t:Int)):=sH.seq (sb.seq hp)
 by_cases hlt:k<row.length
 case neg=>
  left
  refine ⟨⟨_,hq2,by rw [length_map];omega⟩,L,row.map (fun t=>gD ps g t t0),rfl,.inl (.inl ?_),?_⟩
  ·rw [hLs,take_of_length_le (by omega),map_map];rfl
  ·rw [if_pos rfl,List.any_map]
   exact q H2 sH
 case pos=>
  right
  have e1:(row.map fun t:Nat=>V.int (t:Int))[k]?=some (.int (row[k]:Int)):=by rw [getElem?_map,getElem?_eq_getElem hlt];rfl
  refine ⟨⟨_,_,hq2,e1⟩,by rw [length_map,length_take];omega,?_⟩
  rintro v H3 ⟨rfl,hv⟩
  have ev:v=.int (row[k]:Int):=Option.some.inj ((hv _ hq2).symm.trans e1)
  subst ev
  rw [hbl]
  show LeS [some v0,some (.ref d),some (.int (i:Int)),some (.int (j:Int)),none,some (.int (t0:Int))] [some v0,some (.ref d),some (.int (i:Int)),some (.int (j:Int)),some (.int (row[k]:Int)),some (.int (t0:Int))]/\_
  refine ⟨⟨rfl,fun n u h=>?_⟩,?_⟩
  ·match n,h with
   | 0,h=>exact h
   | 1,h=>exact h
   | 2,h=>exact h
   | 3,h=>exact h
   | 4,h=>cases h
   | 5,h=>exact h
   | n+6,h=>cases h
  refine iteT' ?_
  have hD3:=hD.grow sH
  refine ⟨.ref d,rfl,d,rfl,⟨_,_,hD3⟩,_,rfl,_,rfl,Nat.le_trans (by decide:2<=1000) hb,fun b hb'=>⟨b,[false,false],kvG ps g,ky row[k] t0,rfl,hD3.grow (zAG hb'),zC3,rfl,?_,row.length-(k+1),by omega,rfl,hlt,?_,zAF,fun c o hc=>?_⟩⟩
  ·rw [zAI (zAX hLs hb')];exact hLs
  ·rw [kvG_getD,take_succ,getElem?_eq_getElem hlt,map_append];rfl
  ·rw [zAI (fun z=>by subst z;rw [hL] at hc;cases hc),zAI (zAX (sH c o hc) hb')]
   exact sH c o hc
theorem lp5 {i j:Nat} {D:Ends} (ok:wd.Ok) (r:Rep K Hb v0 wd.enc) (sb:Same Hb H) (hD:DG P w K H d ps g) (hi:i<wd.n) (hj:j<wd.n) (q:∀H' x4 x5,Same H H'->((wd.stp i).all fun t=>(wd.stp j).any fun r=>gD ps g t r)=true->D.nx [some v0,some (.ref d),some (.int (i:Int)),some (.int (j:Int)),x4,x5] H')
  (q2:∀H',Same H H'->((wd.stp i).all fun t=>(wd.stp j).any fun r=>gD ps g t r)=false->D.rt (.bl false) H'):tLp P w K 2 4 5 3 D [some v0,some (.ref d),some (.int (i:Int)),some (.int (j:Int)),x4,x5] H:=by
 refine rowL ok r sb hi rfl rfl fun p hp=>⟨p,rfl,⟨_,sb.seq hp⟩,?_⟩
 refine zB9 (xs:=(wd.stp i).map fun t:Nat=>V.int (t:Int)) (fun k σ' H'=>(∃x4 x5,σ'=[some v0,some (.ref d),some (.int (i:Int)),some (.int (j:Int)),x4,x5])/\Same H H'/\(((wd.stp i).take k).all fun t=>(wd.stp j).any fun r=>gD ps g t r)=true) ⟨⟨_,_,rfl⟩,Same.refl _,rfl⟩ (fun k σ' H' _ h=>h.2.1.seq (sb.seq hp)) (fun k x σ' H' e h=>?_) fun σ' H' h=>?_
 ·obtain ⟨⟨x4,x5,rfl⟩,sH,hall⟩:=h
  rw [getElem?_map] at e
  obtain ⟨t0,e1,rfl⟩:=Option.map_eq_some_iff.mp e
  refine any5 ok r (sb.trans sH) (hD.grow sH) hj fun H2 s2=>⟨_,rfl,?_⟩
  cases hb:(wd.stp j).any fun t=>gD ps g t0 t with
  | true=>
   refine iteF ⟨⟨_,_,rfl⟩,sH.trans s2,?_⟩
   rw [take_succ,e1,List.all_append,hall]
   simp [hb]
  | false=>
   refine iteT (q2 H2 (sH.trans s2) ?_)
   rw [List.all_eq_false]
   exact ⟨t0,mem_of_getElem? e1,by rw [hb];exact Bool.false_ne_true⟩
 ·obtain ⟨⟨x4,x5,rfl⟩,sH,hall⟩:=h
  rw [length_map,take_of_length_le (Nat.le_refl _)] at hall
  exact q H' x4 x5 sH hall
theorem lp4 {i j:Nat} {D:Ends} (ok:wd.Ok) (r:Rep K Hb v0 wd.enc) (sb:Same Hb H) (hD:DG P w K H d ps g) (hi:i<wd.n) (hj:j<wd.n) (q:∀H' x4 x5,Same H H'->((wd.stp j).all fun t=>(wd.stp i).any fun r=>gD ps g r t)=true->D.nx [some v0,some (.ref d),some (.int (i:Int)),some (.int (j:Int)),x4,x5] H')
  (q2:∀H',Same H H'->((wd.stp j).all fun t=>(wd.stp i).any fun r=>gD ps g r t)=false->D.rt (.bl false) H'):tLp P w K 3 5 4 2 D [some v0,some (.ref d),some (.int (i:Int)),some (.int (j:Int)),x4,x5] H:=by
 refine rowL ok r sb hj rfl rfl fun p hp=>⟨p,rfl,⟨_,sb.seq hp⟩,?_⟩
 refine zB9 (xs:=(wd.stp j).map fun t:Nat=>V.int (t:Int)) (fun k σ' H'=>(∃x4 x5,σ'=[some v0,some (.ref d),some (.int (i:Int)),some (.int (j:Int)),x4,x5])/\Same H H'/\(((wd.stp j).take k).all fun t=>(wd.stp i).any fun r=>gD ps g r t)=true) ⟨⟨_,_,rfl⟩,Same.refl _,rfl⟩ (fun k σ' H' _ h=>h.2.1.seq (sb.seq hp)) (fun k x σ' H' e h=>?_) fun σ' H' h=>?_
 ·obtain ⟨⟨x4,x5,rfl⟩,sH,hall⟩:=h
  rw [getElem?_map] at e
  obtain ⟨t0,e1,rfl⟩:=Option.map_eq_some_iff.mp e
  refine any4 ok r (sb.trans sH) (hD.grow sH) hi fun H2 s2=>⟨_,rfl,?_⟩
  cases hb:(wd.stp i).any fun t=>gD ps g t t0 with
  | true=>
   refine iteF ⟨⟨_,_,rfl⟩,sH.trans s2,?_⟩
   rw [take_succ,e1,List.all_append,hall]
   simp [hb]
  | false=>
   refine iteT (q2 H2 (sH.trans s2) ?_)
   rw [List.all_eq_false]
   exact ⟨t0,mem_of_getElem? e1,by rw [hb];exact Bool.false_ne_true⟩
 ·obtain ⟨⟨x4,x5,rfl⟩,sH,hall⟩:=h
  rw [length_map,take_of_length_le (Nat.le_refl _)] at hall
  exact q H' x4 x5 sH hall
theorem rd_pr {Q:VK} {E:XK} (h:spPR P w K vs H Q E):tPR P w K { nx:=Qn,rt:=Q } (L2.start N_pr vs) H:=by
 obtain ⟨wd,Hb,v0,d,ps,g,i,j,rfl,ok,sb,r,hD,hi,hj,q⟩:=h
 show tPR P w K { nx:=Qn,rt:=Q } [some v0,some (.ref d),some (.int (i:Int)),some (.int (j:Int)),none,none] H
 refine lp5 ok r sb hD hi hj (fun H1 x4 x5 s1 e1=>?_) fun H1 s1 e1=>?_
 ·refine lp4 ok r (sb.trans s1) (hD.grow s1) hi hj (fun H2 x4 x5 s2 e2=>?_) fun H2 s2 e2=>?_
  ·have:=q H2 (s1.trans s2)
   unfold prB at this
   rw [e1,e2] at this
   exact this
  ·have:=q H2 (s1.trans s2)
   unfold prB at this
   rw [e1,e2] at this
   exact this
 ·have:=q H1 s1
  unfold prB at this
  rw [e1] at this
  exact this
end
noncomputable def PrOk (P:Program) (w:World) (K:Fg) (mg:Str->Option Value) (base:Heap) (j:Nat):Prop:=
 ∃(f:Addr) (fd:FuncData) (ps:List Str),FnOk P w K mg base CX0 j f fd ps (spPR P w K)/\mg "_law_pair_right"=some (.ref f)/\PySem.W.keepIn K (.ref f)=true/\Binds K fd ps []
noncomputable def smB (w:Wd) (o:Bool) (i j:Nat):Bool:=(w.mks i==w.mks j)&&(!o||owI w i==owI w j)
noncomputable def psT (n i j:Nat):List (Nat×Nat):=((List.range i).flatMap fun a=>(List.range n).map fun b=>(a,b))++(List.range j).map fun b=>(i,b)
noncomputable def psN (n:Nat):List (Nat×Nat):=psT n n 0
theorem mem_psT {i j b:Nat}:(a,b)∈psT n i j↔(a<i/\b<n)\/(a=i/\b<j):=by
 unfold psT
 rw [List.mem_append,List.mem_flatMap,mem_map]
 constructor
 ·rintro (⟨x,h1,h2⟩ | ⟨x,h1,h2⟩)
  ·obtain ⟨y,h3,h4⟩:=List.mem_map.mp h2
   cases h4
   exact .inl ⟨List.mem_range.mp h1,List.mem_range.mp h3⟩
  ·cases h2
   exact .inr ⟨rfl,List.mem_range.mp h1⟩
 ·rintro (⟨h1,h2⟩ | ⟨rfl,h2⟩)
  ·exact .inl ⟨a,List.mem_range.mpr h1,List.mem_map.mpr ⟨b,List.mem_range.mpr h2,rfl⟩⟩
  ·exact .inr ⟨b,List.mem_range.mpr h2,rfl⟩
theorem mem_psN {b:Nat}:(a,b)∈psN n↔a<n/\b<n:=by
 unfold psN
 rw [mem_psT]
 constructor
 ·rintro (h | ⟨_,h⟩)
  ·exact h
  ·exact absurd h (Nat.not_lt_zero _)
 ·exact .inl
theorem zE4 {i j:Nat}:psT n i (j+1)=psT n i j++[(i,j)]:=by
 unfold psT
 rw [List.range_succ,map_append,append_assoc]
 rfl
theorem zE5 {i:Nat}:psT n (i+1) 0=psT n i n:=by
 unfold psT
 rw [List.range_succ,List.flatMap_append]
 simp
theorem zFB {i j:Nat}:(psT n i j).length=i*n+j:=by
 unfold psT
 rw [length_append,length_map,List.length_range]
 congr 1
 induction i with
 | zero=>simp
 | succ i ih=>
  rw [List.range_succ,List.flatMap_append,length_append,ih]
  simp [Nat.succ_mul]
structure Rt (w:Wd) (o:Bool) (R:Nat->Nat->Prop):Prop where
 sm:∀i j,i<w.n->j<w.n->R i j->smB w o i j=true
 fo:∀i j,i<w.n->j<w.n->R i j->∀t∈w.stp i,∃r∈w.stp j,R t r
 ba:∀i j,i<w.n->j<w.n->R i j->∀r∈w.stp j,∃t∈w.stp i,R t r
theorem prB_iff {w:Wd} {h:Nat->Nat->Bool} {i j:Nat}:prB w h i j=true↔(∀t∈w.stp i,∃r∈w.stp j,h t r=true)/\∀r∈w.stp j,∃t∈w.stp i,h t r=true:=by
 unfold prB
 simp only [Bool.and_eq_true,all_eq_true,any_eq_true]
theorem prB_congr {w:Wd} (ok:w.Ok) {h h':Nat->Nat->Bool} {i j:Nat} (e:∀a b,a<w.n->b<w.n->h a b=h' a b):prB w h i j=prB w h' i j:=by
 rw [Bool.eq_iff_iff,prB_iff,prB_iff]
 constructor
 ·rintro ⟨f,b⟩
  exact ⟨fun t ht=>let ⟨r,hr,x⟩:=f t ht;⟨r,hr,by rw [<-e _ _ (ok.stp_lt ht) (ok.stp_lt hr)];exact x⟩,fun r hr=>let ⟨t,ht,x⟩:=b r hr;⟨t,ht,by rw [<-e _ _ (ok.stp_lt ht) (ok.stp_lt hr)];exact x⟩⟩
 ·rintro ⟨f,b⟩
  exact ⟨fun t ht=>let ⟨r,hr,x⟩:=f t ht;⟨r,hr,by rw [e _ _ (ok.stp_lt ht) (ok.stp_lt hr)];exact x⟩,fun r hr=>let ⟨t,ht,x⟩:=b r hr;⟨t,ht,by rw [e _ _ (ok.stp_lt ht) (ok.stp_lt hr)];exact x⟩⟩
theorem prB_gD {w:Wd} (ok:w.Ok) {i j:Nat}:prB w (gD (psN w.n) g) i j=prB w g i j:=prB_congr ok fun a b ha hb=>by
 unfold gD
 rw [decide_eq_true (mem_psN.mpr ⟨ha,hb⟩),Bool.true_and]
structure Ga (w:Wd) (o:Bool) (g:Nat->Nat->Bool):Prop where
 sub:∀i j,i<w.n->j<w.n->g i j=true->smB w o i j=true
 max:∀R:Nat->Nat->Prop,Rt w o R->∀i j,i<w.n->j<w.n->R i j->g i j=true
structure Bis (w:Wd) (o:Bool) (g:Nat->Nat->Bool):Prop extends Ga w o g where
 rt:∀i j,i<w.n->j<w.n->g i j=true->prB w g i j=true
theorem Ga.start {w:Wd}:Ga w o (smB w o):=⟨fun _ _ _ _ h=>h,fun R r i j hi hj h=>r.sm i j hi hj h⟩
theorem Ga.step {w:Wd} (ok:w.Ok) (h:Ga w o g) {i j:Nat} (hi:i<w.n) (hj:j<w.n) (hp:prB w g i j=false):Ga w o (upG g i j false):=by
 refine ⟨fun a b ha hb e=>?_,fun R r a b ha hb e=>?_⟩
 ·unfold upG at e
  split at e
  ·cases e
  ·exact h.sub a b ha hb e
 ·unfold upG
  split
  ·rename_i z
   obtain ⟨rfl,rfl⟩:=z
   have:prB w g a b=true:=prB_iff.mpr ⟨fun t ht=>let ⟨x,hx,y⟩:=r.fo a b ha hb e t ht;⟨x,hx,h.max R r t x (ok.stp_lt ht) (ok.stp_lt hx) y⟩,fun t ht=>let ⟨x,hx,y⟩:=r.ba a b ha hb e t ht;⟨x,hx,h.max R r x t (ok.stp_lt hx) (ok.stp_lt ht) y⟩⟩
   rw [hp] at this
   cases this
  ·exact h.max R r a b ha hb e
noncomputable def cnt (ps:List (Nat×Nat)) (g:Nat->Nat->Bool):Nat:=ps.countP fun p=>g p.1 p.2
theorem cnt_le {i j:Nat} (ps:List (Nat×Nat)):cnt ps (upG g i j false)<=cnt ps g:=by
 refine List.countP_mono_left fun p _ h=>?_
 unfold upG at h
 split at h
 ·cases h
 ·exact h
theorem cnt_lt {g:Nat->Nat->Bool} {i j:Nat} (h:g i j=true):∀{ps:List (Nat×Nat)},(i,j)∈ps->cnt ps (upG g i j false)<cnt ps g
 | p::ps,m=>by
  have le:=cnt_le (g:=g) (i:=i) (j:=j) ps
  unfold cnt at le ⊢
  rw [List.countP_cons,List.countP_cons]
  rcases List.mem_cons.mp m with e | m
  ·subst e
   have:upG g i j false i j=false:=by unfold upG;rw [if_pos ⟨rfl,rfl⟩]
   simp only [this,h]
   simp
   omega
  ·have lt:=cnt_lt h m
   unfold cnt at lt
   have:(if upG g i j false p.1 p.2=true then 1 else 0)<=(if g p.1 p.2=true then 1 else 0):=by
    unfold upG
    by_cases z:p.1=i/\p.2=j
    ·rw [if_pos z];simp
    ·rw [if_neg z];exact Nat.le_refl _
   omega
theorem upG_same {i j:Nat}:upG g i j (g i j)=g:=by
 funext a b
 unfold upG
 split
 ·rename_i z;rw [z.1,z.2]
 ·rfl
theorem Bis.rel {w:Wd} (ok:w.Ok) (b:Bis w o g):Rt w o fun i j=>g i j=true/\i<w.n/\j<w.n:=
 ⟨fun i j hi hj h=>b.sub i j hi hj h.1,fun i j hi hj h t ht=>let ⟨r,hr,x⟩:=(prB_iff.mp (b.rt i j hi hj h.1)).1 t ht;⟨r,hr,x,ok.stp_lt ht,ok.stp_lt hr⟩,fun i j hi hj h r hr=>let ⟨t,ht,x⟩:=(prB_iff.mp (b.rt i j hi hj h.1)).2 r hr;⟨t,ht,x,ok.stp_lt ht,ok.stp_lt hr⟩⟩
noncomputable def Lk (w:Wd) (o:Bool) (i j:Nat):Prop:=∃R,Rt w o R/\R i j
theorem Bis.lk {w:Wd} (ok:w.Ok) (b:Bis w o g) {i j:Nat} (hi:i<w.n) (hj:j<w.n):g i j=true↔Lk w o i j:=
 ⟨fun h=>⟨_,b.rel ok,h,hi,hj⟩,fun ⟨R,r,h⟩=>b.max R r i j hi hj h⟩
noncomputable abbrev N_al:List Str:=["world", "owned", "many", "pairs", "one", "other", "same", "more"]
noncomputable abbrev G_al:List Str:=["len", "range", "list", "_law_pair_right"]
noncomputable def tIt (K:Fg) (c:Int) (k:Nat):TE:=tOp (rIx K) (tOp (rIx K) (tVar 0) (tC (.int c))) (tVar k)
noncomputable def tSame (K:Fg):TE:=tAndV (tOp (rEqD K false) (tIt K 1 4) (tIt K 1 5)) (tOrV (tNotV (tVar 1)) (tOp (rEqD K false) (tIt K 0 4) (tIt K 0 5)))
noncomputable def tPair (a b:Nat):TE:=tTup (tCons (tVar a) (tCons (tVar b) tNil))
noncomputable def tFill (P:Program) (w:World) (K:Fg):L2.TS:=tFor (iRng1 (tCons (tVar 2) tNil)) (gName 4) (tFor (iRng1 (tCons (tVar 2) tNil)) (gName 5) (tSeq (tAsg (tSame K) (gName 6)) (sD2Up P w K (tVar 3) (tPair 4 5) (tVar 6))))
noncomputable def tTst (P:Program) (w:World) (K:Fg):TT:=tAnd (tB (zFK P w K (tVar 3) (tPair 4 5))) (tNot (tB (tCall (spPR P w K) [] L2.E0 (tCons (tVar 0) (tCons (tVar 3) (tCons (tVar 4) (tCons (tVar 5) tNil)))))))
noncomputable def tSwp (P:Program) (w:World) (K:Fg):L2.TS:=tFor (iList K (tCB (rD2List P w K) (tCons (tVar 3) tNil))) (gTup K 2 (gCons (gName 4) (gCons (gName 5) gNil))) (tIfS (tTst P w K) (tSeq (sD2Up P w K (tVar 3) (tPair 4 5) (tC (.bl false))) (tAsg (tC (.bl true)) (gName 7))) tNext)
noncomputable def rLen (K:Fg):List V->Hp->VK->Prop:=fun xs H Q=>∃p ys,xs=[.ref p]/\(SqL K H p ys\/SqT K H p ys)/\Q (.int ys.length) H
noncomputable def tAL (P:Program) (w:World) (K:Fg):L2.TS:=tSeq (tAsg (tCB (rLen K) (tCons (tOp (rIx K) (tVar 0) (tC (.int 0))) tNil)) (gName 2)) (tSeq (tAsg (zGB P w K [false,false]) (gName 3)) (tSeq (tFill P w K) (tSeq (tAsg (tC (.bl true)) (gName 7)) (tSeq (zEQ (tB (tVar 7)) (tSeq (tAsg (tC (.bl false)) (gName 7)) (tSwp P w K))) (tRet (tVar 3))))))
noncomputable def spAL (P:Program) (w:World) (K:Fg):Sp:=fun vs H Q _=>∃(wd:Wd) (Hb:Hp) (v0:V) (o:Bool),vs=[v0,.bl o]/\wd.Ok/\Same Hb H/\Rep K Hb v0 wd.enc/\∀d H' g,Same H H'->H d=none->DG P w K H' d (psN wd.n) g->Bis wd o g->Q (.ref d) H'
noncomputable def SD (d:Addr) (H H':Hp):Prop:=∀c o,c≠d->H c=some o->H' c=some o
theorem SD.of {d:Addr} {H:Hp} (s:Same H H'):SD d H H':=fun c o _ h=>s c o h
theorem SD.trans {d:Addr} {H H1 H2:Hp} (a:SD d H H1) (b:SD d H1 H2):SD d H H2:=fun c o n h=>b c o n (a c o n h)
theorem SD.upd {d:Addr} {H:Hp} {o:HO}:SD d H (upd H d o):=fun c u n h=>by rw [zAI n];exact h
theorem SD.same {d:Addr} {H0 H:Hp} (s:Same H0 H) (hd:H0 d=none) (x:SD d H H'):Same H0 H':=fun c o h=>x c o (fun z=>by subst z;rw [hd] at h;cases h) (s c o h)
theorem SD.seqL {d p:Addr} {H:Hp} (x:SD d H H') (hd:∀vs o,H d≠some (.lst vs)/\H d≠some (.frz o (.lst vs))) (h:SqL K H p vs):SqL K H' p vs:=by
 rcases h with (h | ⟨o,h⟩) | h
 ·exact .inl (.inl (x _ _ (fun z=>by subst z;exact (hd vs default).1 h) h))
 ·exact .inl (.inr ⟨o,x _ _ (fun z=>by subst z;exact (hd vs o).2 h) h⟩)
 ·exact .inr h
theorem SD.seqT {d p:Addr} {H:Hp} (x:SD d H H') (hd:∀vs o,H d≠some (.tup vs)/\H d≠some (.frz o (.tup vs))) (h:SqT K H p vs):SqT K H' p vs:=by
 rcases h with (h | ⟨o,h⟩) | h
 ·exact .inl (.inl (x _ _ (fun z=>by subst z;exact (hd vs default).1 h) h))
 ·exact .inl (.inr ⟨o,x _ _ (fun z=>by subst z;exact (hd vs o).2 h) h⟩)
 ·exact .inr h
theorem eqTx {a b:List Str} (ha:∀x∈a,PyData.strOk x=true) (hb:∀x∈b,PyData.strOk x=true):gEq (txs a) (txs b)=some (.bool (a==b)):=by
 have sh:∀l:List Str,(∀x∈l,PyData.strOk x=true)->shaped (txs l)=true:=fun l h=>sh_rowS fun d hd=>by
  obtain ⟨x,hx,rfl⟩:=List.mem_map.mp hd
  exact ⟨x,rfl,h x hx⟩
 have eq:∀a b:List Str,PyData.eqvAll (a.map .str) (b.map .str)=(a==b):=fun a=>by
  induction a with
  | nil=>intro b;cases b<;>rw [List.map_nil]<;>simp [PyData.eqvAll]
  | cons x a ih=>
   intro b
   cases b with
   | nil=>simp [PyData.eqvAll]
   | cons y b=>rw [map_cons,map_cons,PyData.eqvAll,ih b];simp [PyData.eqv]
 unfold gEq
 rw [sh a ha,sh b hb]
 show some (PyData.bool (PyData.eqvAll (a.map .str) (b.map .str)))=_
 rw [eq]
theorem gEq_of {a b:PySem.PyData} {c:Bool} (h:gEq a b=some (.bool c)):shaped a=true/\shaped b=true/\PyData.eqv a b=c:=by
 unfold gEq at h
 split at h
 ·rename_i z
  rw [Bool.and_eq_true] at z
  exact ⟨z.1,z.2,by simpa using h⟩
 ·cases h
section
variable {P:Program} {w:World} {K:Fg} {Hb H:Hp} {v0:V} {wd:Wd} {d:Addr} {o:Bool}
theorem partL {xs:List PySem.PyData} {Q:VK} (he:wd.enc=.tuple ds) (hc:ds[c]?=some (.list xs)) (r:Rep K Hb v0 wd.enc) (s:Same Hb H) (h0:σ[0]?=some (some v0)) (q:∀p vs,SqL K Hb p vs->vs.length=xs.length->(∀(i:Nat) v d,vs[i]?=some v->xs[i]?=some d->Rep K Hb v d)->Q (.ref p) H):tOp (rIx K) (tVar 0) (tC (.int (c:Int))) σ H Q:=by
 refine ⟨v0,h0,?_⟩
 rw [he] at r
 cases r with
 | @tup p vs _ hq hl hr=>
  have hlt:=(List.getElem?_eq_some_iff.mp hc).1
  have hl2:c<vs.length:=by omega
  have r2:=hr c vs[c] _ (getElem?_eq_getElem hl2) hc
  refine .inr (.inl ⟨p,_,(c:Int),vs[c],rfl,rfl,SameT s hq,zEW (getElem?_eq_getElem hl2),?_⟩)
  generalize vs[c]=u at r2
  cases r2 with
  | @lst p2 rows _ hq2 hl2 hr2=>exact q p2 rows hq2 hl2 hr2
theorem itL {k:Nat} {xs:List PySem.PyData} {x:PySem.PyData} {Q:VK} (he:wd.enc=.tuple ds) (hc:ds[c]?=some (.list xs)) (hx:xs[a]?=some x) (r:Rep K Hb v0 wd.enc) (s:Same Hb H) (h0:σ[0]?=some (some v0)) (hk:σ[k]?=some (some (.int (a:Int)))) (q:∀v,Rep K Hb v x->Q v H):tIt K (c:Int) k σ H Q:=by
 refine partL he hc r s h0 fun p vs hq hl hr=>⟨.int (a:Int),hk,?_⟩
 have hlt:=(List.getElem?_eq_some_iff.mp hx).1
 have hl2:a<vs.length:=by omega
 exact .inl ⟨p,vs,(a:Int),vs[a],rfl,rfl,s.seq hq,zEW (getElem?_eq_getElem hl2),q _ (hr a vs[a] x (getElem?_eq_getElem hl2) hx)⟩
theorem os_at (ok:wd.Ok) {r:Nat} (hr:r<wd.n):wd.os[r]?=some (.int (owI wd r)):=by
 obtain ⟨q,hq,e,h⟩:=ok.o_at hr
 have:owI wd r=q:=by
  unfold owI
  rw [h 0]
  rcases hq with rfl | rfl<;>rfl
 rw [this]
 unfold atI ixN at e
 rw [if_pos (by omega)] at e
 split at e
 ·simpa using e
 ·cases e
theorem rd_same {i j:Nat} {Q:VK} (ok:wd.Ok) (r:Rep K Hb v0 wd.enc) (s:Same Hb H) (hi:i<wd.n) (hj:j<wd.n) (h0:σ[0]?=some (some v0)) (h1:σ[1]?=some (some (.bl o))) (h4:σ[4]?=some (some (.int (i:Int)))) (h5:σ[5]?=some (some (.int (j:Int)))) (q:Q (.bl (smB wd o i j)) H):tSame K σ H Q:=by
 have mk:∀{a:Nat},a<wd.n->(wd.m.map txs)[a]?=some (txs (wd.mks a)):=fun {a} h=>by
  rw [getElem?_map]
  unfold Wd.mks
  rw [getD_eq_getElem?_getD,getElem?_eq_getElem (by rw [ok.lm];exact h)]
  rfl
 have mc:∀a,∀c∈wd.mks a,PyData.strOk c=true:=fun a c hc=>by
  unfold Wd.mks at hc
  rw [getD_eq_getElem?_getD] at hc
  cases e:wd.m[a]? with
  | none=>rw [e] at hc;simp at hc
  | some z=>rw [e] at hc;exact ok.mc z (mem_of_getElem? e) c hc
 unfold smB at q
 refine itL (c:=1) (ds:=[.list wd.os,.list (wd.m.map txs),.list (wd.s.map rms)]) rfl rfl (mk hi) r s h0 h4 fun va ra=>itL (c:=1) (ds:=[.list wd.os,.list (wd.m.map txs),.list (wd.s.map rms)]) rfl rfl (mk hj) r s h0 h5 fun vb rb=>?_
 obtain ⟨a1,a2,a3⟩:=gEq_of (eqTx (mc i) (mc j))
 refine ⟨_,_,ra.mono s,rb.mono s,a1,a2,_,rfl,?_⟩
 rw [if_neg Bool.false_ne_true,a3]
 cases e:(wd.mks i==wd.mks j) with
 | false=>
  rw [e] at q
  exact iteF q
 | true=>
  rw [e] at q
  refine iteT ⟨.bl o,h1,o,rfl,_,rfl,?_⟩
  cases o with
  | false=>exact iteT q
  | true=>
   refine iteF (itL (c:=0) (ds:=[.list wd.os,.list (wd.m.map txs),.list (wd.s.map rms)]) rfl rfl (os_at ok hi) r s h0 h4 fun va ra=>itL (c:=0) (ds:=[.list wd.os,.list (wd.m.map txs),.list (wd.s.map rms)]) rfl rfl (os_at ok hj) r s h0 h5 fun vb rb=>?_)
   obtain ⟨a1,a2,a3⟩:=gEq_of (eq_int (a:=owI wd i) (b:=owI wd j))
   refine ⟨_,_,ra.mono s,rb.mono s,a1,a2,?_⟩
   rw [if_neg Bool.false_ne_true,a3]
   exact q
end
noncomputable abbrev sg (v0:V) (o:Bool) (n:Nat) (d:Addr) (x4 x5 x6 x7:Option V):St:=[some v0,some (.bl o),some (.int (n:Int)),some (.ref d),x4,x5,x6,x7]
theorem zFD:(kvG ps g).length=ps.length:=by unfold kvG;rw [length_map]
theorem DG_ext {P:Program} {w:World} {H:Hp} {a:Addr} (x:DG P w K H a ps g):∃φ,H a=some (.ext φ):=let ⟨_,h,_⟩:=x;⟨_,h⟩
section
variable {P:Program} {w:World} {K:Fg} {Hb H0 H:Hp} {v0:V} {wd:Wd} {d:Addr} {o:Bool}
theorem zC2 {a b:V}:([a,b]:List V).length<=sizeLine:=Nat.le_trans (by decide:2<=1000) (by decide)
theorem rd_fill {x7:Option V} {D:Ends} (ok:wd.Ok) (r:Rep K Hb v0 wd.enc) (sb:Same Hb H0) (s0:Same H0 H) (hd0:H0 d=none) (hD:DG P w K H d [] (smB wd o)) (q:∀H' x4 x5 x6,Same H0 H'->DG P w K H' d (psN wd.n) (smB wd o)->D.nx (sg v0 o wd.n d x4 x5 x6 x7) H'):tFill P w K D (sg v0 o wd.n d x4 x5 x6 x7) H:=by
 have h24:=ok.h24
 refine ⟨.int (wd.n:Int),rfl,(wd.n:Int),rfl,by omega,by omega,?_⟩
 refine zDJ (n:=wd.n) (fun i σ' H'=>(∃x4 x5 x6,σ'=sg v0 o wd.n d x4 x5 x6 x7)/\Same H0 H'/\DG P w K H' d (psT wd.n i 0) (smB wd o)) ⟨⟨_,_,_,rfl⟩,s0,hD⟩ (fun i σ' H' hi h=>?_) fun σ' H' h=>?_
 ·obtain ⟨⟨x4,x5,x6,rfl⟩,s1,hD1⟩:=h
  rw [Int.zero_add]
  refine ⟨.int (wd.n:Int),rfl,(wd.n:Int),rfl,by omega,by omega,?_⟩
  refine zDJ (n:=wd.n) (fun j σ' H'=>(∃x5 x6,σ'=sg v0 o wd.n d (some (.int (i:Int))) x5 x6 x7)/\Same H0 H'/\DG P w K H' d (psT wd.n i j) (smB wd o)) ⟨⟨_,_,rfl⟩,s1,hD1⟩ (fun j σ' H' hj h=>?_) fun σ' H' h=>?_
  ·obtain ⟨⟨x5,x6,rfl⟩,s2,hD2⟩:=h
   rw [Int.zero_add]
   refine rd_same (o:=o) (i:=i) (j:=j) ok r (sb.trans s2) hi hj rfl rfl rfl rfl ?_
   refine ⟨_,rfl,.ref d,rfl,_,rfl,_,rfl,zC2,fun b hb=>⟨d,b,[false,false],_,ky i j,rfl,rfl,hD2.grow (zAG hb),zC3,rfl,?_,fun ob hD3=>⟨⟨_,_,rfl⟩,?_,?_⟩⟩⟩
   ·rw [zFD,zFB]
    have:i*wd.n<=23*24:=Nat.mul_le_mul (by omega) h24
    omega
   ·exact SD.same (s2.trans (zAG hb)) hd0 SD.upd
   ·rw [zF4,if_neg (fun z=>by rcases mem_psT.mp z with z | z<;>omega),upG_same,<-zE4] at hD3
    exact hD3
  ·obtain ⟨⟨x5,x6,rfl⟩,s2,hD2⟩:=h
   exact ⟨⟨_,_,_,rfl⟩,s2,by rw [zE5];exact hD2⟩
 ·obtain ⟨⟨x4,x5,x6,rfl⟩,s1,hD1⟩:=h
  exact q H' x4 x5 x6 s1 hD1
theorem rd_swp {D:Ends} (ok:wd.Ok) (r:Rep K Hb v0 wd.enc) (sb:Same Hb H0) (s0:Same H0 H) (hd0:H0 d=none) (hD:DG P w K H d (psN wd.n) g) (ga:Ga wd o g)
  (q:∀H' x4 x5 mo g',Same H0 H'->DG P w K H' d (psN wd.n) g'->Ga wd o g'->(mo=false->g'=g/\∀p∈psN wd.n,g p.1 p.2=true->prB wd g p.1 p.2=true)->(mo=true->cnt (psN wd.n) g'<cnt (psN wd.n) g)->D.nx (sg v0 o wd.n d x4 x5 x6 (some (.bl mo))) H') :
  tSwp P w K D (sg v0 o wd.n d x4 x5 x6 (some (.bl false))) H:=by
 have h24:=ok.h24
 refine ⟨.ref d,rfl,d,[false,false],_,rfl,hD,fun l bs hl hp=>⟨l,rfl,⟨_,.inl (.inl zAF)⟩,?_⟩⟩
 obtain ⟨hbl,hbs⟩:=pair_bs hp
 obtain ⟨φ,hφ⟩:=DG_ext hD
 have hdl:d≠l:=fun z=>by rw [<-z,hφ] at hl;cases hl
 have sl:Same H (upd H l (.lst (bs.map V.ref))):=zAG hl
 have hφ1:upd H l (.lst (bs.map V.ref)) d=some (.ext φ):=sl _ _ hφ
 refine zB9 (xs:=bs.map V.ref) (fun k σ' H'=>∃x4 x5 mo g',σ'=sg v0 o wd.n d x4 x5 x6 (some (.bl mo))/\Same H0 H'/\SD d (upd H l (.lst (bs.map V.ref))) H'/\DG P w K H' d (psN wd.n) g'/\Ga wd o g'/\(mo=false->g'=g/\∀p∈(psN wd.n).take k,g p.1 p.2=true->prB wd g p.1 p.2=true)/\(mo=true->cnt (psN wd.n) g'<cnt (psN wd.n) g))
  ⟨_,_,false,g,rfl,s0.trans sl,fun _ _ _ h=>h,hD.grow sl,ga,fun _=>⟨rfl,fun p hp=>by simp at hp⟩,nofun⟩ (fun k σ' H' _ h=>?_) (fun k x σ' H' e h=>?_) fun σ' H' h=>?_
 ·obtain ⟨_,_,_,_,_,_,sd,_⟩:=h
  exact sd.seqL (fun vs o=>⟨(by rw [hφ1];intro z;cases z),(by rw [hφ1];intro z;cases z)⟩) (.inl (.inl zAF))
 ·obtain ⟨x4,x5,mo,g',rfl,s1,sd,hD1,ga1,h1,h2⟩:=h
  rw [getElem?_map] at e
  obtain ⟨b,eb,rfl⟩:=Option.map_eq_some_iff.mp e
  have hk:k<(psN wd.n).length:=by rw [<-hbl];exact (List.getElem?_eq_some_iff.mp eb).1
  have ek:(psN wd.n)[k]?=some (psN wd.n)[k]:=getElem?_eq_getElem hk
  obtain ⟨b',eb',hT⟩:=hbs k _ ek
  rw [eb] at eb'
  cases eb'
  have hmem:(psN wd.n)[k]∈psN wd.n:=getElem_mem hk
  have htk:(psN wd.n).take (k+1)=(psN wd.n).take k++[(psN wd.n)[k]]:=by rw [take_succ,ek];rfl
  generalize (psN wd.n)[k]=p at ek hT hmem htk
  obtain ⟨i,j⟩:=p
  obtain ⟨hi,hj⟩:=mem_psN.mp hmem
  have hT1:SqT K H' b [.int (i:Int),.int (j:Int)]:=sd.seqT (fun vs o=>⟨(by rw [hφ1];intro z;cases z),(by rw [hφ1];intro z;cases z)⟩) (SameT sl hT)
  refine ⟨b,_,rfl,hT1,rfl,_,_,rfl,_,_,rfl,rfl,?_⟩
  refine ⟨.ref d,rfl,_,rfl,_,rfl,zC2,fun b1 hb1=>⟨d,b1,[false,false],_,ky i j,_,rfl,rfl,hD1.grow (zAG hb1),zC3,rfl,zEU hmem,_,rfl,?_⟩⟩
  have s2:=s1.trans (zAG (o:=.tup [.int (i:Int),.int (j:Int)]) hb1)
  have sd2:=sd.trans (SD.of (d:=d) (zAG (o:=.tup [.int (i:Int),.int (j:Int)]) hb1))
  have hD2:=hD1.grow (zAG (o:=.tup [.int (i:Int),.int (j:Int)]) hb1)
  cases eg:g' i j with
  | false=>
   refine iteF (iteF ⟨_,_,mo,g',rfl,s2,sd2,hD2,ga1,fun z=>⟨(h1 z).1,fun p hp=>?_⟩,h2⟩)
   rw [htk] at hp
   rcases List.mem_append.mp hp with hp | hp
   ·exact (h1 z).2 p hp
   ·rw [List.mem_singleton.mp hp]
    intro y
    rw [<-(h1 z).1,eg] at y
    cases y
  | true=>
   refine iteT ⟨v0,rfl,.ref d,rfl,_,rfl,_,rfl,wd,Hb,v0,d,psN wd.n,g',i,j,rfl,ok,sb.trans s2,r,hD2,hi,hj,fun H3 s3=>⟨_,rfl,?_⟩⟩
   rw [prB_gD ok]
   cases ep:prB wd g' i j with
   | true=>
    refine iteF ⟨_,_,mo,g',rfl,s2.trans s3,sd2.trans (SD.of s3),hD2.grow s3,ga1,fun z=>⟨(h1 z).1,fun p hp=>?_⟩,h2⟩
    rw [htk] at hp
    rcases List.mem_append.mp hp with hp | hp
    ·exact (h1 z).2 p hp
    ·rw [List.mem_singleton.mp hp]
     intro y
     rw [<-(h1 z).1]
     exact ep
   | false=>
    refine iteT ⟨.ref d,rfl,_,rfl,_,rfl,zC2,fun b2 hb2=>⟨d,b2,[false,false],_,ky i j,rfl,rfl,(hD2.grow s3).grow (zAG hb2),zC3,rfl,?_,fun ob hD3=>⟨_,_,true,upG g' i j false,rfl,?_,?_,?_,ga1.step ok hi hj ep,fun z=>(nomatch z),fun _=>?_⟩⟩⟩
    ·rw [zFD]
     unfold psN
     rw [zFB]
     have:wd.n*wd.n<=24*24:=Nat.mul_le_mul h24 h24
     omega
    ·exact SD.same ((s2.trans s3).trans (zAG hb2)) hd0 SD.upd
    ·exact (sd2.trans (SD.of (s3.trans (zAG hb2)))).trans SD.upd
    ·rw [zF4,if_pos hmem] at hD3
     exact hD3
    ·have lt:=cnt_lt eg hmem
     cases mo with
     | false=>rw [(h1 rfl).1] at lt ⊢;exact lt
     | true=>exact Nat.lt_trans lt (h2 rfl)
 ·obtain ⟨x4,x5,mo,g',rfl,s1,sd,hD1,ga1,h1,h2⟩:=h
  refine q H' x4 x5 mo g' s1 hD1 ga1 (fun z=>⟨(h1 z).1,fun p hp=>(h1 z).2 p ?_⟩) h2
  rw [length_map,hbl,take_of_length_le (Nat.le_refl _)]
  exact hp
theorem rd_al {Q:VK} {E:XK} (h:spAL P w K vs H Q E):tAL P w K { nx:=Qn,rt:=Q } (L2.start N_al vs) H:=by
 obtain ⟨wd,Hb,v0,o,rfl,ok,sb,r,q⟩:=h
 show tAL P w K { nx:=Qn,rt:=Q } [some v0,some (.bl o),none,none,none,none,none,none] H
 refine partL (wd:=wd) (c:=0) (ds:=[.list wd.os,.list (wd.m.map txs),.list (wd.s.map rms)]) rfl rfl r sb rfl fun p us hq hl hr=>⟨p,us,rfl,.inl (sb.seq hq),?_⟩
 have hos:wd.os.length=wd.n:=ok.g.lo
 rw [hl,hos]
 intro d ob hd hD0
 have sd:Same H (upd H d ob):=zAG hd
 refine rd_fill (H0:=H) ok r sb sd hd (show DG P w K _ d [] (smB wd o) from hD0) fun H1 x4 x5 x6 s1 hD1=>?_
 refine ⟨fun m σ' H'=>∃g x4 x5 mo,σ'=sg v0 o wd.n d x4 x5 x6 (some (.bl mo))/\Same H H'/\DG P w K H' d (psN wd.n) g/\Ga wd o g/\(mo=false->∀p∈psN wd.n,g p.1 p.2=true->prB wd g p.1 p.2=true)/\m=if mo then cnt (psN wd.n) g+1 else 0,⟨_,smB wd o,_,_,true,rfl,s1,hD1,Ga.start,fun z=>(nomatch z),rfl⟩,?_⟩
 rintro m σ' H2 ⟨g,x4,x5,mo,rfl,s2,hD2,ga,h1,rfl⟩
 refine ⟨.bl mo,rfl,mo,rfl,?_⟩
 cases mo with
 | false=>
  refine iteF ⟨.ref d,rfl,q d H2 g s2 hd hD2 ⟨ga,fun i j hi hj h=>h1 rfl (i,j) (mem_psN.mpr ⟨hi,hj⟩) h⟩⟩
 | true=>
  refine iteT ⟨fun σ' H'=>∃m',m'<cnt (psN wd.n) g+1/\∃g x4 x5 mo,σ'=sg v0 o wd.n d x4 x5 x6 (some (.bl mo))/\Same H H'/\DG P w K H' d (psN wd.n) g/\Ga wd o g/\(mo=false->∀p∈psN wd.n,g p.1 p.2=true->prB wd g p.1 p.2=true)/\m'=if mo then cnt (psN wd.n) g+1 else 0,fun σ' H' z=>z,?_⟩
  refine rd_swp ok r sb s2 hd hD2 ga fun H3 x4 x5 mo g' s3 hD3 ga3 e1 e2=>⟨if mo then cnt (psN wd.n) g'+1 else 0,?_,g',x4,x5,mo,rfl,s3,hD3,ga3,fun z=>?_,rfl⟩
  ·cases mo with
   | true=>have:=e2 rfl;rw [if_pos rfl];omega
   | false=>rw [if_neg Bool.false_ne_true];omega
  ·rw [(e1 z).1]
   exact (e1 z).2
end
noncomputable def AlOk (P:Program) (w:World) (K:Fg) (mg:Str->Option Value) (base:Heap) (j:Nat):Prop:=
 ∃(f:Addr) (fd:FuncData) (ps:List Str),FnOk P w K mg base CX0 j f fd ps (spAL P w K)/\mg "_law_alike"=some (.ref f)/\PySem.W.keepIn K (.ref f)=true/\Binds K fd ps []
noncomputable def tLn (K:Fg):TE:=tCB (rLen K) (tCons (tOp (rIx K) (tVar 0) (tC (.int 0))) tNil)
section
variable {P:Program} {w:World} {K:Fg} {Hb H0 H:Hp} {v0:V} {wd:Wd} {d f:Addr} {o:Bool} {g:Nat->Nat->Bool}
theorem rd_ln {Q:VK} (ok:wd.Ok) (r:Rep K Hb v0 wd.enc) (sb:Same Hb H) (h0:σ[0]?=some (some v0)) (q:Q (.int (wd.n:Int)) H):tLn K σ H Q:=by
 refine partL (wd:=wd) (c:=0) (ds:=[.list wd.os,.list (wd.m.map txs),.list (wd.s.map rms)]) rfl rfl r sb h0 fun p us hq hl hr=>⟨p,us,rfl,.inl (sb.seq hq),?_⟩
 have hos:wd.os.length=wd.n:=ok.g.lo
 rw [hl,hos]
 exact q
end
theorem rmsI {S:List Nat} (h:rms R=rms S):R=S:=(map_inj_right (f:=rm) fun a b e=>Int.ofNat_inj.mp (PyData.int.inj e)).mp (PyData.list.inj h)
theorem txsI {R S:List Str} (h:txs R=txs S):R=S:=(map_inj_right (f:=PyData.str) fun a b e=>PyData.str.inj e).mp (PyData.list.inj h)
theorem encI {w v:Wd} (ok:w.Ok) (ov:v.Ok) (h:w.enc=v.enc):w=v:=by
 have h:=PyData.tuple.inj h
 injection h with h1 h
 injection h with h2 h
 injection h with h3 _
 have h1:=PyData.list.inj h1
 have h2:=(map_inj_right (f:=txs) fun a b e=>txsI e).mp (PyData.list.inj h2)
 have h3:=(map_inj_right (f:=rms) fun a b e=>rmsI e).mp (PyData.list.inj h3)
 have hn:w.n=v.n:=by rw [<-ok.ls,<-ov.ls,h3]
 cases w
 cases v
 cases hn
 cases h1
 cases h2
 cases h3
 rfl
section
variable {P:Program} {w:World} {K:Fg} {mg:Str->Option Value} {base:Heap} {f:Addr} {fd:FuncData} {st:Stmt} {j k:Nat} {vs cs ls lo gs:List Nat}
noncomputable abbrev CaR (X:Cx):Prop:=∃(k:Nat) (f:Addr) (fd:FuncData) (ps:List Str),FnOk X.prog X.w X.K X.mg X.base CX0 k f fd ps (spPR X.prog X.w X.K)/\Room k X.A/\X.mg "_law_pair_right"=some (.ref f)/\PySem.W.keepIn X.K (.ref f)=true/\Binds X.K fd ps []
noncomputable abbrev CaA (X:Cx):Prop:=∃(k:Nat) (f:Addr) (fd:FuncData) (ps:List Str),FnOk X.prog X.w X.K X.mg X.base CX0 k f fd ps (spAL X.prog X.w X.K)/\Room k X.A/\X.mg "_law_alike"=some (.ref f)/\PySem.W.keepIn X.K (.ref f)=true/\Binds X.K fd ps []
theorem ok_pr (F:Fun K "_law_pair_right" "_law_pair_right" st f fd) (hm:mg "_law_pair_right"=some (.ref f)) (b:Binds K fd ["world", "pairs", "one", "other"] []) (sc:FnScope N_pr ["world", "pairs", "one", "other"] (zAH st)) (cp:cpB N_pr G_pr vs cs ls lo gs (zAH st)=true) (nm:nmB N_pr G_pr=true) (n_any:mg "any"=none)
  (bd:∀X:Cx,Cp X N_pr G_pr vs cs ls lo gs->Rm X->PassesOwn (model X.prog X.w) X.A X.env X.xe->X.mg "any"=none->PSs X (zA2 st) (tPR X.prog X.w X.K)):PrOk P w K mg base (k+1):=by
 refine ⟨f,fd,["world", "pairs", "one", "other"],F.ok sc (fun vs H Q E h=>?_) (fun cdv A outer s H vs Q E hr h=>?_),hm,F.kp,b⟩
 ·obtain ⟨_,_,_,_,_,_,_,_,rfl,_⟩:=h
  rfl
 ·exact ⟨_,bd _ (Cp.fn cp nm) hr.units PassesOwn.never n_any,rd_pr h⟩
theorem ok_al (F:Fun K "_law_alike" "_law_alike" st f fd) (hm:mg "_law_alike"=some (.ref f)) (b:Binds K fd ["world", "owned"] []) (sc:FnScope N_al ["world", "owned"] (zAH st)) (cp:cpB N_al G_al vs cs ls lo gs (zAH st)=true) (nm:nmB N_al G_al=true) (n_len:mg "len"=none) (n_range:mg "range"=none) (n_list:mg "list"=none)
  (c:PrOk P w K mg base j) (hj:decide (j<=k)=true)
  (bd:∀X:Cx,Cp X N_al G_al vs cs ls lo gs->Rm X->PassesOwn (model X.prog X.w) X.A X.env X.xe->X.mg "len"=none->X.mg "range"=none->X.mg "list"=none->CaR X->PSs X (zA2 st) (tAL X.prog X.w X.K)):AlOk P w K mg base (k+1):=by
 refine ⟨f,fd,["world", "owned"],F.ok sc (fun vs H Q E h=>?_) (fun cdv A outer s H vs Q E hr h=>?_),hm,F.kp,b⟩
 ·obtain ⟨_,_,_,_,rfl,_⟩:=h
  rfl
 ·obtain ⟨f',fd',ps',F',a',b',c'⟩:=c
  exact ⟨_,bd _ (Cp.fn cp nm) hr.units PassesOwn.never n_len n_range n_list ⟨j,f',fd',ps',F',hr.mono (of_decide_eq_true hj),a',b',c'⟩,rd_al h⟩
end
end KC
namespace KC
open PySem PySem.Spec L2 T
open PyProof.Rows hiding St
variable {X:Cx} {vs cs ls lo gs:List Nat} {p1 p2 p3 p4 p5 p6 p7:Pos} {k1 k2:Nat} {x:Str} {K:Fg} {mg:Str->Option Value} {base:Heap} {fd:FuncData}
noncomputable def s__law_alike:Stmt:=sTm 35
noncomputable def s__law_pair_right:Stmt:=sTm 36
theorem sc_pr:FnScope N_pr ["world", "pairs", "one", "other"] (zAH s__law_pair_right):=⟨rfl,rfl,rfl,by decide +kernel,rfl,by decide +kernel,by decide +kernel⟩
theorem cp_pr:cpB N_pr G_pr [0,1,2,3,4,5] [1,4,5] [0,1,2,3,4,5] [0,2,3] [0] (zAH s__law_pair_right)=true:=by kernel_rfl
theorem nm_pr:nmB N_pr G_pr=true:=by kernel_rfl
theorem sc_al:FnScope N_al ["world", "owned"] (zAH s__law_alike):=⟨rfl,rfl,rfl,by decide +kernel,rfl,by decide +kernel,by decide +kernel⟩
theorem cp_al:cpB N_al G_al [0,1,2,3,4,5,6,7] [] [0,1,2,3,4,5,6,7] [0,1,2,3,4,5,6,7] [0,1,2,3] (zAH s__law_alike)=true:=by kernel_rfl
theorem nm_al:nmB N_al G_al=true:=by kernel_rfl
theorem nvA {N gl:List Str} (S:Cp X N gl vs cs ls lo gs) (i:Nat) (x:Str) (pos:Pos) (e:N[i]?=some x) (hi:vs.contains i=true):PE X (.Name x pos) (tVar i):=by
 have m:=S.nm x (mem_of_getElem? e)
 exact zCD (by rw [S.hN];exact e) (S.vis i x e hi) m.1 m.2
noncomputable abbrev CpR (X:Cx):Prop:=Cp X N_pr G_pr [0,1,2,3,4,5] [1,4,5] [0,1,2,3,4,5] [0,2,3] [0]
theorem zGE (S:CpR X) (a:Nat) (ha:N_pr[a]?=some x) (ha2:[0,1,2,3,4,5].contains a=true):PE X (.Subscript (.Subscript (.Name "world" p1) (.Constant (.int 2) k1 p2) p3) (.Name x p4) p5) (tRow X.K a):=
 pe_ix zDI (pe_ix zDI (nvA S 0 _ _ rfl rfl) zEE (fun _ _=>rfl)) (nvA S a _ _ ha ha2) (fun _ _=>rfl)
theorem pr_get (S:Cp X N_pr G_pr vs cs ls lo gs) (hu:X.A.units+2<cLine) (h1:vs.contains 1=true) (h4:vs.contains 4=true) (h5:vs.contains 5=true) (hl:(p2.endLine==p7.line)=true) :
  PE X (.Call (.Attribute (.Name "pairs" p1) "get" p2) [.Tuple [.Name "there" p3,.Name "room" p4] k1 p5,.Constant (.bool false) k2 p6] [] p7) (tGg X.prog X.w X.K):=
 pe_d2get2 hu (nvA S 1 _ _ rfl h1) (zCQ (zAE (nvA S 4 _ _ rfl h4) (zAE (nvA S 5 _ _ rfl h5) zAS (zAA rfl)) (zAA rfl))) pe_bl rfl rfl hl rfl
theorem pr_any {scope:Scope} {c a:Nat} {cs':List Nat} {iter:Expr} {p0 p8 pos pos2:Pos} (S:CpR X) (hu:X.A.units+2<cLine) (n_any:X.mg "any"=none) (hx:N_pr[c]?=some x) (hi:PE X iter (tRow X.K a))
  (h1:zFS N_pr [c] [1,4,5] scope=true) (h2:cpB N_pr G_pr [1,4,5] cs' [c] [] [] scope=true) (hc:[c].contains c=true) (hl:(p2.endLine==p7.line)=true) (hs:∀x,foldedSetIterable iter X.env x=pure x) :
  PE X (.Call (.Name "any" p0) [.ListComp (.Call (.Attribute (.Name "pairs" p1) "get" p2) [.Tuple [.Name "there" p3,.Name "room" p4] k1 p5,.Constant (.bool false) k2 p6] [] p7) [⟨.Name x p8,iter,[],0⟩] scope pos] [] pos2) (tAnyG X.prog X.w X.K c a):=by
 have hN:X.N.Nodup:=by rw [S.hN];exact S.nd
 have B:=fun cells C s₀ H₀ ex=>S.blk h2 cells C s₀ H₀ ex
 exact zCZ (call_anyD S.calm) (S.g (j:=0) rfl rfl).1 n_any b_any (zAE (zE8 (zEL S h1) S.calm (zB2 hi)
  (fun cells C s₀ H₀ ex=>zB3 (X:=L2.blk X scope cells C s₀ H₀ ex) (i:=c) hN (by show X.N[c]?=_;rw [S.hN];exact hx) ((B cells C s₀ H₀ ex).loc c _ hx hc).1 ((B cells C s₀ H₀ ex).loc c _ hx hc).2)
  (fun cells C s₀ H₀ ex=>zGU)
  (fun cells C s₀ H₀ ex=>pr_get (X:=L2.blk X scope cells C s₀ H₀ ex) (B cells C s₀ H₀ ex) hu rfl rfl rfl hl) hs) zAS (zAA rfl)) (S.g (j:=0) rfl rfl).2.2 (S.g (j:=0) rfl rfl).2.1 (zAA rfl) rfl
theorem bd_pr (S:CpR X) (R:Rm X) (hp:PassesOwn (model X.prog X.w) X.A X.env X.xe) (n_any:X.mg "any"=none):PSs X (zA2 s__law_pair_right) (tPR X.prog X.w X.K):=by
 have hN:X.N.Nodup:=by rw [S.hN];exact S.nd
 have hu:X.A.units+2<cLine:=Nat.lt_of_le_of_lt (by omega) R
 have g:∀(i:Nat) (x:Str),N_pr[i]?=some x->X.N[i]?=some x:=fun i x e=>by rw [S.hN];exact e
 have lc:∀(i:Nat) (x:Str),N_pr[i]?=some x->[0,1,2,3,4,5].contains i=true->Loc X.env.scope x/\(X.fn x=true\/X.env.scope.names.lookup x=some .local):=fun i x e hi=>S.loc i x e hi
 refine zAJ (zB1 hp S.calm (zB2 (zGE S 2 rfl rfl)) (zB3 hN (g 4 _ rfl) (lc 4 _ rfl rfl).1 (lc 4 _ rfl rfl).2) (zAL (ps_if (zFM (zED (pr_any (cs':=[1,4]) S hu n_any rfl (zGE S 3 rfl rfl) (by kernel_rfl) (by kernel_rfl) rfl rfl (fun _=>rfl)))) (zAL (zBL pe_bl)) zBM)) (fun _=>rfl)) ?_
 refine zAJ (zB1 hp S.calm (zB2 (zGE S 3 rfl rfl)) (zB3 hN (g 5 _ rfl) (lc 5 _ rfl rfl).1 (lc 5 _ rfl rfl).2) (zAL (ps_if (zFM (zED (pr_any (cs':=[1,5]) S hu n_any rfl (zGE S 2 rfl rfl) (by kernel_rfl) (by kernel_rfl) rfl rfl (fun _=>rfl)))) (zAL (zBL pe_bl)) zBM)) (fun _=>rfl)) ?_
 exact zAL (zBL pe_bl)
theorem ok__law_pair_right {P:Program} {w:World} {f:Addr} {k:Nat} (F:Fun K "_law_pair_right" "_law_pair_right" s__law_pair_right f fd) (hm:mg "_law_pair_right"=some (.ref f)) (b:Binds K fd ["world", "pairs", "one", "other"] []) (n_any:mg "any"=none):PrOk P w K mg base (k+1):=
 ok_pr F hm b sc_pr cp_pr nm_pr n_any fun X S R hp n=>bd_pr S R hp n
noncomputable abbrev CpL (X:Cx):Prop:=Cp X N_al G_al [0,1,2,3,4,5,6,7] [] [0,1,2,3,4,5,6,7] [0,1,2,3,4,5,6,7] [0,1,2,3]
theorem al_it (S:CpL X) {c:Int} (a:Nat) (ha:N_al[a]?=some x) (ha2:[0,1,2,3,4,5,6,7].contains a=true):PE X (.Subscript (.Subscript (.Name "world" p1) (.Constant (.int c) k1 p2) p3) (.Name x p4) p5) (tIt X.K c a):=
 pe_ix zDI (pe_ix zDI (nvA S 0 _ _ rfl rfl) zEE (fun _ _=>rfl)) (nvA S a _ _ ha ha2) (fun _ _=>rfl)
theorem al_pr (S:CpL X):PE X (.Tuple [.Name "one" p1,.Name "other" p2] k1 p3) (tPair 4 5):=zCQ (zAE (nvA S 4 _ _ rfl rfl) (zAE (nvA S 5 _ _ rfl rfl) zAS (zAA rfl)) (zAA rfl))
theorem al_rng (S:CpL X) (n_range:X.mg "range"=none) {tg:Expr}:PI X tg (.Call (.Name "range" p1) [.Name "many" p2] [] p3) (iRng1 (tCons (tVar 2) tNil)):=zDG (S.g (j:=1) rfl rfl).1 n_range (zAE (nvA S 2 _ _ rfl rfl) zAS (zAA rfl)) (zAN rfl)
theorem bd_al (S:CpL X) (R:Rm X) (hp:PassesOwn (model X.prog X.w) X.A X.env X.xe) (n_len:X.mg "len"=none) (n_range:X.mg "range"=none) (n_list:X.mg "list"=none) (c:CaR X):PSs X (zA2 s__law_alike) (tAL X.prog X.w X.K):=by
 have hN:X.N.Nodup:=by rw [S.hN];exact S.nd
 have hu:X.A.units+2<cLine:=Nat.lt_of_le_of_lt (by omega) R
 have g:∀(i:Nat) (x:Str),N_al[i]?=some x->X.N[i]?=some x:=fun i x e=>by rw [S.hN];exact e
 have lc:∀(i:Nat) (x:Str),N_al[i]?=some x->[0,1,2,3,4,5,6,7].contains i=true->Loc X.env.scope x/\(X.fn x=true\/X.env.scope.names.lookup x=some .local):=fun i x e hi=>S.loc i x e hi
 obtain ⟨k,f,fd,ps,F,hr,a1,a2,a3⟩:=c
 have nm:∀(i:Nat) (x:Str),N_al[i]?=some x->[0,1,2,3,4,5,6,7].contains i=true->∀pos,PG X (.Name x pos) (gName i):=fun i x e hi pos=>zB3 hN (g i _ e) (lc i _ e hi).1 (lc i _ e hi).2
 refine zAJ (zDF hN (g 2 _ rfl) (lc 2 _ rfl rfl).1 (zCZ call_len_seq (S.g (j:=0) rfl rfl).1 n_len b_len (zAE (pe_ix zDI (nvA S 0 _ _ rfl rfl) zEE (fun _ _=>rfl)) zAS (zAA rfl)) (S.g (j:=0) rfl rfl).2.2 (S.g (j:=0) rfl rfl).2.1 (zAA rfl) rfl) rfl (lc 2 _ rfl rfl).2) ?_
 refine zAJ (zDF hN (g 3 _ rfl) (lc 3 _ rfl rfl).1 (zE6 [false,false]) rfl (lc 3 _ rfl rfl).2) ?_
 refine zAJ (zB1 hp S.calm (al_rng S n_range) (nm 4 _ rfl rfl _) (zAL (zB1 hp S.calm (al_rng S n_range) (nm 5 _ rfl rfl _) ?_ (fun _=>rfl))) (fun _=>rfl)) ?_
 ·refine zAJ (zDF hN (g 6 _ rfl) (lc 6 _ rfl rfl).1 (pe_and (zF2 (zGW R) (al_it S 4 rfl rfl) (al_it S 5 rfl rfl) (by with_unfolding_all rfl)) (pe_one (pe_or (pe_not (nvA S 1 _ _ rfl rfl)) (pe_one (zF2 (zGW R) (al_it S 4 rfl rfl) (al_it S 5 rfl rfl) (by with_unfolding_all rfl)))))) rfl (lc 6 _ rfl rfl).2) ?_
  exact zAL (zF0 hu (nvA S 3 _ _ rfl rfl) (al_pr S) (nvA S 6 _ _ rfl rfl) rfl)
 refine zAJ (zDF hN (g 7 _ rfl) (lc 7 _ rfl rfl).1 pe_bl rfl (lc 7 _ rfl rfl).2) ?_
 refine zAJ (zE3 hp (zED (nvA S 7 _ _ rfl rfl) (fun _=>rfl)) ?_) ?_
 ·refine zAJ (zDF hN (g 7 _ rfl) (lc 7 _ rfl rfl).1 pe_bl rfl (lc 7 _ rfl rfl).2) ?_
  refine zAL (zB1 hp S.calm (zB2 (zDH (call_d2list S.calm) (S.g (j:=2) rfl rfl).1 n_list zGL (zAE (nvA S 3 _ _ rfl rfl) zAS (zAA rfl)) (S.g (j:=2) rfl rfl).2.2 (S.g (j:=2) rfl rfl).2.1 (zAA rfl) rfl)) (zGT S.calm (zCL (nm 4 _ rfl rfl _) (zCL (nm 5 _ rfl rfl _) zF1))) ?_ (fun _=>rfl))
  refine zAL (ps_if (PW.pt (pw_and (zED (zE7 hu (nvA S 3 _ _ rfl rfl) (al_pr S) (fun _ _=>rfl)) (fun _=>rfl)) (pw_and1 (zFM (zED (zEF F hr (S.g (j:=3) rfl rfl).1 a1 a2 a3 .nil pass0 (zAE (nvA S 0 _ _ rfl rfl) (zAE (nvA S 3 _ _ rfl rfl) (zAE (nvA S 4 _ _ rfl rfl) (zAE (nvA S 5 _ _ rfl rfl) zAS (zAA rfl)) (zAA rfl)) (zAA rfl)) (zAA rfl)) (by decide) (zAA rfl) rfl) (fun _=>rfl)))))) ?_ zBM)
  refine zAJ (zF0 hu (nvA S 3 _ _ rfl rfl) (al_pr S) pe_bl rfl) ?_
  exact zAL (zDF hN (g 7 _ rfl) (lc 7 _ rfl rfl).1 pe_bl rfl (lc 7 _ rfl rfl).2)
 exact zAL (zBL (nvA S 3 _ _ rfl rfl))
theorem ok__law_alike {P:Program} {w:World} {f:Addr} {j k:Nat} (F:Fun K "_law_alike" "_law_alike" s__law_alike f fd) (hm:mg "_law_alike"=some (.ref f)) (b:Binds K fd ["world", "owned"] []) (n_len:mg "len"=none) (n_range:mg "range"=none) (n_list:mg "list"=none)
  (c:PrOk P w K mg base j) (hj:decide (j<=k)=true):AlOk P w K mg base (k+1):=
 ok_al F hm b sc_al cp_al nm_al n_len n_range n_list c hj fun X S R hp n1 n2 n3 c=>bd_al S R hp n1 n2 n3 c
end KC
namespace T
open PySem PySem.Spec L2
open PyProof.Rows hiding St
noncomputable def tD2In (P:Program) (w:World) (K:Fg) (ty td:TE):TE:=fun σ H Q=>ty σ H fun y H1=>td σ H1 fun x H2=>∃a b sh kvs ks,x=.ref a/\y=.ref b/\D2 P w K H2 sh a kvs/\K2 K H2 ks b/\ks.map isT=sh/\Q (.bl (valV kvs ks).isSome) H2
section
variable {X:Cx} {o i e value:Expr} {pos pos' tpos:Pos} {td ty tv:TE}
theorem zF3 (hu:X.A.units+2<cLine) (hi:PE X i ty) (ho:PE X o td):PC X .In i o (tD2In X.prog X.w X.K ty td):=by
 intro pins s σ H Q I h
 refine thn (hi pins s σ H _ I h) fun iv s1 ⟨y,H1,I1,ry,q1⟩=>thn (ho pins s1 σ H1 _ I1 q1) fun u s2 ⟨x,H2,I2,rx,a,b,sh,kvs,ks,ex,ey,⟨xs,e,r,nd,hz,hd⟩,k,hsh,q2⟩=>?_
 subst ex ey
 obtain rfl:u=Value.ref a:=rx
 obtain rfl:iv=Value.ref b:=ry
 have dd:=zBR I2 e r nd
 refine wpAny_in_heap (room2 hu) ⟨zB4 I2 k,hsh⟩ hd dd ?_
 have q:=(r.val ks).isSome_eq
 rw [Option.isSome_map] at q
 rw [<-q]
 exact ⟨.bl (valV kvs ks).isSome,H2,I2.tok _,rfl,q2⟩
end
theorem leS_set {σ:St} {c:Nat} {v:V}:LeS (blank [c] σ) ((blank [c] σ).set c (some v)):=by
 refine ⟨by simp,fun i u h=>?_⟩
 have hn:=(zEO h).1
 rw [getElem?_set,if_neg (fun z=>hn (by rw [<-z];simp))]
 exact h
end T
namespace KC
open PySem PySem.Spec L2 T PySem.SeqAt
open PyProof.Rows hiding St
variable {K:Fg}
section
variable {P:Program} {w:World} {K:Fg} {H:Hp} {O:List Addr} {v0 v1:V} {wd:Wd} {d:Addr} {ps:List (Nat×Nat)} {g:Nat->Nat->Bool} {o:Bool} {i j:Nat}
theorem stp_1000 (ok:wd.Ok) {r:Nat}:(wd.stp r).length<=1000:=by
 unfold Wd.stp
 rw [getD_eq_getElem?_getD]
 cases e:wd.s[r]? with
 | none=>simp
 | some z=>have:=(ok.st z (mem_of_getElem? e)).2.1;show z.length<=1000;omega
end
noncomputable def prT (p:Nat×Nat):D:=.tuple [rm p.1,rm p.2]
theorem rd_boolsV {α:Type} {σ:St} {H:Hp} {Q:VK} {c:Nat} {tl te:TE} {p:Addr} {ws:List V} {row:List α} {f:α->Bool} (hl:∀Q':VK,Q' (.ref p) H->tl σ H Q') (hp:SqL K H p ws) (hw:ws.length=row.length) (hn:row.length<=1000)
  (he:∀(k:Nat) v t,ws[k]?=some v->row[k]?=some t->∀H2 (Q':VK),Same H H2->(∀H3,Same H2 H3->Q' (.bl (f t)) H3)->te ((blank [c] σ).set c (some v)) H2 Q')
  (q:∀L H2,Same H H2->H L=none->H2 L=some (.lst ((row.map f).map V.bl))->Q (.ref L) H2):tComp [c] (iList K tl) (gName c) tTrue te σ H Q:=by
 refine hl _ ⟨p,rfl,⟨_,hp⟩,fun L hL=>?_⟩
 have hb:(1000:Nat)<=sizeLine:=by decide
 refine ⟨fun k m ys H2=>m=row.length-k/\k<=row.length/\ys=((row.take k).map f).map V.bl/\H2 L=some (.lst ys)/\Same H H2,⟨row.length,by simp,Nat.zero_le _,by simp,zAF,zAG hL⟩,?_⟩
 rintro k m ys H2 ⟨rfl,hk,rfl,hLs,sH⟩
 refine ⟨hLs,?_⟩
 have hq2:=sH.seq hp
 by_cases hlt:k<row.length
 case neg=>
  left
  rw [take_of_length_le (by omega)] at hLs
  exact ⟨⟨_,hq2,by omega⟩,q L H2 sH hL hLs⟩
 case pos=>
  right
  have hlw:k<ws.length:=by omega
  have e1:ws[k]?=some ws[k]:=getElem?_eq_getElem hlw
  refine ⟨⟨_,_,hq2,e1⟩,by rw [length_map,length_map,length_take];omega,?_⟩
  rintro v H3 ⟨rfl,hv⟩
  have ev:v=ws[k]:=Option.some.inj ((hv _ hq2).symm.trans e1)
  subst ev
  refine ⟨leS_set,iteT' (he k ws[k] row[k] e1 (getElem?_eq_getElem hlt) _ _ sH fun H4 s4=>?_)⟩
  have hL4:=s4 _ _ hLs
  refine ⟨hL4,row.length-(k+1),by omega,rfl,hlt,?_,zAF,fun c o hc=>?_⟩
  ·rw [take_succ,getElem?_eq_getElem hlt,map_append,map_append];rfl
  ·rw [zAI (fun z=>by subst z;rw [hL] at hc;cases hc)]
   exact s4 c o (sH c o hc)
theorem up_tt {i j:Nat}:upG (fun _ _=>true) i j true=fun _ _=>true:=by
 funext a b
 unfold upG
 split<;>rfl
theorem rep_pr {H:Hp} {v:V} {p:Nat×Nat} (r:Rep K H v (prT p)):∃b,v=.ref b/\SqT K H b [.int (p.1:Int),.int (p.2:Int)]:=by
 unfold prT at r
 cases r with
 | @tup b vs _ hq hl hr=>
  match vs,hl with
  | [u0,u1],_=>
   have r0:=hr 0 u0 _ rfl rfl
   have r1:=hr 1 u1 _ rfl rfl
   cases r0
   cases r1
   exact ⟨b,rfl,hq⟩
noncomputable def Alk (ds:D) (a b:Int) (w:Wd):Prop:=ds=w.enc/\w.Ok/\0<=a/\a<w.n/\0<=b/\b<w.n
open Classical in
noncomputable def alkD (dw:D) (o:Bool) (a b:Int):Option D:=if h:∃w,Alk dw a b w then some (.bool (decide (Lk h.choose o a.toNat b.toNat))) else none
open Classical in
theorem den_alk {w:Wd} (ok:w.Ok) {o:Bool} {i j:Nat} (hi:i<w.n) (hj:j<w.n):alkD w.enc o (i:Int) (j:Int)=some (.bool (decide (Lk w o i j))):=by
 have H:∃v,Alk w.enc (i:Int) (j:Int) v:=⟨w,rfl,ok,by omega,by omega,by omega,by omega⟩
 unfold alkD
 rw [dif_pos H]
 obtain ⟨e,k,_⟩:=H.choose_spec
 rw [<-encI ok k e]
 rfl
end KC
namespace T
open PySem PySem.Spec L2
open PyProof.Rows hiding St
variable {sh:List Bool} {a:Addr} {ep:Nat} {X:Cx} {td:TE} {tg:Expr}
noncomputable def D2H (P:Program) (w:World) (K:Fg) (H:Hp) (O:List Addr) (sh:List Bool) (a:Addr) (kvs:List (List It×V)):Prop:=
 ∃xs,H a=some (oD2 P w sh a xs)/\KX K (hid H O) sh kvs xs/\(xs.map (·.1)).Nodup/\xs.length<=1000/\(a==sysModules)=false
section
variable {P:Program} {w:World} {K:Fg} {H H':Hp} {O:List Addr} {sh:List Bool} {a:Addr} {kvs:List (List It×V)}
theorem D2H.d (h:D2H P w K H O sh a kvs):D2 P w K H sh a kvs:=let ⟨xs,h1,h2,h3⟩:=h;⟨xs,h1,h2.mono fun c xs=>SameT hid_le,h3⟩
theorem D2H.mono (x:D2H P w K H O sh a kvs) (e:H' a=H a) (m:∀c xs,SqT K (hid H O) c xs->SqT K (hid H' O) c xs):D2H P w K H' O sh a kvs:=let ⟨xs,h1,h2,h3⟩:=x;⟨xs,e.trans h1,h2.mono m,h3⟩
theorem zFV {c:Addr} {ob:HO} (hn:∀vs,H a≠some (.tup vs)) (hn2:∀vs o,H a≠some (.frz o (.tup vs))) {ys:List V} (h:SqT K (hid H O) c ys):SqT K (hid (upd H a ob) O) c ys:=by
 have key:∀u,hid H O c=some u->H a≠some u->hid (upd H a ob) O c=some u:=fun u hu ha=>by
  unfold hid at hu ⊢
  split at hu
  ·cases hu
  ·rename_i nc
   rw [if_neg nc,zAI (fun z=>ha (by rw [<-z];exact hu))]
   exact hu
 rcases h with (h | ⟨o,h⟩) | h
 ·exact .inl (.inl (key _ h (hn _)))
 ·exact .inl (.inr ⟨o,key _ h (hn2 _ _)⟩)
 ·exact .inr h
end
noncomputable def tD2OneH (P:Program) (w:World) (K:Fg) (sh:List Bool) (tk tv:TE):TE:=fun σ H Q=>∃O,∀p ob,H p=none->D2H P w K (upd H p ob) O sh p []->tk σ (upd H p ob) fun y H1=>tv σ H1 fun v H2=>∃b ks,y=.ref b/\D2H P w K H2 O sh p []/\K2 K (hid H2 O) ks b/\ks.map isT=sh/\∀ob2,D2H P w K (upd H2 p ob2) O sh p [(ks,v)]->Q (.ref p) (upd H2 p ob2)
noncomputable def sD2PutH (P:Program) (w:World) (K:Fg) (td ty tv:TE):TS:=fun D σ H=>tv σ H fun v H1=>td σ H1 fun x H2=>ty σ H2 fun y H3=>∃a b sh kvs ks O,x=.ref a/\y=.ref b/\D2H P w K H3 O sh a kvs/\K2 K (hid H3 O) ks b/\ks.map isT=sh/\kvs.length<1000/\valV kvs ks=none /\
 ∀ob,D2H P w K (upd H3 a ob) O sh a (kvs++[(ks,v)])->D.nx σ (upd H3 a ob)
section
variable {X:Cx} {o i e value:Expr} {pos pos' tpos:Pos} {td ty tv:TE}
theorem pe_d2oneH {k v:Expr} {tk tv:TE} (sh:List Bool) (hu:X.A.units+2<cLine) (hk:PE X k tk) (hv:PE X v tv):PE X (.Dict [some k] [v] pos) (tD2OneH X.prog X.w X.K sh tk tv):=by
 intro pins s σ H Q I q
 obtain ⟨O,q⟩:=q
 have hn:=I.hok.fresh (Nat.le_refl s.heap.objs.size)
 have I1:=I.laid (a:=s.heap.objs.size) (o:=oD2 X.prog X.w sh s.heap.objs.size []) (h':=s.heap.push { cls:=.type "dict",data:=.dict #[] }) (t':=s.toks) (fun _ _ q=>Heap.get?_push_of_some _ q) (Nat.le_refl _) (zES ⟨_,#[],0,Heap.get?_push_size _ rfl,⟨rfl,rfl,rfl⟩,rfl,rfl⟩)
 have q0:=q _ _ hn ⟨[],zAF,.nil,nodup_nil,by simp,beq_eq_false_iff_ne.mpr (Ne.symm (Nat.ne_of_lt I.big))⟩
 refine wpAny_Dict_any rfl rfl (by simp) (by show 1<=15;omega) (thn ((pps_cons hk hv pps_nil) pins _ σ _ (fun ps H2=>match ps with
  | [(y,v)]=>∃b ks,y=.ref b/\D2H X.prog X.w X.K H2 O sh s.heap.objs.size []/\K2 X.K (hid H2 O) ks b/\ks.map isT=sh/\∀ob2,D2H X.prog X.w X.K (upd H2 s.heap.objs.size ob2) O sh s.heap.objs.size [(ks,v)]->Q (.ref s.heap.objs.size) (upd H2 s.heap.objs.size ob2)
  | _=>False) I1 q0) fun ws s2 ⟨ps,H2,I2,rel,hq⟩=>?_)
 match ps,rel,hq with
 | [(y,v)],rel,⟨b,ks,ey,⟨xs,e,r,nd,hz,hd⟩,hK,hsh,q2⟩=>
  subst ey
  cases rel with
  | @cons _ pr _ _ h t=>
   cases t
   obtain ⟨kv,vv⟩:=pr
   obtain ⟨h1,h2⟩:=h
   obtain rfl:kv=Value.ref b:=h1
   cases r
   have dd:=zBR I2 e .nil nd
   have rm2:(kind2 X.prog X.w sh).room X.A:=by show X.A.units+1<cLine;omega
   unfold storeAll
   rw [List.forIn_cons]
   refine wpAny_bind (wpAny_bind (wpAny_dictSet_heap (hsz:=by simp) rm2 ⟨zB4 I2 (hK.mono fun c xs=>SameT hid_le),hsh⟩ dd fun h' dd' hs'=>wpAny_pure ?_))
   show wpAny _ _ (forIn [] PUnit.unit _) _ _ _
   rw [List.forIn_nil]
   refine wpAny_pure ?_
   rw [storedH_new rfl] at dd'
   obtain ⟨o',es,ep,hq',h2',h3,h4,_,h5⟩:=dd'
   have m:∀c ys,SqT X.K (hid H2 O) c ys->SqT X.K (hid (upd H2 s.heap.objs.size (oD2 X.prog X.w sh s.heap.objs.size [(ks,b,vv)])) O) c ys:=fun c ys hc=>zFV (fun _ z=>by rw [e] at z;cases z) (fun _ _ z=>by rw [e] at z;cases z) hc
   have I4:=zFH (t':=s2.toks+(kind2 X.prog X.w sh).draws ks) (ob:=oD2 X.prog X.w sh s.heap.objs.size [(ks,b,vv)]) I2 (by rw [e];exact True.intro) hs' ⟨o',hq'⟩ (zES ⟨o',es,ep,hq',h2',h3,h4⟩)
   exact ⟨.ref s.heap.objs.size,_,I4,rfl,q2 _ ⟨[(ks,b,vv)],zAF,.cons ⟨rfl,hsh,hK.mono m,h2⟩ .nil,h5,by simp,hd⟩⟩
theorem ps_d2putH (hu:X.A.units+2<cLine) (ho:PE X o td) (hi:PE X i ty) (hv:PE X value tv) (hs:swapsWith value (some (.Subscript o i pos')) pos.line X.env=pure false) :
  PS X (.Assign [.Subscript o i pos'] value pos) (sD2PutH X.prog X.w X.K td ty tv):=by
 intro pins s σ H D I h
 refine wpAny_Assign_Subscript (thn (hv pins s σ H _ I h) fun r s1 ⟨v,H1,I1,rv,q1⟩=>thn (ho pins s1 σ H1 _ I1 q1) fun u s2 ⟨x,H2,I2,rx,q2⟩=>thn (hi pins s2 σ H2 _ I2 q2) fun iv s3 ⟨y,H3,I3,ry,a,b,sh,kvs,ks,O,ex,ey,⟨xs,e,rr,nd,hz,hd⟩,k,hsh,hl,hn,q3⟩=>?_) hs
 subst ex ey
 obtain rfl:u=Value.ref a:=rx
 obtain rfl:iv=Value.ref b:=ry
 have rr0:=rr.mono fun c xs=>SameT hid_le
 have dd:=zBR I3 e rr0 nd
 have hb:(1000:Nat)<=sizeLine:=by decide
 have hat:atKey xs ks=none:=by
  have q:=(rr.val ks).isSome_eq
  rw [hn,Option.isSome_map] at q
  cases z:atKey xs ks with
  | none=>rfl
  | some _=>rw [z] at q;cases q
 refine wpAny_setItem_heap (hsz:=by omega) (room2 hu) ⟨zB4 I3 (k.mono fun c xs=>SameT hid_le),hsh⟩ dd fun h' dd' hs'=>?_
 rw [storedH_new hat] at dd'
 obtain ⟨q,es,ep,hq,h2,h3,h4,_,h5⟩:=dd'
 have m:∀c ys,SqT X.K (hid H3 O) c ys->SqT X.K (hid (upd H3 a (oD2 X.prog X.w sh a (xs++[(ks,b,r)]))) O) c ys:=fun c ys hc=>zFV (fun _ z=>by rw [e] at z;cases z) (fun _ _ z=>by rw [e] at z;cases z) hc
 have I4:=zFH (t':=s3.toks+(kind2 X.prog X.w sh).draws ks) (ob:=oD2 X.prog X.w sh a (xs++[(ks,b,r)])) I3 (by rw [e];exact True.intro) hs' ⟨q,hq⟩ (zES ⟨q,es,ep,hq,h2,h3,h4⟩)
 refine ⟨σ,_,I4,q3 _ ⟨xs++[(ks,b,r)],zAF,?_,h5,?_,hd⟩⟩
 ·exact Paired.snoc (rr.mono m) ⟨rfl,hsh,k.mono m,rv⟩
 ·rw [length_append,length_singleton,<-rr.len]
  omega
end
noncomputable def oD2e (P:Program) (w:World) (sh:List Bool) (a:Addr) (xs:List (List It×Addr×Value)) (ep:Nat):HO:=.ext fun h=>∃o es,h.get? a=some o/\o.ExactDict/\o.data=.dict es ep/\es.toList=xs.map (entryOfKey (kind2 P w sh))
noncomputable def D2E (P:Program) (w:World) (K:Fg) (H:Hp) (sh:List Bool) (a:Addr) (kvs:List (List It×V)) (xs:List (List It×Addr×Value)) (ep:Nat):Prop:=
 H a=some (oD2e P w sh a xs ep)/\KX K H sh kvs xs/\(xs.map (·.1)).Nodup/\xs.length<=1000/\(a==sysModules)=false
theorem oD2e_ok {P:Program} {w:World} {H:Hp} {h:Heap} {xs:List (List It×Addr×Value)} (x:∃o es,h.get? a=some o/\o.ExactDict/\o.data=.dict es ep/\es.toList=xs.map (entryOfKey (kind2 P w sh))):ObjOk P w H h a (oD2e P w sh a xs ep):=by
 refine ⟨x,let ⟨o,_,ho,_⟩:=x;⟨o,ho⟩,fun h1 h2 ⟨o,es,ho,r⟩ k=>⟨o,es,k o ho,r⟩⟩
theorem dict2e_of {pins:List (Addr×Obj)} {σ:St} {H:Hp} {s:Shared} {kvs:List (List It×V)} {xs:List (List It×Addr×Value)} (I:L2.Inv X pins σ H s) (e:H a=some (oD2e X.prog X.w sh a xs ep)) (r:KX X.K H sh kvs xs) (nd:(xs.map (·.1)).Nodup):s.heap.DictOfH (kind2 X.prog X.w sh) a xs:=by
 obtain ⟨⟨o,es,h1,h2,h3,h4⟩,_⟩:=(show ObjOk X.prog X.w H s.heap a (oD2e X.prog X.w sh a xs ep) from I.hok a _ e)
 refine ⟨o,es,ep,h1,h2,h3,h4,fun x hx=>?_,nd⟩
 have all:∀{l:List (List It×V)} {m:List (List It×Addr×Value)},KX X.K H sh l m->∀x∈m,(kind2 X.prog X.w sh).is s.heap x.1 x.2.1:=by
  intro l m q
  induction q with
  | nil=>intro x hx;exact nomatch hx
  | @cons p q ps qs hq t ih=>
   intro x hx
   rcases List.mem_cons.mp hx with e | hx
   ·subst e
    exact ⟨by rw [<-hq.1];exact zB4 I hq.2.2.1,by rw [<-hq.1];exact hq.2.1⟩
   ·exact ih x hx
 exact all r x hx
noncomputable def tD2GetE (P:Program) (w:World) (K:Fg) (td ty:TE):TE:=fun σ H Q=>td σ H fun x H1=>ty σ H1 fun y H2=>∃a b sh kvs ks v xs ep,x=.ref a/\y=.ref b/\D2E P w K H2 sh a kvs xs ep/\K2 K H2 ks b/\ks.map isT=sh/\valV kvs ks=some v/\Q v H2
theorem pe_d2getE {o i:Expr} {pos:Pos} {ty:TE} (hu:X.A.units+2<cLine) (ho:PE X o td) (hi:PE X i ty) (hs:NoSl i):PE X (.Subscript o i pos) (tD2GetE X.prog X.w X.K td ty):=by
 intro pins s σ H Q I h
 refine subD_of PySem.F.slot_dict_getitem.lookup hs (thn (ho pins s σ H _ I h) fun u s1 ⟨x,H1,I1,rx,q1⟩=>thn (hi pins s1 σ H1 _ I1 q1) fun iv s2 ⟨y,H2,I2,ry,a,b,sh,kvs,ks,v,xs,ep,ex,ey,⟨e,r,nd,hz,hd⟩,k,hsh,hv,q2⟩=>?_)
 subst ex ey
 obtain rfl:u=Value.ref a:=rx
 obtain rfl:iv=Value.ref b:=ry
 have dd:=dict2e_of I2 e r nd
 refine ⟨dd.typeIs,?_⟩
 obtain ⟨w',hw,rw'⟩:=RelO.some_of (v:=v) (o:=(atKey xs ks).map (·.2)) (by rw [<-hv];exact r.val ks)
 obtain ⟨p,hp,hp2⟩:=Option.map_eq_some_iff.mp hw
 refine wpAny_getItem_heap (room2 hu) ⟨zB4 I2 k,hsh⟩ dd hp ?_
 rw [hp2]
 exact ⟨v,H2,I2.tok _,rw',q2⟩
noncomputable def Itd (ob:HO) (a:Addr) (bs:List Addr):L2.It:=
 ⟨fun i H=>H a=some ob/\i<bs.length,fun i H x H'=>H'=H/\∃b,bs[i]?=some b/\x=.ref b,fun i H=>H a=some ob/\bs.length<=i⟩
theorem turn_d2 {P:Program} {w:World} {K:Fg} {xs:List (List It×Addr×Value)} (a it:Addr) (hd:(a==sysModules)=false) (hz:xs.length<=1000):Turn P w K tg (Itd (oD2e P w sh a xs ep) a (xs.map (·.2.1))) [it] it (fun i h=>h.IsKeyIter it a i (xs.map (·.2.1)).length ep) where
 mem:=by simp
 obj:=fun i h st b hb=>by
  have e:b=it:=by simpa using hb
  subst e
  obtain ⟨o,e,c,d⟩:=st
  exact ⟨o,e,fun v z=>by rw [d] at z;cases z⟩
 keep:=fun i h h' st k=>st.at fun o e=>k it (by simp) o e
 item:=by
  intro X hP hw hK hc i pins s σ H E I hf st hg
  subst hP hw hK
  obtain ⟨e,hi⟩:=hg
  obtain ⟨⟨o,es,h1,h2,h3,h4⟩,_⟩:=(show ObjOk X.prog X.w H s.heap a (oD2e X.prog X.w sh a xs ep) from I.hok a _ e)
  have hE:EAt s.heap a (xs.map (·.2.1)) ep:=⟨o,es,h1,h2,h3,by rw [h4,map_map,map_map];rfl⟩
  obtain ⟨f0,f1,f2,f3,f4,f5⟩:=hf it (by simp)
  have hx:(xs.map (·.2.1))[i]?=some (xs.map (·.2.1))[i]:=getElem?_eq_getElem hi
  generalize (xs.map (·.2.1))[i]=b at hx
  refine nextE st hE hx fun h' st' sb=>?_
  have I1:L2.Inv X pins σ H { s with heap:=h' }:=I.turned (t':=s.toks) (fun b o hb e=>(sb.2 b hb).trans e) f0 f1 f3 f4 f5
  obtain ⟨o',e',c',d'⟩:=id st'
  exact ⟨.ref b,rfl,go_of (s:={ s with heap:=h' }) e' c' d' (by decide) ⟨.ref b,H,I1,rfl,⟨rfl,b,hx,rfl⟩,st',fun b hb=>(hf b hb).1⟩⟩
 done:=by
  intro X hP hw hK hc i pins s σ H E I hf st hg
  subst hP hw hK
  obtain ⟨e,hi⟩:=hg
  obtain ⟨⟨o,es,h1,h2,h3,h4⟩,_⟩:=(show ObjOk X.prog X.w H s.heap a (oD2e X.prog X.w sh a xs ep) from I.hok a _ e)
  have hE:EAt s.heap a (xs.map (·.2.1)) ep:=⟨o,es,h1,h2,h3,by rw [h4,map_map,map_map];rfl⟩
  obtain ⟨f0,f1,f2,f3,f4,f5⟩:=hf it (by simp)
  exact endE (I.ok.hd hc) st hE hi fun h' eb=>⟨rfl,I.turned (t':=s.toks) (fun b o hb e=>eb b o hb e) f0 f1 f3 f4 f5⟩
 self:=fun _ _ _ _ _ st h=>wpAny_pyIter_keyiter st h
noncomputable def iD2 (P:Program) (w:World) (K:Fg) (td:TE):TI:=fun σ H R=>td σ H fun x H1=>∃a sh kvs,x=.ref a/\D2 P w K H1 sh a kvs/\∀xs ep,KX K H1 sh kvs xs->(xs.map (·.1)).Nodup->xs.length<=1000->(a==sysModules)=false->H1 a=some (oD2 P w sh a xs)->R (Itd (oD2e P w sh a xs ep) a (xs.map (·.2.1))) (upd H1 a (oD2e P w sh a xs ep))
theorem pi_d2 {e:Expr} (hl:PE X e td):PI X tg e (iD2 X.prog X.w X.K td):=by
 intro pins s σ H R I h
 refine thn (hl pins s σ H _ I h) fun v s1 ⟨x,H1,I1,r1,q1⟩=>?_
 obtain ⟨a,sh,kvs,ex,⟨xs,e,r,nd,hz,hd⟩,q⟩:=q1
 subst ex
 cases r1
 obtain ⟨⟨o,es,ep,h1,h2,h3,h4⟩,_⟩:=(show ObjOk X.prog X.w H1 s1.heap a (oD2 X.prog X.w sh a xs) from I1.hok a _ e)
 have hE:EAt s1.heap a (xs.map (·.2.1)) ep:=⟨o,es,h1,h2,h3,by rw [h4,map_map,map_map];rfl⟩
 have I2:L2.Inv X pins σ (upd H1 a (oD2e X.prog X.w sh a xs ep)) { s1 with heap:=s1.heap,toks:=s1.toks }:=I1.write (x:=a) (e:=a) (o:=oD2e X.prog X.w sh a xs ep) (t':=s1.toks) (by rw [e];exact True.intro) (.inl rfl) (fun b u _ q=>q) ⟨o,h1⟩ (oD2e_ok ⟨o,es,h1,h2,h3,h4⟩)
 refine iterE hd hE ?_
 have hne:a≠s1.heap.objs.size:=Nat.ne_of_lt hE.lt
 refine ⟨s1.heap.objs.size,[s1.heap.objs.size],_,_,upd H1 a (oD2e X.prog X.w sh a xs ep),rfl,I2.kept (t':=s1.toks) fun b o e=>Heap.get?_push_of_some _ e,turn_d2 (sh:=sh) (xs:=xs) (ep:=ep) a s1.heap.objs.size hd hz,⟨_,Heap.get?_push_size _ rfl,rfl,rfl⟩,fun b hb=>?_,q xs ep r nd hz hd e⟩
 have eb:b=s1.heap.objs.size:=by simpa using hb
 subst eb
 exact I2.fpOk (Nat.le_refl _) (by rw [zAI (Ne.symm hne)];exact I1.hok.fresh (Nat.le_refl _))
end T
namespace KC
open PySem PySem.Spec L2 T PySem.SeqAt
open PyProof.Rows hiding St
section
variable {α:Type} [DecidableEq α]
noncomputable def stA (p:List α×List α) (t:α):List α×List α:=if t∈p.1 then p else (p.1++[t],p.2++[t])
noncomputable def stsA (ts:List α) (p:List α×List α):List α×List α:=ts.foldl stA p
noncomputable def goA (sc:α->List α):Nat->List α×List α->List α
 | 0,p=>p.1
 | n+1,p=>match p.2.getLast? with
  | none=>p.1
  | some h=>goA sc n (stsA (sc h) (p.1,p.2.dropLast))
theorem pigeo:∀{ks L:List α},ks.Nodup->(∀x∈ks,x∈L)->ks.length<=L.length
 | [],_,_,_=>Nat.zero_le _
 | x::ks,L,nd,h=>by
  have hx:=h x mem_cons_self
  obtain ⟨n1,n2⟩:=List.nodup_cons.mp nd
  have ih:=pigeo (ks:=ks) (L:=L.erase x) n2 fun y hy=>(List.mem_erase_of_ne (fun z:y=x=>n1 (by rw [<-z];exact hy))).mpr (h y (mem_cons_of_mem _ hy))
  have hl:=List.length_erase_of_mem hx
  have:0<L.length:=List.length_pos_of_mem hx
  rw [length_cons]
  omega
structure WB (B:α->Prop) (p:List α×List α):Prop where
 nd:p.1.Nodup
 ok:∀x∈p.1,B x
 sub:∀x∈p.2,x∈p.1
 le:p.2.length<=p.1.length
structure WS (ts:List α) (p q:List α×List α):Prop where
 le:∀x∈p.1,x∈q.1
 ts:∀x∈ts,x∈q.1
 lw:∀x∈p.2,x∈q.2
 new:∀x∈q.1,x∈p.1\/x∈q.2
 len:q.2.length+p.1.length=p.2.length+q.1.length
theorem stA_ok {B:α->Prop} {p:List α×List α} {t:α} (h:WB B p) (ht:B t):WB B (stA p t)/\WS [t] p (stA p t):=by
 unfold stA
 split
 ·rename_i hin
  exact ⟨h,fun _ z=>z,fun x hx=>by rw [List.mem_singleton.mp hx];exact hin,fun _ z=>z,fun _ z=>.inl z,rfl⟩
 ·rename_i hn
  refine ⟨⟨List.nodup_append.mpr ⟨h.nd,by simp,fun a ha b hb z=>?_⟩,fun x hx=>?_,fun x hx=>?_,by have:=h.le;simp;omega⟩,fun _ z=>mem_append_left _ z,fun x hx=>mem_append_right _ hx,fun _ z=>mem_append_left _ z,fun x hx=>?_,?_⟩
  ·rw [List.mem_singleton.mp hb] at z
   rw [z] at ha
   exact hn ha
  ·rcases List.mem_append.mp hx with z | z
   ·exact h.ok x z
   ·rw [List.mem_singleton.mp z];exact ht
  ·rcases List.mem_append.mp hx with z | z
   ·exact mem_append_left _ (h.sub x z)
   ·exact mem_append_right _ z
  ·rcases List.mem_append.mp hx with z | z
   ·exact .inl z
   ·exact .inr (mem_append_right _ z)
  ·simp;omega
theorem zD9 {B:α->Prop}:∀{ts:List α} {p:List α×List α},WB B p->(∀t∈ts,B t)->WB B (stsA ts p)/\WS ts p (stsA ts p)
 | [],p,h,_=>⟨h,fun _ z=>z,(fun _ z=>nomatch z),fun _ z=>z,fun _ z=>.inl z,rfl⟩
 | t::ts,p,h,hB=>by
  obtain ⟨h1,s1⟩:=stA_ok h (hB t mem_cons_self)
  obtain ⟨h2,s2⟩:=zD9 (ts:=ts) h1 fun x hx=>hB x (mem_cons_of_mem _ hx)
  refine ⟨h2,fun x hx=>s2.le x (s1.le x hx),fun x hx=>?_,fun x hx=>s2.lw x (s1.lw x hx),fun x hx=>?_,?_⟩
  ·rcases List.mem_cons.mp hx with z | z
   ·rw [z];exact s2.le t (s1.ts t mem_cons_self)
   ·exact s2.ts x z
  ·rcases s2.new x hx with z | z
   ·rcases s1.new x z with y | y
    ·exact .inl y
    ·exact .inr (s2.lw x y)
   ·exact .inr z
  ·have a:=s1.len
   have b:=s2.len
   show (stsA ts (stA p t)).2.length+p.1.length=p.2.length+(stsA ts (stA p t)).1.length
   omega
structure WI (B:α->Prop) (sc:α->List α) (a0:α) (p:List α×List α):Prop where
 b:WB B p
 a0:a0∈p.1
 cl:∀x∈p.1,x∈p.2\/∀y∈sc x,y∈p.1
section
variable {B:α->Prop} {sc:α->List α} {a0:α}
theorem mem_drop {h x:α}:∀{ws:List α},ws.getLast?=some h->x∈ws->x∈ws.dropLast\/x=h:=fun {ws} e hx=>by
 have:ws=ws.dropLast++[h]:=by
  have ne:ws≠[]:=fun z=>by rw [z] at e;cases e
  have:=List.dropLast_concat_getLast ne
  rw [List.getLast?_eq_some_getLast ne] at e
  rw [<-Option.some.inj e]
  exact this.symm
 rw [this] at hx
 rcases List.mem_append.mp hx with z | z
 ·exact .inl z
 ·exact .inr (List.mem_singleton.mp z)
theorem WI.drop {p:List α×List α} (I:WI B sc a0 p):WB B (p.1,p.2.dropLast):=⟨I.b.nd,I.b.ok,fun x hx=>I.b.sub x ((List.dropLast_sublist _).subset hx),by have:=I.b.le;simp only [length_dropLast];omega⟩
theorem WI.step {p:List α×List α} {h:α} (I:WI B sc a0 p) (hB:∀x,B x->∀y∈sc x,B y) (e:p.2.getLast?=some h):WI B sc a0 (stsA (sc h) (p.1,p.2.dropLast))/\(stsA (sc h) (p.1,p.2.dropLast)).2.length+p.1.length+1=p.2.length+(stsA (sc h) (p.1,p.2.dropLast)).1.length:=by
 have hm:h∈p.2:=List.mem_of_getLast? e
 obtain ⟨b,s⟩:=zD9 I.drop (hB h (I.b.ok h (I.b.sub h hm)))
 refine ⟨⟨b,s.le _ I.a0,fun x hx=>?_⟩,?_⟩
 ·rcases s.new x hx with z | z
  ·rcases I.cl x z with y | y
   ·rcases mem_drop e y with y | y
    ·exact .inl (s.lw x y)
    ·rw [y];exact .inr fun t ht=>s.ts t ht
   ·exact .inr fun t ht=>s.le t (y t ht)
  ·exact .inl z
 ·have:=s.len
  simp only [length_dropLast] at this
  have:0<p.2.length:=List.length_pos_of_mem hm
  omega
theorem go_ok {M:Nat} (hM:∀ks:List α,ks.Nodup->(∀x∈ks,B x)->ks.length<=M) (hB:∀x,B x->∀y∈sc x,B y):∀(m:Nat) (p:List α×List α),WI B sc a0 p->2*(M-p.1.length)+p.2.length<m->WI B sc a0 (goA sc m p,[])
 | 0,_,_,h=>absurd h (Nat.not_lt_zero _)
 | m+1,p,I,h=>by
  unfold goA
  cases e:p.2.getLast? with
  | none=>
   have e0:p.2=[]:=List.getLast?_eq_none_iff.mp e
   exact ⟨⟨I.b.nd,I.b.ok,(fun _ z=>nomatch z),Nat.zero_le _⟩,I.a0,fun x hx=>(I.cl x hx).elim (fun z=>by rw [e0] at z;cases z) .inr⟩
  | some t=>
   obtain ⟨I2,hl⟩:=I.step hB e
   refine go_ok hM hB m _ I2 ?_
   have a:=hM _ I2.b.nd I2.b.ok
   have b:=hM _ I.b.nd I.b.ok
   have c:p.1.length<=(stsA (t |> sc) (p.1,p.2.dropLast)).1.length:=pigeo I.b.nd (zD9 I.drop (hB t (I.b.ok t (I.b.sub t (List.mem_of_getLast? e))))).2.le
   omega
end
end
end KC
namespace KC.Ap
open PySem PySem.Spec L2 T PySem.SeqAt
open PyProof.Rows hiding St
open KC
variable {l:List Nat}
noncomputable def lix (c:Str):Nat:=letters.idxOf c
theorem lix_lt:∀a∈letters,∀b∈letters,ltD (.str a) (.str b)=decide (lix a<lix b):=by decide +kernel
theorem lix_at:∀a∈letters,letters.getD (lix a) "a"=a:=by decide +kernel
theorem lix_rise:letters.Pairwise fun a b=>lix a<lix b:=by decide +kernel
theorem rise_extN:∀{a b:List Nat},a.Pairwise (· < ·)->b.Pairwise (· < ·)->(∀x,x∈a↔x∈b)->a=b
 | [],[],_,_,_=>rfl
 | [],y::b,_,_,h=>by have:=(h y).mpr mem_cons_self;cases this
 | x::a,[],_,_,h=>by have:=(h x).mp mem_cons_self;cases this
 | x::a,y::b,ha,hb,h=>by
  obtain ⟨a1,a2⟩:=List.pairwise_cons.mp ha
  obtain ⟨b1,b2⟩:=List.pairwise_cons.mp hb
  have e:x=y:=by
   rcases List.mem_cons.mp ((h x).mp mem_cons_self) with z | z
   ·exact z
   ·rcases List.mem_cons.mp ((h y).mpr mem_cons_self) with u | u
    ·exact u.symm
    ·have:=a1 y u
     have:=b1 x z
     omega
  subst e
  congr 1
  refine rise_extN a2 b2 fun z=>⟨fun hz=>?_,fun hz=>?_⟩
  ·rcases List.mem_cons.mp ((h z).mp (mem_cons_of_mem _ hz)) with u | u
   ·have:=a1 z hz;omega
   ·exact u
  ·rcases List.mem_cons.mp ((h z).mpr (mem_cons_of_mem _ hz)) with u | u
   ·have:=b1 z hz;omega
   ·exact u
theorem rise_of_next:∀{l:List Nat},(∀(k:Nat) a b,l[k]?=some a->l[k+1]?=some b->a<b)->l.Pairwise (· < ·)
 | [],_=>.nil
 | [a],_=>by simp
 | a::b::l,h=>by
  have hab:=h 0 a b rfl rfl
  have ih:=rise_of_next (l:=b::l) fun k x y e1 e2=>h (k+1) x y (by simpa using e1) (by simpa using e2)
  refine List.pairwise_cons.mpr ⟨fun c hc=>?_,ih⟩
  rcases List.mem_cons.mp hc with z | z
  ·rw [z];exact hab
  ·have:=(List.pairwise_cons.mp ih).1 c z
   omega
theorem mks_in {w:Wd} (ok:w.Ok) {r:Nat} (hr:r<w.n):(∀c∈w.mks r,c∈letters)/\((w.mks r).map lix).Pairwise (· < ·):=by
 obtain ⟨xs,h1,_,_,h4⟩:=ok.g.m (txs (w.mks r)) (List.mem_map.mpr ⟨_,(by
  unfold Wd.mks
  rw [getD_eq_getElem?_getD,getElem?_eq_getElem (by rw [ok.lm];exact hr)]
  exact getElem_mem _),rfl⟩)
 generalize w.mks r=l at h1 h4
 have h4:((l.map PyData.str).all inL&&rises (l.map PyData.str))=true:=h4
 rw [Bool.and_eq_true] at h4
 have hin:∀c∈l,c∈letters:=fun c hc=>by
  have:=List.all_eq_true.mp h4.1 (.str c) (List.mem_map.mpr ⟨c,hc,rfl⟩)
  unfold inL at this
  unfold letters
  simp only [List.any_cons,List.any_nil,Bool.or_false,Bool.or_eq_true,PyData.eqv,beq_iff_eq] at this
  simp only [mem_cons,not_mem_nil,or_false]
  rcases this with h | h | h | h | h | h<;>simp [<-h]
 refine ⟨hin,rise_of_next fun k a b e1 e2=>?_⟩
 have hk:k+1<l.length:=by
  have:=(List.getElem?_eq_some_iff.mp e2).1
  simpa using this
 have h5:=h4.2
 unfold rises at h5
 rw [all_eq_true] at h5
 have:=h5 (.int (1+(k:Nat))) (by
  unfold rngD
  exact List.mem_map.mpr ⟨k,List.mem_range.mpr (by rw [length_map];omega),rfl⟩)
 have:ltD ((l.map PyData.str).getD (1+(k:Int)-1).toNat .none) ((l.map PyData.str).getD (1+(k:Int)).toNat .none)=true:=this
 rw [show (1+(k:Int)-1).toNat=k by omega,show (1+(k:Int)).toNat=k+1 by omega,getD_eq_getElem?_getD,getD_eq_getElem?_getD,getElem?_map,getElem?_map,getElem?_eq_getElem (by omega),getElem?_eq_getElem hk] at this
 have this:ltD (.str l[k]) (.str l[k+1])=true:=this
 rw [lix_lt _ (hin _ (getElem_mem _)) _ (hin _ (getElem_mem _)),decide_eq_true_eq] at this
 rw [getElem?_map,getElem?_eq_getElem (by omega)] at e1
 rw [getElem?_map,getElem?_eq_getElem hk] at e2
 cases e1
 cases e2
 exact this
theorem mks_filter {w:Wd} (ok:w.Ok) {r:Nat} (hr:r<w.n):∃P:Str->Bool,w.mks r=letters.filter P:=by
 obtain ⟨hin,hri⟩:=mks_in ok hr
 refine ⟨fun c=>(w.mks r).contains c,?_⟩
 have back:∀l:List Str,(∀c∈l,c∈letters)->(l.map lix).map (fun k=>letters.getD k "a")=l:=fun l hl=>by
  rw [map_map]
  have:∀c∈l,((fun k=>letters.getD k "a")∘lix) c=id c:=fun c hc=>lix_at c (hl c hc)
  rw [map_congr_left this,List.map_id]
 have e:(w.mks r).map lix=(letters.filter fun c=>(w.mks r).contains c).map lix:=by
  refine rise_extN hri ?_ fun x=>?_
  ·rw [List.pairwise_map]
   exact lix_rise.filter _
  ·rw [mem_map,mem_map]
   constructor
   ·rintro ⟨c,hc,rfl⟩
    exact ⟨c,List.mem_filter.mpr ⟨hin c hc,List.contains_iff_mem.mpr hc⟩,rfl⟩
   ·rintro ⟨c,hc,rfl⟩
    exact ⟨c,List.contains_iff_mem.mp (List.mem_filter.mp hc).2,rfl⟩
 exact (back _ hin).symm.trans ((congrArg (List.map fun k=>letters.getD k "a") e).trans (back _ fun c hc=>(List.mem_filter.mp hc).1))
inductive Rsn where
 | mk (c:Str)
 | st (s t:Int)
deriving DecidableEq
noncomputable abbrev Row:=(Nat×Nat)×Rsn
noncomputable def rsnT:Rsn->D
 | .mk c=>.tuple [.str "mark",.str c]
 | .st s t=>.tuple [.str "step",.int s,.int t]
noncomputable def rowT (r:Row):D:=.tuple [rm r.1.1,rm r.1.2,rsnT r.2]
noncomputable def bmB (w:Wd) (i j:Nat) (c:Str):Bool:=(w.mks i).contains c != (w.mks j).contains c
noncomputable def askP (w:Wd) (i j s t:Nat):List (Nat×Nat):=if s=0 then (w.stp j).map fun a=>(t,a) else (w.stp i).map fun a=>(a,t)
noncomputable def bsB (w:Wd) (K:List (Nat×Nat)) (i j s t:Nat):Bool:=(askP w i j s t).all fun p=>decide (p∈K)
noncomputable def cand (w:Wd) (i j:Nat):List (Nat×Nat):=((w.stp i).map fun t=>(0,t))++(w.stp j).map fun t=>(1,t)
noncomputable def rsn (w:Wd) (K:List (Nat×Nat)) (i j:Nat):Option Rsn:=match letters.find? (bmB w i j) with
 | some c=>some (.mk c)
 | none=>((cand w i j).find? fun p=>bsB w K i j p.1 p.2).map fun p=>.st (p.1:Int) (p.2:Int)
noncomputable def nx1 (w:Wd) (K:List (Nat×Nat)) (p:Nat×Nat):Option Row:=if p∈K then none else (rsn w K p.1 p.2).map fun r=>(p,r)
noncomputable def nxt (w:Wd) (K:List (Nat×Nat)):List Row:=(psN w.n).filterMap (nx1 w K)
noncomputable def allR (w:Wd):Nat->List Row->List Row
 | 0,known=>known
 | f+1,known=>if (nxt w (known.map (·.1))).isEmpty then known else allR w f (known++nxt w (known.map (·.1)))
noncomputable def inS (l:List Nat) (t:Int):Bool:=l.any fun a=>(a:Int)==t
noncomputable def rowB (w:Wd) (K:List (Nat×Nat)) (r:Row):Bool:=match r.2 with
 | .mk c=>bmB w r.1.1 r.1.2 c
 | .st s t=>decide (s=0\/s=1)&&inS (w.stp (if s=0 then r.1.1 else r.1.2)) t&&bsB w K r.1.1 r.1.2 s.toNat t.toNat
noncomputable def holdB (w:Wd):List (Nat×Nat)->List Row->Bool
 | _,[]=>true
 | K,r::rs=>rowB w K r&&holdB w (K++[r.1]) rs
section
variable {w:Wd} {K K':List (Nat×Nat)} {i j s t:Nat}
theorem inS_mem {t:Nat}:inS l (t:Int)=true↔t∈l:=by
 unfold inS
 rw [any_eq_true]
 constructor
 ·rintro ⟨a,ha,e⟩
  have:(a:Int)=(t:Int):=by simpa using e
  have:a=t:=by omega
  rw [<-this];exact ha
 ·intro h;exact ⟨t,h,by simp⟩
theorem inS_iff {t:Int}:inS l t=true↔∃a∈l,(a:Int)=t:=by
 unfold inS
 rw [any_eq_true]
 simp
theorem bsB_mono (h:∀p∈K,p∈K') (b:bsB w K i j s t=true):bsB w K' i j s t=true:=by
 unfold bsB at b ⊢
 rw [all_eq_true] at b ⊢
 exact fun p hp=>decide_eq_true (h p (of_decide_eq_true (b p hp)))
theorem zEB {r:Row} (h:∀p∈K,p∈K') (b:rowB w K r=true):rowB w K' r=true:=by
 unfold rowB at b ⊢
 split at b
 ·exact b
 ·rw [Bool.and_eq_true] at b ⊢
  exact ⟨b.1,bsB_mono h b.2⟩
theorem zFI {p:Nat×Nat} (h:p∈cand w i j):(p.1=0/\p.2∈w.stp i)\/(p.1=1/\p.2∈w.stp j):=by
 rcases List.mem_append.mp h with z | z
 ·obtain ⟨a,ha,rfl⟩:=List.mem_map.mp z;exact .inl ⟨rfl,ha⟩
 ·obtain ⟨a,ha,rfl⟩:=List.mem_map.mp z;exact .inr ⟨rfl,ha⟩
theorem rsn_right {r:Rsn} (h:rsn w K i j=some r):rowB w K ((i,j),r)=true:=by
 unfold rsn at h
 split at h
 ·rename_i c e
  cases h
  show bmB w i j c=true
  exact List.find?_some e
 ·obtain ⟨p,hp,rfl⟩:=Option.map_eq_some_iff.mp h
  have hb:=List.find?_some hp
  have hm:=zFI (List.mem_of_find?_eq_some hp)
  unfold rowB
  dsimp only
  rw [Bool.and_eq_true,Bool.and_eq_true,decide_eq_true_eq,Int.toNat_natCast,Int.toNat_natCast]
  refine ⟨⟨by rcases hm with z | z<;>omega,?_⟩,hb⟩
  rcases hm with z | z
  ·rw [if_pos (by omega),inS_mem];exact z.2
  ·rw [if_neg (by omega),inS_mem];exact z.2
theorem zE9 {r:Row} (h:r∈nxt w K):r.1.1<w.n/\r.1.2<w.n/\r.1∉K/\rowB w K r=true:=by
 obtain ⟨p,hp,e⟩:=List.mem_filterMap.mp h
 unfold nx1 at e
 split at e
 ·cases e
 ·rename_i hn
  obtain ⟨q,hq,rfl⟩:=Option.map_eq_some_iff.mp e
  obtain ⟨h1,h2⟩:=mem_psN.mp hp
  exact ⟨h1,h2,hn,rsn_right hq⟩
theorem psT_nd {n:Nat}:∀i,(psT n i 0).Nodup
 | 0=>by simp [psT]
 | i+1=>by
  rw [zE5]
  have key:∀j,j<=n->(psT n i j).Nodup:=by
   intro j
   induction j with
   | zero=>intro _;exact psT_nd i
   | succ j ih=>
    intro hj
    rw [zE4]
    refine List.nodup_append.mpr ⟨ih (by omega),by simp,fun a ha b hb z=>?_⟩
    rw [List.mem_singleton.mp hb] at z
    subst z
    rcases mem_psT.mp ha with y | y<;>omega
  exact key n (Nat.le_refl _)
theorem nxt_fst:(nxt w K).map (·.1)=((psN w.n).filter fun p=>(nx1 w K p).isSome):=by
 unfold nxt
 generalize psN w.n=L
 induction L with
 | nil=>rfl
 | cons p L ih=>
  rw [filterMap_cons,filter_cons]
  cases e:nx1 w K p with
  | none=>simp [ih]
  | some r=>
   have:r.1=p:=by
    unfold nx1 at e
    split at e
    ·cases e
    ·obtain ⟨q,_,rfl⟩:=Option.map_eq_some_iff.mp e;rfl
   simp [ih,this]
theorem nxt_nd:((nxt w K).map (·.1)).Nodup:=by
 rw [nxt_fst]
 exact List.Nodup.sublist List.filter_sublist (psT_nd w.n)
structure KI (w:Wd) (known:List Row):Prop where
 nd:(known.map (·.1)).Nodup
 lt:∀r∈known,r.1.1<w.n/\r.1.2<w.n
 ok:∀(k:Nat) r,known[k]?=some r->rowB w ((known.take k).map (·.1)) r=true
theorem KI.nil:KI w []:=⟨nodup_nil,(fun _ z=>nomatch z),fun k r e=>by simp at e⟩
theorem KI.step {known:List Row} (h:KI w known):KI w (known++nxt w (known.map (·.1))):=by
 refine ⟨?_,fun r hr=>?_,fun k r e=>?_⟩
 ·rw [map_append]
  refine List.nodup_append.mpr ⟨h.nd,nxt_nd,fun a ha b hb z=>?_⟩
  obtain ⟨r,hr,rfl⟩:=List.mem_map.mp hb
  rw [z] at ha
  exact (zE9 hr).2.2.1 ha
 ·rcases List.mem_append.mp hr with z | z
  ·exact h.lt r z
  ·exact ⟨(zE9 z).1,(zE9 z).2.1⟩
 ·by_cases hk:k<known.length
  ·rw [getElem?_append_left hk] at e
   rw [List.take_append_of_le_length (by omega)]
   exact h.ok k r e
  ·rw [getElem?_append_right (by omega)] at e
   have hm:=mem_of_getElem? e
   refine zEB (fun p hp=>?_) (zE9 hm).2.2.2
   rw [List.take_append,map_append]
   exact mem_append_left _ (by rw [take_of_length_le (by omega)];exact hp)
theorem KI.len {known:List Row} (h:KI w known) (h24:w.n<=24):known.length<=576:=by
 have:=pigeo (L:=psN w.n) h.nd fun x hx=>by
  obtain ⟨r,hr,rfl⟩:=List.mem_map.mp hx
  exact mem_psN.mpr (h.lt r hr)
 rw [length_map] at this
 unfold psN at this
 rw [zFB] at this
 have:w.n*w.n<=24*24:=Nat.mul_le_mul h24 h24
 omega
theorem allR_ok (h24:w.n<=24):∀(f:Nat) (known:List Row),KI w known->576-known.length<f->KI w (allR w f known)/\nxt w ((allR w f known).map (·.1))=[]
 | 0,_,_,h=>absurd h (Nat.not_lt_zero _)
 | f+1,known,I,h=>by
  unfold allR
  split
  ·rename_i e
   exact ⟨I,List.isEmpty_iff.mp e⟩
  ·rename_i e
   refine allR_ok h24 f _ I.step ?_
   have:=I.step.len h24
   have:0<(nxt w (known.map (·.1))).length:=by
    cases q:nxt w (known.map (·.1)) with
    | nil=>rw [q] at e;exact absurd rfl e
    | cons a b=>simp
   rw [length_append] at *
   omega
theorem hold_unlike (ok:w.Ok) (hK:∀p∈K,¬Lk w false p.1 p.2) {r:Row} (h1:r.1.1<w.n) (h2:r.1.2<w.n) (b:rowB w K r=true):¬Lk w false r.1.1 r.1.2:=by
 rintro ⟨R,rt,hR⟩
 have sm:=rt.sm _ _ h1 h2 hR
 unfold smB at sm
 rw [Bool.and_eq_true] at sm
 have em:w.mks r.1.1=w.mks r.1.2:=by simpa using sm.1
 unfold rowB at b
 split at b
 ·unfold bmB at b
  rw [em] at b
  simp at b
 ·rename_i s t e
  rw [Bool.and_eq_true,Bool.and_eq_true,decide_eq_true_eq] at b
  obtain ⟨⟨hs,ht⟩,hb⟩:=b
  obtain ⟨a,ha,rfl⟩:=inS_iff.mp ht
  rw [Int.toNat_natCast] at hb
  unfold bsB at hb
  rw [all_eq_true] at hb
  rcases hs with rfl | rfl
  ·rw [if_pos rfl] at ha
   obtain ⟨u,hu,hRu⟩:=rt.fo _ _ h1 h2 hR a ha
   have:=of_decide_eq_true (hb (a,u) (by unfold askP;rw [if_pos (show Int.toNat 0=0 from rfl)];exact List.mem_map.mpr ⟨u,hu,rfl⟩))
   exact hK _ this ⟨R,rt,hRu⟩
  ·rw [if_neg (by decide)] at ha
   obtain ⟨u,hu,hRu⟩:=rt.ba _ _ h1 h2 hR a ha
   have:=of_decide_eq_true (hb (u,a) (by unfold askP;rw [if_neg (by decide)];exact List.mem_map.mpr ⟨u,hu,rfl⟩))
   exact hK _ this ⟨R,rt,hRu⟩
theorem KI.unlike (ok:w.Ok) {known:List Row} (I:KI w known):∀p∈known.map (·.1),¬Lk w false p.1 p.2:=by
 have key:∀k,k<=known.length->∀p∈(known.take k).map (·.1),¬Lk w false p.1 p.2:=by
  intro k
  induction k with
  | zero=>intro _ p hp;simp at hp
  | succ k ih=>
   intro hk p hp
   have e:known[k]?=some known[k]:=getElem?_eq_getElem (by omega)
   rw [take_succ,e,map_append] at hp
   rcases List.mem_append.mp hp with z | z
   ·exact ih (by omega) p z
   ·have:p=known[k].1:=by simpa using z
    rw [this]
    obtain ⟨a,b⟩:=I.lt _ (getElem_mem (by omega:k<known.length))
    exact hold_unlike ok (ih (by omega)) a b (I.ok k _ e)
 intro p hp
 exact key known.length (Nat.le_refl _) p (by rw [take_length];exact hp)
theorem marks_eq (ok:w.Ok) (hi:i<w.n) (hj:j<w.n) (h:∀c∈letters,(w.mks i).contains c=(w.mks j).contains c):w.mks i=w.mks j:=by
 have sub:∀{r},r<w.n->∃P:Str->Bool,w.mks r=letters.filter P:=fun {r} hr=>mks_filter ok hr
 obtain ⟨P,eP⟩:=sub hi
 obtain ⟨P',eP'⟩:=sub hj
 rw [eP,eP']
 refine List.filter_congr fun c hc=>?_
 have:=h c hc
 rw [eP,eP',Bool.eq_iff_iff,contains_iff_mem,contains_iff_mem,List.mem_filter,List.mem_filter] at this
 rw [Bool.eq_iff_iff]
 exact ⟨fun z=>(this.mp ⟨hc,z⟩).2,fun z=>(this.mpr ⟨hc,z⟩).2⟩
theorem all_alike (ok:w.Ok) (h:nxt w K=[]) (hi:i<w.n) (hj:j<w.n) (hn:(i,j)∉K):Lk w false i j:=by
 have no:∀a b,a<w.n->b<w.n->(a,b)∉K->rsn w K a b=none:=fun a b ha hb hab=>by
  have h0:nx1 w K (a,b)=none:=by
   have:=List.filterMap_eq_nil_iff.mp h (a,b) (mem_psN.mpr ⟨ha,hb⟩)
   exact this
  unfold nx1 at h0
  rw [if_neg hab] at h0
  exact Option.map_eq_none_iff.mp h0
 have nb:∀a b,a<w.n->b<w.n->(a,b)∉K->∀p∈cand w a b,¬bsB w K a b p.1 p.2=true:=fun a b ha hb hab=>by
  have h1:=no a b ha hb hab
  unfold rsn at h1
  split at h1
  ·cases h1
  ·exact List.find?_eq_none.mp (Option.map_eq_none_iff.mp h1)
 refine ⟨fun a b=>a<w.n/\b<w.n/\(a,b)∉K,⟨fun a b ha hb hab=>?_,fun a b ha hb hab t ht=>?_,fun a b ha hb hab t ht=>?_⟩,hi,hj,hn⟩
 ·have h1:=no a b ha hb hab.2.2
  unfold rsn at h1
  split at h1
  ·cases h1
  ·rename_i e
   have e2:w.mks a=w.mks b:=marks_eq ok ha hb fun c hc=>by
    have:=List.find?_eq_none.mp e c hc
    unfold bmB at this
    simpa using this
   unfold smB
   rw [e2]
   simp
 ·refine Classical.byContradiction fun z=>nb a b ha hb hab.2.2 (0,t) (mem_append_left _ (List.mem_map.mpr ⟨t,ht,rfl⟩)) ?_
  show bsB w K a b 0 t=true
  unfold bsB askP
  rw [if_pos rfl,all_eq_true]
  intro p hp
  obtain ⟨u,hu,rfl⟩:=List.mem_map.mp hp
  exact decide_eq_true (Classical.byContradiction fun y=>z ⟨u,hu,ok.stp_lt ht,ok.stp_lt hu,y⟩)
 ·refine Classical.byContradiction fun z=>nb a b ha hb hab.2.2 (1,t) (mem_append_right _ (List.mem_map.mpr ⟨t,ht,rfl⟩)) ?_
  show bsB w K a b 1 t=true
  unfold bsB askP
  rw [if_neg (by decide),all_eq_true]
  intro p hp
  obtain ⟨u,hu,rfl⟩:=List.mem_map.mp hp
  exact decide_eq_true (Classical.byContradiction fun y=>z ⟨u,hu,ok.stp_lt hu,ok.stp_lt ht,y⟩)
end
noncomputable def bhR (w:Wd) (r:Row):List (Nat×Nat):=match r.2 with
 | .mk _=>[]
 | .st s t=>askP w r.1.1 r.1.2 s.toNat t.toNat
noncomputable def rowAt (known:List Row) (p:Nat×Nat):Row:=(known.find? fun r=>decide (r.1=p)).getD (p,.mk "a")
noncomputable def knw (w:Wd):List Row:=allR w 1000 []
noncomputable def ndd (w:Wd) (i j:Nat):List (Nat×Nat):=goA (fun p=>bhR w (rowAt (knw w) p)) 2000 ([(i,j)],[(i,j)])
noncomputable def rwf (w:Wd) (i j:Nat):List Row:=(knw w).filter fun r=>decide (r.1∈ndd w i j)
section
variable {w:Wd} {i j:Nat}
theorem zDX (ok:w.Ok):KI w (knw w)/\nxt w ((knw w).map (·.1))=[]:=allR_ok ok.h24 1000 [] KI.nil (by simp)
theorem knw_iff (ok:w.Ok) (hi:i<w.n) (hj:j<w.n):(i,j)∈(knw w).map (·.1)↔¬Lk w false i j:=by
 obtain ⟨I,e⟩:=zDX ok
 exact ⟨fun h=>I.unlike ok _ h,fun h=>Classical.byContradiction fun z=>h (all_alike ok e hi hj z)⟩
theorem zE0 {known:List Row} (nd:(known.map (·.1)).Nodup) {k:Nat} {r:Row} (h:known[k]?=some r):rowAt known r.1=r:=by
 unfold rowAt
 have:(known.find? fun r'=>decide (r'.1=r.1))=some r:=by
  induction known generalizing k with
  | nil=>simp at h
  | cons a l ih=>
   rw [map_cons,List.nodup_cons] at nd
   rw [find?_cons]
   cases k with
   | zero=>
    have:a=r:=by simpa using h
    subst this
    simp
   | succ k=>
    have hk:l[k]?=some r:=by simpa using h
    have ne:a.1≠r.1:=fun e=>nd.1 (by rw [e];exact List.mem_map.mpr ⟨r,mem_of_getElem? hk,rfl⟩)
    rw [decide_eq_false ne]
    exact ih nd.2 hk
 rw [this]
 rfl
theorem bhR_in {K:List (Nat×Nat)} {r:Row} (b:rowB w K r=true):∀q∈bhR w r,q∈K:=fun q hq=>by
 unfold rowB at b
 unfold bhR at hq
 split at b
 ·rename_i c e;rw [e] at hq;cases hq
 ·rename_i s t e
  rw [e] at hq
  rw [Bool.and_eq_true] at b
  have h:=b.2
  unfold bsB at h
  rw [all_eq_true] at h
  exact of_decide_eq_true (h q hq)
noncomputable def Upto (known:List Row) (k:Nat) (p:Nat×Nat):Prop:=∃m r,m<=k/\known[m]?=some r/\r.1=p
theorem zD7 {known:List Row} (I:KI w known) {k:Nat}:∀p,Upto known k p->∀q∈bhR w (rowAt known p),Upto known k q:=by
 rintro p ⟨m,r,hm,e,rfl⟩ q hq
 rw [zE0 I.nd e] at hq
 have:=bhR_in (I.ok m r e) q hq
 obtain ⟨r',hr',rfl⟩:=List.mem_map.mp this
 obtain ⟨m',hm',e'⟩:=getElem_of_mem hr'
 rw [length_take] at hm'
 rw [List.getElem_take] at e'
 exact ⟨m',r',by omega,by rw [getElem?_eq_getElem (by omega),e'],rfl⟩
theorem ndd_ok (ok:w.Ok) {k:Nat} {r0:Row} (h0:(knw w)[k]?=some r0) (e0:r0.1=(i,j)):WI (Upto (knw w) k) (fun p=>bhR w (rowAt (knw w) p)) (i,j) (ndd w i j,[]):=by
 obtain ⟨I,_⟩:=zDX ok
 have hB:Upto (knw w) k (i,j):=⟨k,r0,Nat.le_refl _,h0,e0⟩
 refine go_ok (M:=576) (fun ks nd hk=>?_) (fun x hx=>zD7 I x hx) 2000 _ ⟨⟨by simp,fun x hx=>by rw [List.mem_singleton.mp hx];exact hB,fun _ z=>z,Nat.le_refl _⟩,List.mem_singleton.mpr rfl,fun x hx=>.inl hx⟩ (by simp)
 have:=pigeo (L:=(knw w).map (·.1)) nd fun x hx=>by
  obtain ⟨m,r,_,e,rfl⟩:=hk x hx
  exact List.mem_map.mpr ⟨r,mem_of_getElem? e,rfl⟩
 rw [length_map] at this
 have:=I.len ok.h24
 omega
theorem hold_filter {S:Nat×Nat->Bool}:∀{rest:List Row} {K:List (Nat×Nat)},holdB w K rest=true->(∀r∈rest,S r.1=true->∀q∈bhR w r,S q=true)->holdB w (K.filter S) (rest.filter fun r=>S r.1)=true
 | [],K,_,_=>rfl
 | r::rest,K,h,cl=>by
  unfold holdB at h
  rw [Bool.and_eq_true] at h
  have ih:=hold_filter (S:=S) h.2 fun r' hr'=>cl r' (mem_cons_of_mem _ hr')
  rw [filter_append] at ih
  rw [filter_cons]
  cases e:S r.1 with
  | false=>
   rw [show [r.1].filter S=[] by simp [e],append_nil] at ih
   exact ih
  | true=>
   rw [show [r.1].filter S=[r.1] by simp [e]] at ih
   rw [if_pos rfl,holdB,Bool.and_eq_true]
   refine ⟨?_,ih⟩
   have h1:=h.1
   have hin:=bhR_in h1
   have hcl:=cl r mem_cons_self e
   unfold rowB at h1 ⊢
   unfold bhR at hin hcl
   split at h1
   ·exact h1
   ·rename_i s t e2
    rw [e2] at hin hcl
    rw [Bool.and_eq_true] at h1 ⊢
    refine ⟨h1.1,?_⟩
    unfold bsB
    rw [all_eq_true]
    exact fun q hq=>decide_eq_true (List.mem_filter.mpr ⟨hin q hq,hcl q hq⟩)
theorem KI.hold {known:List Row} (I:KI w known):holdB w [] known=true:=by
 have key:∀(rest pre:List Row),known=pre++rest->holdB w (pre.map (·.1)) rest=true:=by
  intro rest
  induction rest with
  | nil=>intro _ _;rfl
  | cons r rest ih=>
   intro pre e
   unfold holdB
   rw [Bool.and_eq_true]
   refine ⟨?_,?_⟩
   ·have:=I.ok pre.length r (by rw [e,getElem?_append_right (Nat.le_refl _),Nat.sub_self];rfl)
    rw [e,List.take_left] at this
    exact this
   ·have:=ih (pre++[r]) (by rw [e];simp)
    rw [map_append] at this
    exact this
 exact key known [] rfl
theorem rwf_ok (ok:w.Ok) (h:(i,j)∈(knw w).map (·.1)):holdB w [] (rwf w i j)=true/\(∀r∈rwf w i j,r.1.1<w.n/\r.1.2<w.n)/\(rwf w i j).length<=576/\∃pre r,rwf w i j=pre++[r]/\r.1=(i,j):=by
 obtain ⟨I,_⟩:=zDX ok
 obtain ⟨r0,hr0,e0⟩:=List.mem_map.mp h
 obtain ⟨k,hk,ek⟩:=getElem_of_mem hr0
 have h0:(knw w)[k]?=some r0:=by rw [getElem?_eq_getElem hk,ek]
 have W:=ndd_ok ok h0 e0
 have cl:∀p∈ndd w i j,∀q∈bhR w (rowAt (knw w) p),q∈ndd w i j:=fun p hp=>(W.cl p hp).resolve_left nofun
 have hf:=hold_filter (S:=fun p=>decide (p∈ndd w i j)) I.hold fun r hr hS q hq=>by
  obtain ⟨m,hm,em⟩:=getElem_of_mem hr
  have er:=zE0 I.nd (k:=m) (r:=r) (by rw [getElem?_eq_getElem hm,em])
  exact decide_eq_true (cl r.1 (of_decide_eq_true hS) q (by rw [er];exact hq))
 refine ⟨hf,fun r hr=>I.lt r (List.mem_filter.mp hr).1,Nat.le_trans (length_filter_le _ _) (I.len ok.h24),(rwf w i (j)).dropLast,r0,?_,e0⟩
 have split:knw w=(knw w).take k++r0::(knw w).drop (k+1):=by
  rw [<-ek,<-drop_eq_getElem_cons hk,take_append_drop]
 have e1:rwf w i j=((knw w).take k).filter (fun r=>decide (r.1∈ndd w i j))++[r0]:=by
  unfold rwf
  conv=>lhs;rw [split]
  rw [filter_append,filter_cons,if_pos (decide_eq_true (by rw [e0];exact W.a0))]
  have:((knw w).drop (k+1)).filter (fun r=>decide (r.1∈ndd w i j))=[]:=List.filter_eq_nil_iff.mpr fun r hr hS=>by
   obtain ⟨m,hm,em⟩:=getElem_of_mem hr
   rw [List.getElem_drop] at em
   rw [length_drop] at hm
   obtain ⟨m',r',hm',e',er'⟩:=W.b.ok _ (of_decide_eq_true hS)
   have h1:=(List.getElem?_eq_some_iff.mp e').1
   have h2:=(List.getElem?_eq_some_iff.mp e').2
   have:=(List.getElem_inj (xs:=(knw w).map (·.1)) (i:=m') (j:=k+1+m) (h₀:=by rw [length_map];omega) (h₁:=by rw [length_map];omega) I.nd).mp (by rw [List.getElem_map,List.getElem_map,h2,em];exact er')
   omega
  rw [this]
 rw [e1,List.dropLast_concat]
end
end KC.Ap
namespace KC
open PySem PySem.Spec L2 T PySem.SeqAt
open PyProof.Rows hiding St
variable {ob:HO} {ks:List (Nat×Nat)} {sh:List Bool} {kvs:List (List T.It×V)}
section
variable {w:Wd} {o:Bool} {N:List Nat} {m:Nat}
theorem stp30 (ok:w.Ok) {r:Nat} (hr:r<w.n):(w.stp r).length<=30:=by
 have:w.stp r∈w.s:=by
  unfold Wd.stp
  rw [getD_eq_getElem?_getD,getElem?_eq_getElem (by rw [ok.ls];exact hr)]
  exact getElem_mem _
 exact (ok.st _ this).2.1
end
noncomputable abbrev tP2 (a b:Nat):TE:=tTup (tCons (tVar a) (tCons (tVar b) tNil))
noncomputable def tcK (K:Fg):TT:=fun σ H Q=>tVar 6 σ H fun x H'=>∃k,TruV K x H' k/\Q k H'
noncomputable def tbI (P:Program) (w:World) (K:Fg):L2.TS:=tIfS (tB (zD2 P w K (tVar 8) (tVar 5))) (tSeq (sD2PutH P w K (tVar 5) (tVar 8) (tC (.bl true))) (tDrop (tBM K "list" zDP (tVar 6) (tCons (tVar 8) tNil)))) tNext
noncomputable abbrev pv (p:Nat×Nat):List V:=[.int (p.1:Int),.int (p.2:Int)]
noncomputable abbrev kT:Nat->Nat->Bool:=fun _ _=>true
theorem hid_upd {H:Hp} {O:List Addr} {a:Addr} (h:a∈O):hid (upd H a ob) O=hid H O:=by
 funext b
 unfold hid
 split
 ·rfl
 ·rename_i nb
  exact zAI fun z=>nb (by rw [z];exact h)
theorem kvG_snoc {q:Nat×Nat}:kvG ks kT++[(ky q.1 q.2,.bl true)]=kvG (ks++[q]) kT:=by
 unfold kvG
 rw [map_append]
 rfl
theorem kvG_is {q:Nat×Nat}:(valV (kvG ks kT) (ky q.1 q.2)).isSome=decide (q∈ks):=by
 by_cases h:q∈ks
 ·rw [zEU (i:=q.1) (j:=q.2) h,decide_eq_true h];rfl
 ·rw [zEH (i:=q.1) (j:=q.2) h,decide_eq_false h];rfl
structure IK (P:Program) (w:World) (K:Fg) (He:Hp) (O:List Addr) (d l:Addr) (H:Hp) (p:List (Nat×Nat)×List (Nat×Nat)):Prop where
 s:Same He H
 hD:D2H P w K H O [false,false] d (kvG p.1 kT)
 bs:∃bs:List Addr,H l=some (.lst (bs.map V.ref))/\bs.length=p.2.length/\∀(k:Nat) b q,bs[k]?=some b->p.2[k]?=some q->SqT K (hid H (d::l::O)) b (pv q)
section
variable {P:Program} {w:World} {K:Fg} {He H H':Hp} {O:List Addr} {d l:Addr} {p:List (Nat×Nat)×List (Nat×Nat)}
theorem sub2:∀a∈O,a∈d::l::O:=fun a h=>mem_cons_of_mem _ (mem_cons_of_mem _ h)
theorem D2H.grow (x:D2H P w K H O sh d kvs) (s:Same H H'):D2H P w K H' O sh d kvs:=let ⟨xs,h1,h2,h3⟩:=x;⟨xs,s _ _ h1,h2.mono fun c xs=>SameT (zAP s fun a h=>.inl h),h3⟩
theorem IK.grow (I:IK P w K He O d l H p) (s:Same H H'):IK P w K He O d l H' p:=⟨I.s.trans s,D2H.grow I.hD s,let ⟨bs,h1,h2,h3⟩:=I.bs;⟨bs,s _ _ h1,h2,fun k b q a c=>SameT (zAP s fun a h=>.inl h) (h3 k b q a c)⟩⟩
theorem D2H.ext (x:D2H P w K H O sh d kvs):∃φ,H d=some (.ext φ):=let ⟨_,h,_⟩:=x;⟨_,h⟩
theorem D2H.updL {xs:List V} (x:D2H P w K H O sh d kvs) (hl:H l=some (.lst xs)):D2H P w K (upd H l ob) O sh d kvs:=by
 obtain ⟨φ,hφ⟩:=D2H.ext x
 refine D2H.mono x (zAI fun z=>by rw [z,hl] at hφ;cases hφ) fun c ys h=>zFV (fun vs z=>by rw [hl] at z;cases z) (fun vs o z=>by rw [hl] at z;cases z) h
theorem rd_in {wd:Wd} {N:List Nat} {q:Nat×Nat} {b:Addr} {σ:St} {D:Ends} (I:IK P w K He O d l H p) (hd0:He d=none) (hl0:He l=none) (h5:σ[5]?=some (some (.ref d))) (h6:σ[6]?=some (some (.ref l))) (h8:σ[8]?=some (some (.ref b))) (hb:SqT K (hid H (d::l::O)) b (pv q)) (h1:p.1.length<1000) (h2:p.2.length<1000)
  (hq:∀H',hid H' (d::l::O)=hid H (d::l::O)->IK P w K He O d l H' (stA p q)->D.nx σ H'):tbI P w K D σ H:=by
 have hbz:(1000:Nat)<=sizeLine:=by decide
 have hb1:SqT K (hid H O) b (pv q):=SameT (zF6 sub2) hb
 have k2:K2 K (hid H O) (ky q.1 q.2) b:=⟨_,hb1,.cons rfl (.cons rfl .nil)⟩
 refine ⟨.ref b,h8,.ref d,h5,d,b,[false,false],_,ky q.1 q.2,rfl,rfl,I.hD.d,k2.mono (fun c xs=>SameT hid_le),rfl,_,rfl,?_⟩
 rw [kvG_is]
 by_cases hin:q∈p.1
 ·rw [decide_eq_true hin]
  refine iteF (hq H rfl ?_)
  unfold stA
  rw [if_pos hin]
  exact I
 ·rw [decide_eq_false hin]
  obtain ⟨bs,e1,e2,e3⟩:=I.bs
  obtain ⟨φ,hφ⟩:=D2H.ext I.hD
  have hdl:d≠l:=fun z=>by rw [z,e1] at hφ;cases hφ
  have hn:valV (kvG p.1 kT) (ky q.1 q.2)=none:=zEH hin
  refine iteT ⟨.ref d,h5,.ref b,h8,d,b,[false,false],_,ky q.1 q.2,O,rfl,rfl,I.hD,k2,rfl,by rw [zFD];exact h1,hn,fun ob hD=>?_⟩
  rw [kvG_snoc] at hD
  have el:upd H d ob l=some (.lst (bs.map V.ref)):=by rw [zAI (Ne.symm hdl)];exact e1
  refine ⟨.ref l,h6,.inl ⟨rfl,_,.of el⟩,.ref b,h8,l,bs.map V.ref,.ref b,rfl,rfl,el,by rw [length_map,e2];omega,hq _ (by rw [hid_upd (by simp),hid_upd (by simp)]) ?_⟩
  unfold stA
  rw [if_neg hin]
  refine ⟨fun c o hc=>?_,D2H.updL hD el,bs++[b],by rw [zAF,map_append];rfl,by simp [e2],fun k c r a1 a2=>?_⟩
  ·rw [zAI (fun z=>by subst z;rw [hl0] at hc;cases hc),zAI (fun z=>by subst z;rw [hd0] at hc;cases hc)]
   exact I.s c o hc
  ·rw [hid_upd (by simp),hid_upd (by simp)]
   by_cases hk:k<bs.length
   ·rw [getElem?_append_left hk] at a1
    rw [getElem?_append_left (by omega)] at a2
    exact e3 k c r a1 a2
   ·rw [getElem?_append_right (by omega)] at a1
    rw [getElem?_append_right (by omega)] at a2
    have:k-bs.length=0:=by
     have:=(List.getElem?_eq_some_iff.mp a1).1
     simp at this
     omega
    rw [this] at a1
    rw [<-e2,this] at a2
    cases a1
    cases a2
    exact hb
end
end KC
namespace KC.Ap
open PySem PySem.Spec L2 T PySem.SeqAt
open PyProof.Rows hiding St
open KC
variable {ks:List (Nat×Nat)} {K:Fg} {H':Hp} {c:Str} {wd:Wd} {t m:Nat} {vs:List V} {Qn:St->Hp->Prop} {x8:Option V} {ds:List PySem.PyData} {L:List Row}
noncomputable def kvF (ks:List (Nat×Nat)) (f:Nat×Nat->V):List (List T.It×V):=ks.map fun p=>(ky p.1 p.2,f p)
theorem zGH {f:Nat×Nat->V} {p:Nat×Nat}:∀{ks:List (Nat×Nat)},p∈ks->valV (kvF ks f) (ky p.1 p.2)=some (f p)
 | q::ks,h=>by
  by_cases e:ky q.1 q.2=ky p.1 p.2
  ·obtain ⟨e1,e2⟩:=zFP e
   have:q=p:=Prod.ext e1 e2
   subst this
   exact zD0 rfl
  ·refine (zCY (p:=(ky q.1 q.2,f q)) (r:=kvF ks f) e).trans (zGH ((List.mem_cons.mp h).resolve_left fun z=>e ?_))
   rw [z]
theorem zF5 {f:Nat×Nat->V} {p:Nat×Nat}:∀{ks:List (Nat×Nat)},p∉ks->valV (kvF ks f) (ky p.1 p.2)=none
 | [],_=>rfl
 | q::ks,h=>by
  have e:¬ky q.1 q.2=ky p.1 p.2:=fun e=>h (by
   obtain ⟨e1,e2⟩:=zFP e
   have:q=p:=Prod.ext e1 e2
   rw [this]
   exact mem_cons_self)
  exact (zCY (p:=(ky q.1 q.2,f q)) (r:=kvF ks f) e).trans (zF5 fun z=>h (mem_cons_of_mem _ z))
theorem zGX {f:Nat×Nat->V} {p:Nat×Nat}:(valV (kvF ks f) (ky p.1 p.2)).isSome=decide (p∈ks):=by
 by_cases h:p∈ks
 ·rw [zGH h,decide_eq_true h];rfl
 ·rw [zF5 h,decide_eq_false h];rfl
theorem kvF_len {f:Nat×Nat->V}:(kvF ks f).length=ks.length:=by unfold kvF;rw [length_map]
noncomputable def DF (P:Program) (w:World) (K:Fg) (H:Hp) (d:Addr) (ks:List (Nat×Nat)) (f:Nat×Nat->V):Prop:=D2 P w K H [false,false] d (kvF ks f)
noncomputable def DK (P:Program) (w:World) (K:Fg) (H:Hp) (d:Addr) (ks:List (Nat×Nat)):Prop:=∃f,DF P w K H d ks f
theorem DF.grow {P:Program} {w:World} {H:Hp} {d:Addr} {f:Nat×Nat->V} (x:DF P w K H d ks f) (s:Same H H'):DF P w K H' d ks f:=by
 obtain ⟨xs,h1,h2,h3⟩:=x
 exact ⟨xs,s _ _ h1,h2.mono fun c xs=>SameT s,h3⟩
theorem DK.grow {P:Program} {w:World} {H:Hp} {d:Addr} (x:DK P w K H d ks) (s:Same H H'):DK P w K H' d ks:=let ⟨f,h⟩:=x;⟨f,h.grow s⟩
noncomputable def d_pairs_asked:FS:=(sSeq (sIf (bOf gBool (eOp gEq (eVar 3) (eK (.int 0)))) (sRet (eComp .leaf 5 (iSeq (eIdx (eIdx (eVar 0) (eK (.int 2))) (eVar 2))) bTrue (eTup (eCons (eVar 4) (eCons (eVar 5) eNil))))) sNext)
  (sRet (eComp .leaf 5 (iSeq (eIdx (eIdx (eVar 0) (eK (.int 2))) (eVar 1))) bTrue (eTup (eCons (eVar 5) (eCons (eVar 4) eNil))))))
noncomputable def m_pairs_asked:List PySem.PyData->Res:=denOf 6 d_pairs_asked
noncomputable def d_is_by_mark:FS:=(sRet (eOp gNe (eOp (gIn false) (eVar 3) (eIdx (eIdx (eVar 0) (eK (.int 1))) (eVar 1))) (eOp (gIn false) (eVar 3) (eIdx (eIdx (eVar 0) (eK (.int 1))) (eVar 2)))))
noncomputable def m_is_by_mark:List PySem.PyData->Res:=denOf 4 d_is_by_mark
theorem inTx {l:List Str} (hc:PyData.strOk c=true) (hl:∀x∈l,PyData.strOk x=true):gIn false (.str c) (txs l)=some (.bool (l.contains c)):=by
 have s1:shaped (.str c)=true:=sh_str hc
 have s2:shaped (txs l)=true:=by
  have q:=cl_S (xs:=l.map .str) fun d hd=>by
   obtain ⟨x,hx,rfl⟩:=List.mem_map.mp hd
   exact ⟨x,rfl,hl x hx⟩
  unfold shaped
  show (PyData.canLay0 (.list (l.map .str))&&decide (PyData.depth (.list (l.map .str))<=64))=true
  rw [PyData.canLay0,q.1,Bool.true_and,PyData.depth,q.2]
  rfl
 show (if shaped (.str c)&&shaped (.list (l.map .str)) then some (PyData.bool (if false=true then _ else (l.map .str).any fun y=>PyData.eqv y (.str c))) else none)=_
 have s2':shaped (.list (l.map PyData.str))=true:=s2
 rw [s1,s2',Bool.and_self,if_pos rfl,if_neg Bool.false_ne_true]
 congr 2
 rw [Bool.eq_iff_iff,any_eq_true,contains_iff_mem]
 constructor
 ·rintro ⟨y,hy,e⟩
  obtain ⟨x,hx,rfl⟩:=List.mem_map.mp hy
  have:x=c:=by simpa [PyData.eqv] using e
  rw [<-this];exact hx
 ·intro h
  exact ⟨.str c,List.mem_map.mpr ⟨c,h,rfl⟩,by simp [PyData.eqv]⟩
theorem neBo {a b:Bool}:gNe (.bool a) (.bool b)=some (.bool (a != b)):=by cases a<;>cases b<;>kernel_rfl
theorem mk_ok (ok:wd.Ok) {r:Nat}:∀x∈wd.mks r,PyData.strOk x=true:=fun x hx=>by
 unfold Wd.mks at hx
 rw [getD_eq_getElem?_getD] at hx
 cases e:wd.m[r]? with
 | none=>rw [e] at hx;cases hx
 | some l=>rw [e] at hx;exact ok.mc l (mem_of_getElem? e) x hx
section
variable {wd:Wd} {i j:Nat}
theorem den_bm (ok:wd.Ok) (hi:i<wd.n) (hj:j<wd.n) (hc:PyData.strOk c=true):m_is_by_mark [wd.enc,rm i,rm j,.str c]=.ok ⟨.leaf,.bool (bmB wd i j c)⟩:=
 rt_of (x_ret (v_op (v_op (zAB (i:=3) rfl) (zGG ok (U:=zAO 4 [wd.enc,rm i,rm j,.str c]) (i:=0) (fb:=eVar 1) (s:=.leaf) rfl (zAB rfl) hi) (inTx hc (mk_ok ok))) (v_op (zAB (i:=3) rfl) (zGG ok (i:=0) (fb:=eVar 2) (s:=.leaf) rfl (zAB rfl) hj) (inTx hc (mk_ok ok))) neBo) rfl)
theorem den_pa (ok:wd.Ok) (hi:i<wd.n) (hj:j<wd.n) {s:Nat} (hs:s<=1):m_pairs_asked [wd.enc,rm i,rm j,rm s,rm t]=.ok ⟨.lst .leaf,.list ((askP wd i j s t).map prT)⟩:=by
 have tst:=zAK (s:=.leaf) (v_op (zAB (U:=zAO 6 [wd.enc,rm i,rm j,rm s,rm t]) (i:=3) (d:=rm s) rfl) (v_k (d:=.int 0)) (KC.eq_int (a:=(s:Int)) (b:=0)))
 have l1:=stp30 ok hi
 have l2:=stp30 ok hj
 have a1:=zC6 ok (U:=zAO 6 [wd.enc,rm i,rm j,rm s,rm t]) (i:=0) (fb:=eVar 2) (s:=.leaf) (r:=j) rfl (zAB rfl) hj
 have a2:=zC6 ok (U:=zAO 6 [wd.enc,rm i,rm j,rm s,rm t]) (i:=0) (fb:=eVar 1) (s:=.leaf) (r:=i) rfl (zAB rfl) hi
 unfold askP
 by_cases h:s=0
 ·subst h
  rw [if_pos rfl,map_map]
  exact rt_of (zC1 (x_if (t:=true) tst (fun _=>x_ret (zBK rm (wd.stp j) (fun a=>⟨.tup [.leaf,.leaf],prT (t,a)⟩) (st:=true) (w_seq (s:=.leaf) a1 rfl) (by simp [zAO]) rfl (by omega) fun a ha=>⟨v_tup (zAC (zAB (i:=4) rfl) (zAC (zAB (i:=5) rfl) v_nil)) rfl rfl,rfl⟩) rfl) nofun))
 ·rw [if_neg h,map_map]
  have e:((s:Int)==0)=false:=by simpa using (by omega:(s:Int)≠0)
  rw [e] at tst
  exact rt_of (x_seq (x_if (t:=false) tst nofun (fun _=>rfl)) (x_ret (zBK rm (wd.stp i) (fun a=>⟨.tup [.leaf,.leaf],prT (a,t)⟩) (st:=true) (w_seq (s:=.leaf) a2 rfl) (by simp [zAO]) rfl (by omega) fun a ha=>⟨v_tup (zAC (zAB (i:=5) rfl) (zAC (zAB (i:=4) rfl) v_nil)) rfl rfl,rfl⟩) rfl))
end
noncomputable abbrev N_bs:List Str:=["world", "one", "other", "side", "there", "known", "pair"]
noncomputable abbrev G_bs:List Str:=["all", "pairs_asked"]
noncomputable abbrev fPA:F1:=eCall 5 m_pairs_asked (eCons (eVar 0) (eCons (eVar 1) (eCons (eVar 2) (eCons (eVar 3) (eCons (eVar 4) eNil)))))
noncomputable def tBS (P:Program) (w:World) (K:Fg):L2.TS:=tRet (tCB (rAll K false) (tCons (tComp [6] (iList K (tE K W0 fPA)) (gName 6) tTrue (tD2In P w K (tVar 6) (tVar 5))) tNil))
noncomputable def spBS (P:Program) (w:World) (K:Fg):Sp:=fun vs H Q _=>∃(wd:Wd) (O:List Addr) (v0:V) (d:Addr) (ks:List (Nat×Nat)) (i j s t:Nat),vs=[v0,.int (i:Int),.int (j:Int),.int (s:Int),.int (t:Int),.ref d]/\wd.Ok/\O.Nodup/\(∀a∈O,H a≠none)/\Rep K (hid H O) v0 wd.enc/\DK P w K H d ks/\i<wd.n/\j<wd.n/\s<=1/\∀H',Same H H'->Q (.bl (bsB wd ks i j s t)) H'
theorem askP_len (ok:wd.Ok) {i j s:Nat}:(askP wd i j s t).length<=1000:=by
 unfold askP
 split<;>(rw [length_map];exact stp_1000 ok)
section
variable {P:Program} {w:World} {K:Fg} {H:Hp}
theorem rd_bs {Q:VK} {E:XK} (h:spBS P w K vs H Q E):tBS P w K { nx:=Qn,rt:=Q } (L2.start N_bs vs) H:=by
 obtain ⟨wd,O,v0,d,ks,i,j,s,t,rfl,ok,nd,inH,r0,⟨f,hD⟩,hi,hj,hs,q⟩:=h
 show tBS P w K { nx:=Qn,rt:=Q } [some v0,some (.int (i:Int)),some (.int (j:Int)),some (.int (s:Int)),some (.int (t:Int)),some (.ref d),none] H
 have E0:EnvOk K H O (List.replicate (([some ⟨.leaf,wd.enc⟩,some ⟨.leaf,rm i⟩,some ⟨.leaf,rm j⟩,some ⟨.leaf,rm s⟩,some ⟨.leaf,rm t⟩,none,none]:Ev)).length []) H [some v0,some (.int (i:Int)),some (.int (j:Int)),some (.int (s:Int)),some (.int (t:Int)),some (.ref d),none] [some ⟨.leaf,wd.enc⟩,some ⟨.leaf,rm i⟩,some ⟨.leaf,rm j⟩,some ⟨.leaf,rm s⟩,some ⟨.leaf,rm t⟩,none,none]:=by
  refine envL nd inH rfl fun k x hx=>?_
  match k,hx with
  | 0,hx=>cases hx;exact ⟨rfl,_,rfl,r0⟩
  | 1,hx=>cases hx;exact ⟨rfl,_,rfl,.int _⟩
  | 2,hx=>cases hx;exact ⟨rfl,_,rfl,.int _⟩
  | 3,hx=>cases hx;exact ⟨rfl,_,rfl,.int _⟩
  | 4,hx=>cases hx;exact ⟨rfl,_,rfl,.int _⟩
  | 5,hx=>cases hx
  | 6,hx=>cases hx
  | k+7,hx=>cases hx
 show tE K W0 fPA _ H _
 refine evR inH E0 (zAQ (zAC (zAB (i:=0) rfl) (zAC (zAB (i:=1) rfl) (zAC (zAB (i:=2) rfl) (zAC (zAB (i:=3) rfl) (zAC (zAB (i:=4) rfl) v_nil))))) (den_pa ok hi hj hs) rfl rfl) rfl fun v H1 s1 r1=>?_
 cases r1 with
 | @lst p ws _ hq hl hr=>
 rw [length_map] at hl
 have key:=rd_boolsV (K:=K) (σ:=[some v0,some (.int (i:Int)),some (.int (j:Int)),some (.int (s:Int)),some (.int (t:Int)),some (.ref d),none]) (H:=H1) (Q:=fun v H2=>rAll K false [v] H2 Q) (c:=6) (tl:=fun _ H Q=>Q (.ref p) H) (te:=tD2In P w K (tVar 6) (tVar 5)) (p:=p) (ws:=ws) (row:=askP wd i j s t) (f:=fun q=>decide (q∈ks)) (fun Q' h=>h) (hid_le.seq hq) hl (askP_len ok) (fun k v a e1 e2 H2 Q' s2 kq=>?_) fun L H2 s2 hL hL2=>?_
 ·exact key
 ·obtain ⟨b,rfl,hb⟩:=rep_pr (hr k v (prT a) e1 (by rw [getElem?_map,e2];rfl))
  have hb2:SqT K H2 b (pv a):=SameT (hid_le.trans s2) hb
  refine ⟨.ref b,by simp [blank],.ref d,by simp [blank],d,b,[false,false],_,ky a.1 a.2,rfl,rfl,DF.grow hD (s1.trans s2),⟨_,hb2,.cons rfl (.cons rfl .nil)⟩,rfl,?_⟩
  rw [zGX]
  exact kq H2 (Same.refl _)
 ·refine ⟨L,(askP wd i j s t).map fun q=>decide (q∈ks),rfl,.inl (.inl hL2),?_⟩
  rw [if_neg Bool.false_ne_true,List.all_map]
  exact q H2 (s1.trans s2)
end
noncomputable def BsOk (P:Program) (w:World) (K:Fg) (mg:Str->Option Value) (base:Heap) (j:Nat):Prop:=
 ∃(f:Addr) (fd:FuncData) (ps:List Str),FnOk P w K mg base CX0 j f fd ps (spBS P w K)/\mg "is_by_step"=some (.ref f)/\PySem.W.keepIn K (.ref f)=true/\Binds K fd ps []
noncomputable abbrev CaBS (X:Cx):Prop:=∃(k:Nat) (f:Addr) (fd:FuncData) (ps:List Str),FnOk X.prog X.w X.K X.mg X.base CX0 k f fd ps (spBS X.prog X.w X.K)/\Room k X.A/\X.mg "is_by_step"=some (.ref f)/\PySem.W.keepIn X.K (.ref f)=true/\Binds X.K fd ps []
noncomputable abbrev N_rf:List Str:=["world", "one", "other", "known", "letter", "side", "room", "there"]
noncomputable abbrev G_rf:List Str:=["LETTERS", "is_by_mark", "enumerate", "is_by_step"]
noncomputable abbrev k_LTR:D:=.tuple [.str "a",.str "b",.str "c",.str "d",.str "e",.str "f"]
noncomputable abbrev fBM:FB:=bOf gTru (eCall 4 m_is_by_mark (eCons (eVar 0) (eCons (eVar 1) (eCons (eVar 2) (eCons (eVar 4) eNil)))))
noncomputable abbrev fST:F1:=eIdx (eIdx (eVar 0) (eK (.int 2))) (eVar 6)
noncomputable def tStp (P:Program) (w:World) (K:Fg):L2.TS:=tIfS (tB (tCall (spBS P w K) [] L2.E0 (tCons (tVar 0) (tCons (tVar 1) (tCons (tVar 2) (tCons (tVar 5) (tCons (tVar 7) (tCons (tVar 3) tNil)))))))) (tRet (tTup (tCons (tC (.str "step")) (tCons (tVar 5) (tCons (tVar 7) tNil))))) tNext
noncomputable def tRF (P:Program) (w:World) (K:Fg):L2.TS:=tSeq (tFor (iTup K (tE K W0 (eK k_LTR))) (gName 4) (tIfS (tT K W0 fBM) (tRet (tTup (tCons (tC (.str "mark")) (tCons (tVar 4) tNil)))) tNext))
 (tSeq (tFor (iEnum K (tCons (tLst (tCons (tVar 1) (tCons (tVar 2) tNil))) tNil)) (gTup K 2 (gCons (gName 5) (gCons (gName 6) gNil))) (tFor (iList K (tE K W0 fST)) (gName 7) (tStp P w K))) (tRet (tC .non)))
noncomputable def rsO (o:Option Rsn):D:=match o with
 | none=>.none
 | some r=>rsnT r
noncomputable def spRF (P:Program) (w:World) (K:Fg):Sp:=fun vs H Q _=>∃(wd:Wd) (O:List Addr) (v0:V) (d:Addr) (ks:List (Nat×Nat)) (i j:Nat),vs=[v0,.int (i:Int),.int (j:Int),.ref d]/\wd.Ok/\O.Nodup/\(∀a∈O,H a≠none)/\Rep K (hid H O) v0 wd.enc/\DK P w K H d ks/\i<wd.n/\j<wd.n/\∀v H',Same H H'->Rep K (hid H' O) v (rsO (rsn wd ks i j))->Q v H'
noncomputable abbrev sr (v0:V) (i j:Nat) (d:Addr) (x4 x5 x6 x7:Option V):St:=[some v0,some (.int (i:Int)),some (.int (j:Int)),some (.ref d),x4,x5,x6,x7]
noncomputable abbrev GR (wd:Wd) (i j:Nat) (x4 x6:Option PV):Ev:=[some ⟨.leaf,wd.enc⟩,some ⟨.leaf,rm i⟩,some ⟨.leaf,rm j⟩,none,x4,none,x6,none]
theorem for_enum {a:Addr} {xs:List V} {g:TG} {tb:L2.TS} {D:Ends} {σ:St} {H:Hp} (Pv:Nat->St->Hp->Prop) (h0:Pv 0 σ H) (hl:∀i σ H,i<=xs.length->Pv i σ H->SqL K H a xs)
  (hs:∀(i:Nat) x σ H T,xs[i]?=some x->Pv i σ H->H T=none->g (.ref T) σ (upd H T (.tup [.int (i:Int),x])) fun σ2 H2=>tb { D with nx:=Pv (i+1),ct:=Pv (i+1),bk:=D.nx } σ2 H2) (hd:∀σ H,Pv xs.length σ H->D.nx σ H) :
  ∃W:Nat->Nat->St->Hp->Prop,(∃m,W 0 m σ H)/\∀i m σ H,W i m σ H ->
   ((Ite K a).stop i H/\D.nx σ H)\/((Ite K a).go i H/\∃N:St->Hp->Prop,(∀σ' H',N σ' H'->∃m',m'<m/\W (i+1) m' σ' H')/\∀x H',(Ite K a).yld i H x H'->g x σ H' fun σ2 H2=>tb { D with nx:=N,ct:=N,bk:=D.nx } σ2 H2):=by
 refine ⟨fun i m σ H=>m=xs.length-i/\i<=xs.length/\Pv i σ H,⟨xs.length,by simp,Nat.zero_le _,h0⟩,?_⟩
 rintro i m σ H ⟨rfl,hi,p⟩
 have q:=hl i σ H hi p
 by_cases hlt:i<xs.length
 ·refine .inr ⟨⟨xs,xs[i],q,getElem?_eq_getElem hlt⟩,Pv (i+1),fun σ' H' p'=>⟨xs.length-(i+1),by omega,rfl,hlt,p'⟩,fun x H' y=>?_⟩
  obtain ⟨T,v,rfl,hT,rfl,hv⟩:=y
  have e:=hv xs q
  exact hs i v σ H T e p hT
 ·have e:i=xs.length:=by omega
  subst e
  exact .inl ⟨⟨xs,q,Nat.le_refl _⟩,hd σ H p⟩
theorem find_at {α:Type} {L:List α} {p:α->Bool} {t:α} (h:∀x∈L.take m,p x=false) (e:L[m]?=some t) (hp:p t=true):L.find? p=some t:=by
 have e2:L=L.take m++t::L.drop (m+1):=by
  obtain ⟨h1,h2⟩:=List.getElem?_eq_some_iff.mp e
  rw [<-h2,<-drop_eq_getElem_cons h1,take_append_drop]
 rw [e2,find?_append,List.find?_eq_none.mpr fun x hx=>by rw [h x hx];exact Bool.false_ne_true]
 simp [hp]
theorem cand_at {i j k:Nat} (hk:k<=1) (h0:∀p∈cand wd i j,p.1<k->bsB wd ks i j p.1 p.2=false) (h:∀x∈(wd.stp (if k=0 then i else j)).take m,bsB wd ks i j k x=false) (e:(wd.stp (if k=0 then i else j))[m]?=some t) (hp:bsB wd ks i j k t=true):((cand wd i j).find? fun p=>bsB wd ks i j p.1 p.2)=some (k,t):=by
 unfold cand
 rw [find?_append]
 match k,hk with
 | 0,_=>
  rw [if_pos rfl] at h e
  rw [find_at (L:=(wd.stp i).map fun t=>(0,t)) (m:=m) (t:=(0,t)) (fun x hx=>by
   rw [<-List.map_take] at hx
   obtain ⟨y,hy,rfl⟩:=List.mem_map.mp hx
   exact h y hy) (by rw [getElem?_map,e];rfl) hp]
  rfl
 | 1,_=>
  rw [if_neg (by decide)] at h e
  rw [List.find?_eq_none.mpr (fun x hx=>by rw [h0 x (mem_append_left _ hx) (by obtain ⟨y,_,rfl⟩:=List.mem_map.mp hx;exact Nat.zero_lt_one)];exact Bool.false_ne_true),find_at (L:=(wd.stp j).map fun t=>(1,t)) (m:=m) (t:=(1,t)) (fun x hx=>by
   rw [<-List.map_take] at hx
   obtain ⟨y,hy,rfl⟩:=List.mem_map.mp hx
   exact h y hy) (by rw [getElem?_map,e];rfl) hp]
  rfl
theorem let_ok6:∀c∈letters,PyData.strOk c=true:=by decide +kernel
section
variable {P:Program} {w:World} {K:Fg} {H:Hp}
theorem rd_rf {Q:VK} {E:XK} (h:spRF P w K vs H Q E):tRF P w K { nx:=Qn,rt:=Q } (L2.start N_rf vs) H:=by
 obtain ⟨wd,O,v0,d,ks,i,j,rfl,ok,nd,inH,r0,hD,hi,hj,q⟩:=h
 show tRF P w K { nx:=Qn,rt:=Q } (sr v0 i j d none none none none) H
 have inS:∀{H'},Same H H'->∀a∈O,H' a≠none:=fun {H'} s a ha=>by
  cases e:H a with
  | none=>exact absurd e (inH a ha)
  | some u=>rw [s a u e];exact Option.some_ne_none _
 have mono:∀{H'},Same H H'->Same (hid H O) (hid H' O):=fun s=>zAP s fun a ha=>.inl ha
 have EE:∀(H':Hp) (x4 x5 x6 x7:Option V) (y4 y6:Option PV),Same H H'->(∀p,y4=some p->p.s=.leaf/\∃v,x4=some v/\Rep K (hid H' O) v p.d)->(∀p,y6=some p->p.s=.leaf/\∃v,x6=some v/\Rep K (hid H' O) v p.d)->EnvOk K H' O (List.replicate (GR wd i j y4 y6).length []) H' (sr v0 i j d x4 x5 x6 x7) (GR wd i j y4 y6):=fun H' x4 x5 x6 x7 y4 y6 s h4 h6=>by
  refine envL nd (inS s) rfl fun n x hx=>?_
  match n,hx with
  | 0,hx=>cases hx;exact ⟨rfl,_,rfl,r0.mono (mono s)⟩
  | 1,hx=>cases hx;exact ⟨rfl,_,rfl,.int _⟩
  | 2,hx=>cases hx;exact ⟨rfl,_,rfl,.int _⟩
  | 3,hx=>cases hx
  | 4,hx=>
   have:y4=some x:=by simpa using hx
   obtain ⟨a,v,e,r⟩:=h4 x this
   exact ⟨a,v,by rw [e];rfl,r⟩
  | 5,hx=>cases hx
  | 6,hx=>
   have:y6=some x:=by simpa using hx
   obtain ⟨a,v,e,r⟩:=h6 x this
   exact ⟨a,v,by rw [e];rfl,r⟩
  | 7,hx=>cases hx
  | n+8,hx=>cases hx
 refine evR (W:=W0) inH (EE H none none none none none none (Same.refl _) (fun _ z=>nomatch z) (fun _ z=>nomatch z)) (v_k (d:=k_LTR)) rfl fun v H1 s1 r1=>?_
 have r1:Rep K (hid H1 O) v (.tuple (letters.map .str)):=r1
 cases r1 with
 | @tup pl ls _ hql hll hrl=>
 have hls:ls=letters.map V.str:=by
  apply ext_getElem?
  intro k
  rw [length_map] at hll
  by_cases hk:k<ls.length
  ·have hk2:k<letters.length:=by omega
   have rr:=hrl k ls[k] (.str letters[k]) (getElem?_eq_getElem hk) (by rw [getElem?_map,getElem?_eq_getElem hk2];rfl)
   rw [getElem?_eq_getElem hk,getElem?_map,getElem?_eq_getElem hk2]
   generalize ls[k]=u at rr
   cases rr
   rfl
  ·rw [getElem?_eq_none (by omega),getElem?_eq_none (by rw [length_map];omega)]
 subst hls
 refine ⟨pl,rfl,⟨_,SameT hid_le hql⟩,?_⟩
 refine for_tup (xs:=letters.map V.str) (fun k σ' H'=>(∃x4,σ'=sr v0 i j d x4 none none none)/\Same H1 H'/\(letters.take k).find? (bmB wd i j)=none) ⟨⟨_,rfl⟩,Same.refl _,rfl⟩ (fun k σ' H' _ h=>SameT (hid_le.trans h.2.1) hql) (fun k u σ' H' e h=>?_) fun σ' H' h=>?_
 ·obtain ⟨⟨x4,rfl⟩,s2,hno⟩:=h
  rw [getElem?_map] at e
  obtain ⟨c,ec,rfl⟩:=Option.map_eq_some_iff.mp e
  have hcl:c∈letters:=mem_of_getElem? ec
  have s12:=s1.trans s2
  show tT K W0 fBM (sr v0 i j d (some (.str c)) none none none) H' _
  refine evB (EE H' (some (.str c)) none none none (some ⟨.leaf,.str c⟩) none s12 (fun p z=>by cases z;exact ⟨rfl,_,rfl,.str c⟩) (fun _ z=>nomatch z)) (b_tru (s:=.leaf) (zAQ (zAC (zAB (i:=0) rfl) (zAC (zAB (i:=1) rfl) (zAC (zAB (i:=2) rfl) (zAC (zAB (i:=4) rfl) v_nil)))) (den_bm ok hi hj (let_ok6 c hcl)) rfl rfl)) fun H3 s3=>?_
  have htk:letters.take (k+1)=letters.take k++[c]:=by rw [take_succ,ec];rfl
  cases eb:bmB wd i j c with
  | true=>
   have er:rsn wd ks i j=some (.mk c):=by
    unfold rsn
    have:letters.find? (bmB wd i j)=some c:=by
     have e2:letters=letters.take (k+1)++letters.drop (k+1):=(take_append_drop _ _).symm
     rw [e2,find?_append,htk,find?_append,hno]
     simp [eb]
    rw [this]
   refine iteT ⟨_,rfl,Nat.le_trans (by decide:2<=1000) (by decide),fun p hp=>?_⟩
   refine q _ _ ((s12.trans s3).trans (zAG hp)) ?_
   rw [er]
   refine .tup (.inl (.inl (zBA zAF fun z=>inS (s12.trans s3) p z hp))) rfl fun n x dd h1 h2=>?_
   match n,h1,h2 with
   | 0,h1,h2=>cases h1;cases h2;exact .str _
   | 1,h1,h2=>cases h1;cases h2;exact .str _
   | n+2,h1,h2=>cases h1
  | false=>
   refine iteF ⟨⟨_,rfl⟩,s2.trans s3,?_⟩
   rw [htk,find?_append,hno]
   simp [eb]
 ·obtain ⟨⟨x4,rfl⟩,s2,hno⟩:=h
  rw [length_map,take_length] at hno
  have er:rsn wd ks i j=((cand wd i j).find? fun p=>bsB wd ks i j p.1 p.2).map fun p=>.st (p.1:Int) (p.2:Int):=by
   unfold rsn
   rw [hno]
  rw [er] at q
  have s12:=s1.trans s2
  refine ⟨_,rfl,_,rfl,Nat.le_trans (by decide:2<=1000) (by decide),fun l hl=>⟨l,rfl,⟨_,.inl (.inl zAF)⟩,?_⟩⟩
  have hl2:upd H' l (.lst [.int (i:Int),.int (j:Int)]) l=some (.lst [.int (i:Int),.int (j:Int)]):=zAF
  have sl:Same H (upd H' l (.lst [.int (i:Int),.int (j:Int)])):=s12.trans (zAG hl)
  generalize upd H' l (.lst [.int (i:Int),.int (j:Int)])=H2 at *
  refine for_enum (xs:=[.int (i:Int),.int (j:Int)]) (fun k σ' H'=>(∃x5 x6 x7,σ'=sr v0 i j d x4 x5 x6 x7)/\Same H2 H'/\∀p∈cand wd i j,p.1<k->bsB wd ks i j p.1 p.2=false) ⟨⟨_,_,_,rfl⟩,Same.refl _,fun p _ z=>absurd z (Nat.not_lt_zero _)⟩ (fun k σ' H' _ h=>.inl (.inl (h.2.1 _ _ hl2))) (fun k u σ' H' T e h hT=>?_) fun σ' H' h=>?_
  ·obtain ⟨⟨x5,x6,x7,rfl⟩,s3,hno2⟩:=h
   have hk:k<=1:=by
    have:=(List.getElem?_eq_some_iff.mp e).1
    simp at this
    omega
   have eu:u=.int ((if k=0 then i else j:Nat):Int):=by
    match k,hk with
    | 0,_=>cases e;rfl
    | 1,_=>cases e;rfl
   subst eu
   have hrn:(if k=0 then i else j)<wd.n:=by split<;>assumption
   have sT:Same H (upd H' T (.tup [.int (k:Int),.int ((if k=0 then i else j:Nat):Int)])):=(sl.trans s3).trans (zAG hT)
   have sT2:Same H2 (upd H' T (.tup [.int (k:Int),.int ((if k=0 then i else j:Nat):Int)])):=s3.trans (zAG hT)
   refine ⟨T,_,rfl,.inl (.inl zAF),rfl,_,_,rfl,_,_,rfl,rfl,?_⟩
   generalize upd H' T (.tup [.int (k:Int),.int ((if k=0 then i else j:Nat):Int)])=H3 at *
   generalize hr:(if k=0 then i else j)=r at *
   show tFor (iList K (tE K W0 fST)) (gName 7) (tStp P w K) _ (sr v0 i j d x4 (some (.int (k:Int))) (some (.int (r:Int))) x7) H3
   have ex:fST (GR wd i j none (some ⟨.leaf,rm r⟩))=.ok ⟨.leaf,.list (((wd.stp r).map fun t:Nat=>(t:Int)).map .int)⟩ (GR wd i j none (some ⟨.leaf,rm r⟩)):=by
    have e:PyData.list (((wd.stp r).map fun t:Nat=>(t:Int)).map .int)=rms (wd.stp r):=by
     show PyData.list _=PyData.list _
     rw [map_map]
     rfl
    rw [e]
    exact zC6 ok (i:=0) (s:=.leaf) rfl (zAB (i:=6) rfl) hrn
   refine evL (EE H3 x4 (some (.int (k:Int))) (some (.int (r:Int))) x7 none (some ⟨.leaf,rm r⟩) sT (fun _ z=>nomatch z) (fun p z=>by cases z;exact ⟨rfl,_,rfl,.int _⟩)) ex fun pa H4 s4 hp=>?_
   have hp:SqL K H4 pa ((wd.stp r).map fun t:Nat=>V.int (t:Int)):=by
    have:=hp
    rw [map_map] at this
    exact this
   refine ⟨pa,rfl,⟨_,hp⟩,?_⟩
   refine zB9 (xs:=(wd.stp r).map fun t:Nat=>V.int (t:Int)) (fun m σ' H'=>(∃x7,σ'=sr v0 i j d x4 (some (.int (k:Int))) (some (.int (r:Int))) x7)/\Same H4 H'/\∀x∈(wd.stp r).take m,bsB wd ks i j k x=false) ⟨⟨_,rfl⟩,Same.refl _,fun x hx=>by simp at hx⟩ (fun m σ' H' _ h=>h.2.1.seq hp) (fun m u σ' H' e h=>?_) fun σ' H' h=>?_
   ·obtain ⟨⟨x7,rfl⟩,s5,hno3⟩:=h
    rw [getElem?_map] at e
    obtain ⟨t,et,rfl⟩:=Option.map_eq_some_iff.mp e
    have sA:Same H H':=(sT.trans s4).trans s5
    refine ⟨v0,rfl,_,rfl,_,rfl,_,rfl,_,rfl,.ref d,rfl,wd,O,v0,d,ks,i,j,k,t,rfl,ok,nd,inS sA,r0.mono (mono sA),hD.grow sA,hi,hj,hk,fun H5 s6=>⟨_,rfl,?_⟩⟩
    cases eb:bsB wd ks i j k t with
    | true=>
     have ef:=cand_at hk hno2 (by rw [hr];exact hno3) (by rw [hr];exact et) eb
     refine iteT ⟨_,rfl,_,rfl,Nat.le_trans (by decide:3<=1000) (by decide),fun p hpn=>?_⟩
     refine q _ _ ((sA.trans s6).trans (zAG hpn)) ?_
     rw [ef]
     refine .tup (.inl (.inl (zBA zAF fun z=>inS (sA.trans s6) p z hpn))) rfl fun n x dd h1 h2=>?_
     match n,h1,h2 with
     | 0,h1,h2=>cases h1;cases h2;exact .str _
     | 1,h1,h2=>cases h1;cases h2;exact .int _
     | 2,h1,h2=>cases h1;cases h2;exact .int _
     | n+3,h1,h2=>cases h1
    | false=>
     refine iteF ⟨⟨_,rfl⟩,s5.trans s6,fun x hx=>?_⟩
     rw [take_succ,et] at hx
     rcases List.mem_append.mp hx with z | z
     ·exact hno3 x z
     ·have:x=t:=by simpa using z
      rw [this];exact eb
   ·obtain ⟨⟨x7,rfl⟩,s5,hno3⟩:=h
    rw [length_map,take_length] at hno3
    refine ⟨⟨_,_,_,rfl⟩,(sT2.trans s4).trans s5,fun p hp hpk=>?_⟩
    by_cases hlt:p.1<k
    ·exact hno2 p hp hlt
    ·have epk:p.1=k:=by omega
     rw [epk]
     refine hno3 p.2 ?_
     rw [<-hr]
     rcases zFI hp with z | z
     ·rw [if_pos (by omega)];exact z.2
     ·rw [if_neg (by omega)];exact z.2
  ·obtain ⟨⟨x5,x6,x7,rfl⟩,s3,hno2⟩:=h
   refine q _ _ (sl.trans s3) ?_
   have:((cand wd i j).find? fun p=>bsB wd ks i j p.1 p.2)=none:=List.find?_eq_none.mpr fun p hp=>by
    rw [hno2 p hp (by rcases zFI hp with z | z<;>(rw [z.1];simp))]
    exact Bool.false_ne_true
   rw [this]
   exact .non
end
noncomputable def RfOk (P:Program) (w:World) (K:Fg) (mg:Str->Option Value) (base:Heap) (j:Nat):Prop:=
 ∃(f:Addr) (fd:FuncData) (ps:List Str),FnOk P w K mg base CX0 j f fd ps (spRF P w K)/\mg "reason_for"=some (.ref f)/\PySem.W.keepIn K (.ref f)=true/\Binds K fd ps []
noncomputable abbrev CaRF (X:Cx):Prop:=∃(k:Nat) (f:Addr) (fd:FuncData) (ps:List Str),FnOk X.prog X.w X.K X.mg X.base CX0 k f fd ps (spRF X.prog X.w X.K)/\Room k X.A/\X.mg "reason_for"=some (.ref f)/\PySem.W.keepIn X.K (.ref f)=true/\Binds X.K fd ps []
noncomputable abbrev N_rn:List Str:=["world", "known", "rows", "one", "other", "reason"]
noncomputable abbrev G_rn:List Str:=["range", "len", "reason_for"]
noncomputable abbrev rNotN:R2:=fun x y H Q=>y=.non/\Q (.bl (!decide (x=.non))) H
noncomputable def tRsn (P:Program) (w:World) (K:Fg):TE:=tIf (tB (tD2In P w K (tPair 3 4) (tVar 1))) (tC .non) (tCall (spRF P w K) [] L2.E0 (tCons (tVar 0) (tCons (tVar 3) (tCons (tVar 4) (tCons (tVar 1) tNil)))))
noncomputable def tRnB (P:Program) (w:World) (K:Fg):L2.TS:=tSeq (tAsg (tRsn P w K) (gName 5)) (tIfS (tTest (tOp rNotN (tVar 5) (tC .non))) (tDrop (tBM K "list" zDP (tVar 2) (tCons (tTup (tCons (tVar 3) (tCons (tVar 4) (tCons (tVar 5) tNil)))) tNil))) tNext)
noncomputable def tRN (P:Program) (w:World) (K:Fg):L2.TS:=tSeq (tAsg (tLst tNil) (gName 2)) (tSeq (tFor (iRng1 (tCons (tLn K) tNil)) (gName 3) (tFor (iRng1 (tCons (tLn K) tNil)) (gName 4) (tRnB P w K))) (tRet (tVar 2)))
noncomputable def spRN (P:Program) (w:World) (K:Fg):Sp:=fun vs H Q _=>∃(wd:Wd) (O:List Addr) (v0:V) (d:Addr) (ks:List (Nat×Nat)),vs=[v0,.ref d]/\wd.Ok/\O.Nodup/\(∀a∈O,H a≠none)/\Rep K (hid H O) v0 wd.enc/\DK P w K H d ks/\∀v H',Same H H'->Rep K (hid H' O) v (.list ((nxt wd ks).map rowT))->Q v H'
theorem rep3 {H:Hp} {p:Addr} {i j:Nat} {v:V} {r:Rsn} (h:SqT K H p [.int (i:Int),.int (j:Int),v]) (hr:Rep K H v (rsnT r)):Rep K H (.ref p) (rowT ((i,j),r)):=.tup h rfl fun n x d h1 h2=>by
 match n,h1,h2 with
 | 0,h1,h2=>cases h1;cases h2;exact .int _
 | 1,h1,h2=>cases h1;cases h2;exact .int _
 | 2,h1,h2=>cases h1;cases h2;exact hr
 | n+3,h1,h2=>cases h1
theorem nx_len (h24:wd.n<=24) {i j:Nat} (hi:i<=wd.n) (hj:j<=wd.n):((psT wd.n i j).filterMap (nx1 wd ks)).length<1000:=by
 have a:=List.length_filterMap_le (nx1 wd ks) (psT wd.n i j)
 rw [zFB] at a
 have:i*wd.n<=24*24:=Nat.mul_le_mul (by omega) h24
 omega
section
variable {P:Program} {w:World} {K:Fg} {H:Hp}
theorem rd_rn {Q:VK} {E:XK} (h:spRN P w K vs H Q E):tRN P w K { nx:=Qn,rt:=Q } (L2.start N_rn vs) H:=by
 obtain ⟨wd,O,v0,d,ks,rfl,ok,nd,inH,r0,hD,q⟩:=h
 have h24:=ok.h24
 have hbz:(1000:Nat)<=sizeLine:=by decide
 show tRN P w K { nx:=Qn,rt:=Q } [some v0,some (.ref d),none,none,none,none] H
 refine ⟨Nat.zero_le _,fun l hl=>?_⟩
 have inS:∀{H'},Same H H'->∀a∈O,H' a≠none:=fun {H'} s a ha=>by
  cases e:H a with
  | none=>exact absurd e (inH a ha)
  | some u=>rw [s a u e];exact Option.some_ne_none _
 have hlO:l∉O:=fun z=>inH l z hl
 have nd2:(l::O).Nodup:=List.nodup_cons.mpr ⟨hlO,nd⟩
 have mo:∀{H'},Same H H'->Same (hid H O) (hid H' (l::O)):=fun s=>zAP s fun a ha=>by
  rcases List.mem_cons.mp ha with rfl | ha
  ·exact .inr hl
  ·exact .inl ha
 show tFor (iRng1 (tCons (tLn K) tNil)) (gName 3) (tFor (iRng1 (tCons (tLn K) tNil)) (gName 4) (tRnB P w K)) _ [some v0,some (.ref d),some (.ref l),none,none,none] _
 refine rd_ln ok r0 (hid_le.trans (zAG hl)) rfl ⟨(wd.n:Int),rfl,by omega,by omega,?_⟩
 let Z (H':Hp) (rows:List Row):Prop:=∃us:List V,H' l=some (.lst us)/\us.length=rows.length/\∀(k:Nat) u r,us[k]?=some u->rows[k]?=some r->Rep K (hid H' (l::O)) u (rowT r)
 have Zg:∀{H' H'':Hp} {rows},Z H' rows->Same H' H''->Z H'' rows:=fun ⟨us,h1,h2,h3⟩ s=>⟨us,s _ _ h1,h2,fun k u r e1 e2=>(h3 k u r e1 e2).mono (zAP s fun a ha=>.inl ha)⟩
 refine zDJ (n:=wd.n) (fun i σ' H'=>(∃x3 x4 x5,σ'=[some v0,some (.ref d),some (.ref l),x3,x4,x5])/\Same H H'/\Z H' ((psT wd.n i 0).filterMap (nx1 wd ks))) ⟨⟨_,_,_,rfl⟩,zAG hl,[],zAF,by simp [psT],fun k u r e=>by simp at e⟩ (fun i σ' H' hi h=>?_) fun σ' H' h=>?_
 ·obtain ⟨⟨x3,x4,x5,rfl⟩,s1,z1⟩:=h
  rw [Int.zero_add]
  show tFor (iRng1 (tCons (tLn K) tNil)) (gName 4) (tRnB P w K) _ [some v0,some (.ref d),some (.ref l),some (.int (i:Int)),x4,x5] H'
  refine rd_ln ok r0 (hid_le.trans s1) rfl ⟨(wd.n:Int),rfl,by omega,by omega,?_⟩
  refine zDJ (n:=wd.n) (fun j σ' H'=>(∃x4 x5,σ'=[some v0,some (.ref d),some (.ref l),some (.int (i:Int)),x4,x5])/\Same H H'/\Z H' ((psT wd.n i j).filterMap (nx1 wd ks))) ⟨⟨_,_,rfl⟩,s1,z1⟩ (fun j σ' H' hj h=>?_) fun σ' H' h=>?_
  ·obtain ⟨⟨x4,x5,rfl⟩,s2,z2⟩:=h
   rw [Int.zero_add]
   have inS2:∀{H''},Same H' H''->∀a∈l::O,H'' a≠none:=fun {H''} s a ha=>by
    rcases List.mem_cons.mp ha with rfl | ha
    ·obtain ⟨us,h1,_⟩:=z2
     rw [s _ _ h1];exact Option.some_ne_none _
    ·exact inS (s2.trans s) a ha
   have enx:(psT wd.n i (j+1)).filterMap (nx1 wd ks)=(psT wd.n i j).filterMap (nx1 wd ks)++(nx1 wd ks (i,j)).toList:=by
    rw [zE4,List.filterMap_append]
    congr 1
   have nn:nx1 wd ks (i,j)=if (i,j)∈ks then none else (rsn wd ks i j).map fun r=>((i,j),r):=rfl
   obtain ⟨f,hDf⟩:=id hD
   refine ⟨_,rfl,_,rfl,zC2,fun b hb=>⟨.ref d,rfl,d,b,[false,false],_,ky i j,rfl,rfl,DF.grow hDf (s2.trans (zAG hb)),zC3,rfl,_,rfl,?_⟩⟩
   have sb:Same H' (upd H' b (.tup [.int (i:Int),.int (j:Int)])):=zAG hb
   rw [zGX (p:=(i,j))]
   generalize upd H' b (.tup [.int (i:Int),.int (j:Int)])=H3 at sb
   have s3:=s2.trans sb
   by_cases hin:(i,j)∈ks
   ·rw [decide_eq_true hin]
    refine iteT ⟨_,rfl,rfl,_,rfl,iteF ⟨⟨_,_,rfl⟩,s3,?_⟩⟩
    rw [enx,nn,if_pos hin]
    simpa using Zg z2 sb
   ·rw [decide_eq_false hin]
    refine iteF ⟨v0,rfl,_,rfl,_,rfl,.ref d,rfl,wd,l::O,v0,d,ks,i,j,rfl,ok,nd2,inS2 sb,r0.mono (mo s3),hD.grow s3,hi,hj,fun v5 H4 s4 r5=>?_⟩
    have s34:=s3.trans s4
    have z4:=Zg z2 (sb.trans s4)
    cases er:rsn wd ks i j with
    | none=>
     rw [er] at r5
     have r5:Rep K (hid H4 (l::O)) v5 .none:=r5
     cases r5
     refine ⟨_,rfl,rfl,_,rfl,iteF ⟨⟨_,_,rfl⟩,s34,?_⟩⟩
     rw [enx,nn,if_neg hin,er]
     simpa using z4
    | some r=>
     rw [er] at r5
     have r5:Rep K (hid H4 (l::O)) v5 (rsnT r):=r5
     have hne:decide (v5=V.non)=false:=decide_eq_false fun z=>by
      subst z
      cases r<;>(unfold rsnT at r5;cases r5)
     obtain ⟨us,u1,u2,u3⟩:=z4
     refine ⟨v5,rfl,rfl,_,rfl,?_⟩
     rw [hne]
     refine iteT ⟨.ref l,rfl,.inl ⟨rfl,_,.of u1⟩,_,rfl,_,rfl,v5,rfl,Nat.le_trans (by decide:3<=1000) (by decide),fun p hp=>?_⟩
     have sp:Same H4 (upd H4 p (.tup [.int (i:Int),.int (j:Int),v5])):=zAG hp
     have hpl:p≠l:=fun z=>by rw [z,u1] at hp;cases hp
     have hlp:upd H4 p (.tup [.int (i:Int),.int (j:Int),v5]) l=some (.lst us):=sp _ _ u1
     refine ⟨l,us,.ref p,rfl,rfl,hlp,by rw [u2];have:=nx_len h24 (ks:=ks) (i:=i) (j:=j) (by omega) (by omega);omega,⟨_,_,rfl⟩,fun c o hc=>?_,us++[.ref p],zAF,?_,fun k u r' e1 e2=>?_⟩
     ·rw [zAI (fun z=>by subst z;rw [hl] at hc;cases hc)]
      exact sp c o (s34 c o hc)
     ·rw [enx,nn,if_neg hin,er]
      simp [u2]
     ·rw [hid_upd mem_cons_self]
      rw [enx,nn,if_neg hin,er] at e2
      by_cases hk:k<us.length
      ·rw [getElem?_append_left hk] at e1
       rw [getElem?_append_left (by omega)] at e2
       exact (u3 k u r' e1 e2).mono (zAP sp fun a ha=>.inl ha)
      ·rw [getElem?_append_right (by omega)] at e1
       rw [getElem?_append_right (by omega)] at e2
       have h0:k-us.length=0:=by
        have:=(List.getElem?_eq_some_iff.mp e1).1
        simp at this
        omega
       rw [h0] at e1
       rw [<-u2,h0] at e2
       cases e1
       cases e2
       have r5':Rep K (hid (upd H4 p (.tup [.int (i:Int),.int (j:Int),v5])) (l::O)) v5 (rsnT r):=r5.mono (zAP sp fun a ha=>.inl ha)
       refine rep3 (.inl (.inl (zBA zAF fun z=>?_))) r5'
       rcases List.mem_cons.mp z with y | y
       ·exact hpl y
       ·exact inS s34 p y hp
  ·obtain ⟨⟨x4,x5,rfl⟩,s2,z2⟩:=h
   refine ⟨⟨_,_,_,rfl⟩,s2,?_⟩
   rw [zE5]
   exact z2
 ·obtain ⟨⟨x3,x4,x5,rfl⟩,s1,us,u1,u2,u3⟩:=h
  refine ⟨.ref l,rfl,q _ _ s1 (.lst (.inl (.inl (zBA u1 hlO))) (by rw [length_map];exact u2) fun k u dd e1 e2=>?_)⟩
  rw [getElem?_map] at e2
  obtain ⟨r,er,rfl⟩:=Option.map_eq_some_iff.mp e2
  exact (u3 k u r e1 er).mono (zF6 fun a ha=>mem_cons_of_mem _ ha)
end
noncomputable def RnOk (P:Program) (w:World) (K:Fg) (mg:Str->Option Value) (base:Heap) (j:Nat):Prop:=
 ∃(f:Addr) (fd:FuncData) (ps:List Str),FnOk P w K mg base CX0 j f fd ps (spRN P w K)/\mg "rows_next"=some (.ref f)/\PySem.W.keepIn K (.ref f)=true/\Binds K fd ps []
noncomputable abbrev CaRN (X:Cx):Prop:=∃(k:Nat) (f:Addr) (fd:FuncData) (ps:List Str),FnOk X.prog X.w X.K X.mg X.base CX0 k f fd ps (spRN X.prog X.w X.K)/\Room k X.A/\X.mg "rows_next"=some (.ref f)/\PySem.W.keepIn X.K (.ref f)=true/\Binds X.K fd ps []
noncomputable abbrev N_ar:List Str:=["world", "known", "fresh", "row"]
noncomputable abbrev G_ar:List Str:=["rows_next"]
noncomputable def tcL (K:Fg) (i:Nat):TT:=fun σ H Q=>tVar i σ H fun x H'=>∃k,TruV K x H' k/\Q k H'
noncomputable abbrev tIt (K:Fg) (v:Nat) (i:Int):TE:=tOp (rIx K) (tVar v) (tC (.int i))
noncomputable abbrev tRw2 (K:Fg) (v:Nat):TE:=tTup (tCons (tIt K v 0) (tCons (tIt K v 1) tNil))
noncomputable abbrev tCRN (P:Program) (w:World) (K:Fg):TE:=tCall (spRN P w K) [] L2.E0 (tCons (tVar 0) (tCons (tVar 1) tNil))
noncomputable def tARb (P:Program) (w:World) (K:Fg):L2.TS:=tSeq (tFor (iList K (tVar 2)) (gName 3) (sD2Put P w K (tVar 1) (tRw2 K 3) (tVar 3))) (tAsg (tCRN P w K) (gName 2))
noncomputable def tAR (P:Program) (w:World) (K:Fg):L2.TS:=tSeq (tAsg (zGB P w K [false,false]) (gName 1)) (tSeq (tAsg (tCRN P w K) (gName 2)) (tSeq (zEQ (tcL K 2) (tARb P w K)) (tRet (tVar 1))))
structure KV (P:Program) (w:World) (K:Fg) (H:Hp) (O:List Addr) (d:Addr) (known:List Row):Prop where
 h:∃f,DF P w K H d (known.map (·.1)) f/\∀r∈known,Rep K (hid H O) (f r.1) (rowT r)
theorem kvF_snoc {q:Nat×Nat} {f:Nat×Nat->V} {v:V} (h:q∉ks):kvF ks f++[(ky q.1 q.2,v)]=kvF (ks++[q]) (fun p=>if p=q then v else f p):=by
 unfold kvF
 rw [map_append]
 congr 1
 ·refine map_congr_left fun p hp=>?_
  show _=(ky p.1 p.2,if p=q then v else f p)
  rw [if_neg (fun z:p=q=>h (by rw [<-z];exact hp))]
 ·show _=[(ky q.1 q.2,if q=q then v else f q)]
  rw [if_pos rfl]
section
variable {P:Program} {w:World} {K:Fg} {H H':Hp} {O:List Addr} {d:Addr} {known:List Row}
theorem KV.grow (h:KV P w K H O d known) (s:Same H H'):KV P w K H' O d known:=let ⟨f,h1,h2⟩:=h.h;⟨f,h1.grow s,fun r hr=>(h2 r hr).mono (zAP s fun a ha=>.inl ha)⟩
theorem zFY {v:V} {r:Row} (h:Rep K H v (rowT r)):∃p u,v=.ref p/\SqT K H p [.int (r.1.1:Int),.int (r.1.2:Int),u]/\Rep K H u (rsnT r.2):=by
 cases h with
 | @tup p vs _ hq hl hr=>
 match vs,hl with
 | [a,b,c],_=>
  have h0:=hr 0 a _ rfl rfl
  have h1:=hr 1 b _ rfl rfl
  have h2:=hr 2 c _ rfl rfl
  cases h0
  cases h1
  exact ⟨p,c,rfl,hq,h2⟩
noncomputable def spAR (P:Program) (w:World) (K:Fg):Sp:=fun vs H Q _=>∃(wd:Wd) (O:List Addr) (v0:V),vs=[v0]/\wd.Ok/\O.Nodup/\(∀a∈O,H a≠none)/\Rep K (hid H O) v0 wd.enc/\∀d H',Same H H'->H d=none->KV P w K H' (d::O) d (knw wd)->Q (.ref d) H'
theorem rd_ar {Q:VK} {E:XK} (h:spAR P w K vs H Q E):tAR P w K { nx:=Qn,rt:=Q } (L2.start N_ar vs) H:=by
 obtain ⟨wd,O,v0,rfl,ok,nd,inH,r0,q⟩:=h
 have h24:=ok.h24
 have hbz:(1000:Nat)<=sizeLine:=by decide
 show tAR P w K { nx:=Qn,rt:=Q } [some v0,none,none,none] H
 refine fun d ob hd hD=>?_
 have hdO:d∉O:=fun z=>inH d z hd
 have nd2:(d::O).Nodup:=List.nodup_cons.mpr ⟨hdO,nd⟩
 have mo:∀{H'},Same H H'->Same (hid H O) (hid H' (d::O)):=fun s=>zAP s fun a ha=>by
  rcases List.mem_cons.mp ha with rfl | ha
  ·exact .inr hd
  ·exact .inl ha
 have in2:∀{H'},Same H H'->H' d≠none->∀a∈d::O,H' a≠none:=fun {H'} s hd' a ha=>by
  rcases List.mem_cons.mp ha with rfl | ha
  ·exact hd'
  ·cases e:H a with
   | none=>exact absurd e (inH a ha)
   | some u=>rw [s a u e];exact Option.some_ne_none _
 have ext:∀{H' known},KV P w K H' (d::O) d known->H' d≠none:=fun k=>by
  obtain ⟨f,⟨xs,h,_⟩,_⟩:=k.h
  rw [h];exact Option.some_ne_none _
 have k0:KV P w K (upd H d ob) (d::O) d []:=⟨fun _=>.non,hD,fun r z=>nomatch z⟩
 have s0:Same H (upd H d ob):=zAG hd
 have call:∀(H':Hp) (known:List Row) (x2 x3:Option V) (D:Ends),Same H H'->KV P w K H' (d::O) d known->(∀v2 H2,Same H' H2->Rep K (hid H2 (d::O)) v2 (.list ((nxt wd (known.map (·.1))).map rowT))->D.nx [some v0,some (.ref d),some v2,x3] H2)->tAsg (tCRN P w K) (gName 2) D [some v0,some (.ref d),x2,x3] H':=fun H' known x2 x3 D s kv hq=>by
  refine ⟨v0,rfl,.ref d,rfl,wd,d::O,v0,d,known.map (·.1),rfl,ok,nd2,in2 s (ext kv),r0.mono (mo s),(let ⟨f,h1,_⟩:=kv.h;⟨f,h1⟩),fun v H2 s2 r2=>hq v H2 s2 r2⟩
 generalize upd H d ob=H1 at k0 s0
 show tSeq (tAsg (tCRN P w K) (gName 2)) (tSeq (zEQ (tcL K 2) (tARb P w K)) (tRet (tVar 1))) _ [some v0,some (.ref d),none,none] H1
 refine call H1 [] none none _ s0 k0 fun v2 H2 s2 r2=>?_
 refine ⟨fun m σ H'=>∃known v2 x3,σ=[some v0,some (.ref d),some v2,x3]/\Same H H'/\KV P w K H' (d::O) d known/\Rep K (hid H' (d::O)) v2 (.list ((nxt wd (known.map (·.1))).map rowT))/\KI wd known/\576-known.length<m/\allR wd m known=knw wd,⟨1000,[],v2,none,rfl,s0.trans s2,k0.grow s2,r2,KI.nil,by simp,rfl⟩,?_⟩
 rintro m σ H' ⟨known,v2,x3,rfl,s,kv,r,ki,hm,ha⟩
 cases m with
 | zero=>exact absurd hm (Nat.not_lt_zero _)
 | succ m=>
 cases r with
 | @lst l us _ hl hlen hr=>
 rw [length_map] at hlen
 refine ⟨.ref l,rfl,!us.isEmpty,.inl ⟨_,hid_le.seq hl,rfl⟩,?_⟩
 unfold allR at ha
 cases us with
 | nil=>
  have e:nxt wd (known.map (·.1))=[]:=List.length_eq_zero_iff.mp hlen.symm
  rw [e] at ha
  have ha:known=knw wd:=ha
  subst ha
  exact iteF ⟨.ref d,rfl,q d H' s hd kv⟩
 | cons u0 us0=>
 generalize hus:u0::us0=us at *
 have hpos:0<us.length:=by rw [<-hus];simp
 have hne:(!us.isEmpty)=true:=by rw [<-hus];rfl
 have hfe:(nxt wd (known.map (·.1))).isEmpty=false:=by
  cases e:nxt wd (known.map (·.1)) with
  | nil=>rw [e] at hlen;simp at hlen;rw [hlen] at hpos;exact absurd hpos (Nat.lt_irrefl _)
  | cons a b=>rfl
 rw [hfe,if_neg Bool.false_ne_true] at ha
 rw [hne]
 refine iteT ⟨fun σ' H'=>∃m',m'<m+1/\∃known v2 x3,σ'=[some v0,some (.ref d),some v2,x3]/\Same H H'/\KV P w K H' (d::O) d known/\Rep K (hid H' (d::O)) v2 (.list ((nxt wd (known.map (·.1))).map rowT))/\KI wd known/\576-known.length<m'/\allR wd m' known=knw wd,fun σ' H' z=>z,?_⟩
 have kst:=ki.step
 have klen:=kst.len h24
 generalize hfr:nxt wd (known.map (·.1))=fr at *
 have ndA:=kst.nd
 refine ⟨.ref l,rfl,l,rfl,⟨_,hid_le.seq hl⟩,?_⟩
 refine zB9 (xs:=us) (fun k σ' H'=>(∃x3,σ'=[some v0,some (.ref d),some (.ref l),x3])/\Same H H'/\Same (hid H' (d::O)) (hid H' (d::O))/\KV P w K H' (d::O) d (known++fr.take k)/\SqL K (hid H' (d::O)) l us/\∀(i:Nat) v r,us[i]?=some v->fr[i]?=some r->Rep K (hid H' (d::O)) v (rowT r)) ⟨⟨_,rfl⟩,s,Same.refl _,by simpa using kv,hl,fun i v r h1 h2=>hr i v _ h1 (by rw [getElem?_map,h2];rfl)⟩ (fun k σ' H' _ h=>hid_le.seq h.2.2.2.2.1) (fun k v σ' H3 e h=>?_) fun σ' H3 h=>?_
 ·obtain ⟨⟨x3,rfl⟩,s3,_,kv3,hl3,hr3⟩:=h
  have hk:k<fr.length:=by rw [<-hlen];exact (List.getElem?_eq_some_iff.mp e).1
  have er:fr[k]?=some fr[k]:=getElem?_eq_getElem hk
  have htk:fr.take (k+1)=fr.take k++[fr[k]]:=by rw [take_succ,er];rfl
  have rv:=hr3 k v _ e er
  have hnew:fr[k].1∉(known++fr.take k).map (·.1):=fun z=>by
   have e2:known++fr=(known++fr.take k)++fr[k]::fr.drop (k+1):=by
    rw [<-drop_eq_getElem_cons hk,append_assoc,take_append_drop]
   rw [e2,map_append,map_cons] at ndA
   exact (List.nodup_append.mp ndA).2.2 _ z _ mem_cons_self rfl
  generalize fr[k]=r at *
  obtain ⟨p,u,rfl,hp,hu⟩:=zFY rv
  have hpH:SqT K H3 p _:=SameT hid_le hp
  refine ⟨.ref p,rfl,.ref d,rfl,.ref p,rfl,.inr (.inl ⟨p,_,0,_,rfl,rfl,hpH,rfl,.ref p,rfl,.inr (.inl ⟨p,_,1,_,rfl,rfl,hpH,rfl,zC2,fun b hb=>?_⟩)⟩)⟩
  have sb:Same H3 (upd H3 b (.tup [.int (r.1.1:Int),.int (r.1.2:Int)])):=zAG hb
  have kv4:=kv3.grow sb
  have k2:K2 K (upd H3 b (.tup [.int (r.1.1:Int),.int (r.1.2:Int)])) (ky r.1.1 r.1.2) b:=zC3
  have sh:=zAP (O:=d::O) (O':=d::O) sb fun a ha=>.inl ha
  generalize upd H3 b (.tup [.int (r.1.1:Int),.int (r.1.2:Int)])=H4 at *
  obtain ⟨f,hf,hv⟩:=kv4.h
  have hlt:((known++fr.take k).map (·.1)).length<1000:=by
   rw [length_map,length_append,length_take]
   rw [length_append] at klen
   omega
  refine ⟨d,b,[false,false],_,ky r.1.1 r.1.2,rfl,rfl,hf,k2,rfl,by rw [kvF_len];exact hlt,zF5 hnew,fun ob hD2=>?_⟩
  rw [kvF_snoc hnew] at hD2
  have hu2:hid (upd H4 d ob) (d::O)=hid H4 (d::O):=hid_upd mem_cons_self
  refine ⟨⟨_,rfl⟩,fun c o hc=>?_,Same.refl _,⟨fun p'=>if p'=r.1 then .ref p else f p',?_,fun r' hr'=>?_⟩,?_,fun i v r' h1 h2=>?_⟩
  ·rw [zAI (fun z=>by subst z;rw [hd] at hc;cases hc)]
   exact sb c o (s3 c o hc)
  ·rw [htk,<-append_assoc,map_append (l₂:=[r])]
   exact hD2
  ·rw [hu2]
   rw [htk,<-append_assoc] at hr'
   rcases List.mem_append.mp hr' with z | z
   ·show Rep K _ (if r'.1=r.1 then V.ref p else f r'.1) _
    rw [if_neg (fun y=>hnew (by rw [<-y];exact List.mem_map.mpr ⟨r',z,rfl⟩))]
    exact hv r' z
   ·rw [List.mem_singleton.mp z]
    show Rep K _ (if r.1=r.1 then V.ref p else f r.1) _
    rw [if_pos rfl]
    exact rv.mono sh
  ·rw [hu2]
   exact sh.seq hl3
  ·rw [hu2]
   exact (hr3 i v r' h1 h2).mono sh
 ·obtain ⟨⟨x3,rfl⟩,s3,_,kv3,_,_⟩:=h
  rw [hlen,take_length] at kv3
  refine call H3 _ _ _ _ s3 kv3 fun v2 H4 s4 r4=>⟨m,Nat.lt_succ_self _,_,v2,x3,rfl,s3.trans s4,kv3.grow s4,r4,kst,?_,ha⟩
  rw [length_append,<-hlen]
  rw [length_append,<-hlen] at klen
  omega
end
noncomputable def ArOk (P:Program) (w:World) (K:Fg) (mg:Str->Option Value) (base:Heap) (j:Nat):Prop:=
 ∃(f:Addr) (fd:FuncData) (ps:List Str),FnOk P w K mg base CX0 j f fd ps (spAR P w K)/\mg "all_rows"=some (.ref f)/\PySem.W.keepIn K (.ref f)=true/\Binds K fd ps []
noncomputable abbrev CaAR (X:Cx):Prop:=∃(k:Nat) (f:Addr) (fd:FuncData) (ps:List Str),FnOk X.prog X.w X.K X.mg X.base CX0 k f fd ps (spAR X.prog X.w X.K)/\Room k X.A/\X.mg "all_rows"=some (.ref f)/\PySem.W.keepIn X.K (.ref f)=true/\Binds X.K fd ps []
noncomputable def d_pairs_behind:FS:=(sRet (eIf (bOf gBool (eOp gEq (eIdx (eIdx (eVar 1) (eK (.int 2))) (eK (.int 0))) (eK (.str "mark")))) (eList .leaf eNil) (eCall 5 m_pairs_asked (eCons (eVar 0) (eCons (eIdx (eVar 1) (eK (.int 0))) (eCons (eIdx (eVar 1) (eK (.int 1))) (eCons (eIdx (eIdx (eVar 1) (eK (.int 2))) (eK (.int 1))) (eCons (eIdx (eIdx (eVar 1) (eK (.int 2))) (eK (.int 2))) eNil))))))))
noncomputable def m_pairs_behind:List PySem.PyData->Res:=denOf 2 d_pairs_behind
theorem v_ifA {c:FB} {fa fb:F1} {U:Ev} {t:Bool} {p:PV} (hc:c U=.ok t U) (ha:t=true->fa U=.ok p U) (hb:t=false->fb U=.ok p U):eIf c fa fb U=.ok p U:=by
 unfold eIf;rw [hc];simp only [zER]
 cases t with
 | true=>exact ha rfl
 | false=>exact hb rfl
noncomputable def Rok:Rsn->Prop
 | .mk _=>True
 | .st s t=>∃a b:Nat,s=(a:Int)/\t=(b:Int)/\a<=1
theorem rowB_rok {r:Row} (h:rowB wd ks r=true):Rok r.2:=by
 unfold rowB at h
 split at h
 ·rename_i c e;rw [e];exact True.intro
 ·rename_i s t e
  rw [e]
  rw [Bool.and_eq_true,Bool.and_eq_true] at h
  obtain ⟨b,_,eb⟩:=inS_iff.mp h.1.2
  have hs:=of_decide_eq_true h.1.1
  rcases hs with z | z
  ·exact ⟨0,b,z,eb.symm,by omega⟩
  ·exact ⟨1,b,z,eb.symm,by omega⟩
theorem den_pbR {r:Row} (ok:wd.Ok) (h1:r.1.1<wd.n) (h2:r.1.2<wd.n) (hr:Rok r.2):m_pairs_behind [wd.enc,rowT r]=.ok ⟨.lst .leaf,.list ((bhR wd r).map prT)⟩:=by
 obtain ⟨⟨i,j⟩,rs⟩:=r
 have row:eVar 1 (zAO 2 [wd.enc,rowT ((i,j),rs)])=.ok ⟨.leaf,rowT ((i,j),rs)⟩ (zAO 2 [wd.enc,rowT ((i,j),rs)]):=zAB rfl
 have rea:eIdx (eVar 1) (eK (.int 2)) (zAO 2 [wd.enc,rowT ((i,j),rs)])=.ok ⟨.leaf,rsnT rs⟩ (zAO 2 [wd.enc,rowT ((i,j),rs)]):=zAM (j:=2) (ds:=[rm i,rm j,rsnT rs]) row (v_k (d:=.int 2)) rfl rfl rfl
 cases rs with
 | mk c=>
  have hd:=zAM (j:=0) (ds:=[.str "mark",.str c]) rea (v_k (d:=.int 0)) rfl rfl rfl
  exact rt_of (x_ret (v_ifA (t:=true) (zAK (s:=.leaf) (v_op hd (v_k (d:=.str "mark")) (by kernel_rfl))) (fun _=>zBZ v_nil rfl rfl rfl) nofun) rfl)
 | st s t=>
  obtain ⟨a,b,rfl,rfl,ha⟩:=hr
  have hd:=zAM (j:=0) (ds:=[.str "step",.int (a:Int),.int (b:Int)]) rea (v_k (d:=.int 0)) rfl rfl rfl
  have hs:=zAM (j:=1) (ds:=[.str "step",rm a,rm b]) rea (v_k (d:=.int 1)) rfl rfl rfl
  have ht:=zAM (j:=2) (ds:=[.str "step",rm a,rm b]) rea (v_k (d:=.int 2)) rfl rfl rfl
  have e:bhR wd ((i,j),.st (a:Int) (b:Int))=askP wd i j a b:=by
   show askP wd i j (a:Int).toNat (b:Int).toNat=_
   rw [Int.toNat_natCast,Int.toNat_natCast]
  rw [e]
  exact rt_of (x_ret (v_ifA (t:=false) (zAK (s:=.leaf) (v_op hd (v_k (d:=.str "mark")) (by kernel_rfl))) nofun (fun _=>zAQ (zAC (zAB (i:=0) rfl) (zAC (zAM (j:=0) (ds:=[rm i,rm j,rsnT (.st a b)]) row (v_k (d:=.int 0)) rfl rfl rfl) (zAC (zAM (j:=1) (ds:=[rm i,rm j,rsnT (.st a b)]) row (v_k (d:=.int 1)) rfl rfl rfl) (zAC hs (zAC ht v_nil))))) (den_pa ok h1 h2 ha) rfl rfl)) rfl)
noncomputable abbrev N_rw:List Str:=["world", "one", "other", "rows", "zz", "needed", "waiting", "pair", "behind"]
noncomputable abbrev G_rw:List Str:=["all_rows", "pairs_behind"]
noncomputable def tbR (P:Program) (w:World) (K:Fg):L2.TS:=tSeq (tAsg (tBM0 K "list" rPop (tVar 6)) (gName 7)) (tFor (iList K (tCall (spD K 2 m_pairs_behind) [] L2.E0 (tCons (tVar 0) (tCons (zFK P w K (tVar 3) (tVar 7)) tNil)))) (gName 8) (tbI P w K))
noncomputable def tRWc (P:Program) (w:World) (K:Fg):TE:=tComp [7] (iD2 P w K (tVar 3)) (gName 7) (tB (tD2In P w K (tVar 7) (tVar 5))) (tD2GetE P w K (tVar 3) (tVar 7))
noncomputable def tRW (P:Program) (w:World) (K:Fg):L2.TS:=tSeq (tAsg (tCall (spAR P w K) [] L2.E0 (tCons (tVar 0) tNil)) (gName 3)) (tSeq (tIfS (tB (zD2 P w K (tP2 1 2) (tVar 3))) (tRet (tC .non)) tNext)
 (tSeq (tAsg (tD2OneH P w K [false,false] (tP2 1 2) (tC (.bl true))) (gName 5))
 (tSeq (tAsg (tLst (tCons (tP2 1 2) tNil)) (gName 6))
 (tSeq (zEQ (tcK K) (tbR P w K))
 (tRet (tRWc P w K))))))
noncomputable abbrev sR (v0:V) (i j:Nat) (d1 d l:Addr) (x7 x8:Option V):St:=[some v0,some (.int (i:Int)),some (.int (j:Int)),some (.ref d1),none,some (.ref d),some (.ref l),x7,x8]
theorem upto_len (ok:wd.Ok) {k:Nat} (nd:ks.Nodup) (h:∀x∈ks,Upto (knw wd) k x):ks.length<=576:=by
 have:=pigeo (L:=(knw wd).map (·.1)) nd fun x hx=>by
  obtain ⟨m,r,_,e,rfl⟩:=h x hx
  exact List.mem_map.mpr ⟨r,mem_of_getElem? e,rfl⟩
 rw [length_map] at this
 have:=(zDX ok).1.len ok.h24
 omega
noncomputable abbrev bhA (wd:Wd) (p:Nat×Nat):List (Nat×Nat):=bhR wd (rowAt (knw wd) p)
section
variable {P:Program} {w:World} {K:Fg} {He H H':Hp} {O:List Addr} {d1 d l:Addr} {p:List (Nat×Nat)×List (Nat×Nat)} {wd:Wd} {i j kk:Nat} {v0:V}
theorem rd_rowR {q:Nat×Nat} {b:Addr} {D:Ends} (ok:wd.Ok) (r0:Rep K (hid He O) v0 wd.enc) (kv:KV P w K He O d1 (knw wd)) (nd:O.Nodup) (inO:∀a∈O,He a≠none) (hd0:He d=none) (hl0:He l=none) (I:IK P w K He O d l H p) (hb:SqT K (hid H (d::l::O)) b (pv q)) (hq:Upto (knw wd) kk q) (wb:WB (Upto (knw wd) kk) p)
  (k:∀H' x8,IK P w K He O d l H' (stsA (bhA wd q) p)->D.nx (sR v0 i j d1 d l (some (.ref b)) x8) H'):tFor (iList K (tCall (spD K 2 m_pairs_behind) [] L2.E0 (tCons (tVar 0) (tCons (zFK P w K (tVar 3) (tVar 7)) tNil)))) (gName 8) (tbI P w K) D (sR v0 i j d1 d l (some (.ref b)) x8) H:=by
 obtain ⟨KI1,_⟩:=zDX ok
 obtain ⟨bs,e1,e2,e3⟩:=I.bs
 obtain ⟨φ,hφ⟩:=D2H.ext I.hD
 have hdl:d≠l:=fun z=>by rw [z,e1] at hφ;cases hφ
 have nd2:(d::l::O).Nodup:=List.nodup_cons.mpr ⟨fun z=>(List.mem_cons.mp z).elim hdl fun y=>inO d y hd0,List.nodup_cons.mpr ⟨fun y=>inO l y hl0,nd⟩⟩
 have in2:∀a∈d::l::O,H a≠none:=fun a ha=>by
  rcases List.mem_cons.mp ha with rfl | ha
  ·rw [hφ];exact Option.some_ne_none _
  rcases List.mem_cons.mp ha with rfl | ha
  ·rw [e1];exact Option.some_ne_none _
  ·cases e:He a with
   | none=>exact absurd e (inO a ha)
   | some u=>rw [I.s a u e];exact Option.some_ne_none _
 have mo:Same (hid He O) (hid H (d::l::O)):=zAP I.s fun a ha=>by
  rcases List.mem_cons.mp ha with rfl | ha
  ·exact .inr hd0
  rcases List.mem_cons.mp ha with rfl | ha
  ·exact .inr hl0
  ·exact .inl ha
 obtain ⟨m,r,hm,er,rfl⟩:=id hq
 have era:=zE0 KI1.nd er
 have hrm:r∈knw wd:=mem_of_getElem? er
 obtain ⟨f,hf,hv⟩:=kv.h
 have hcl:∀t∈bhA wd r.1,Upto (knw wd) kk t:=zD7 KI1 _ hq
 have hden:=den_pbR ok (KI1.lt r hrm).1 (KI1.lt r hrm).2 (rowB_rok (KI1.ok m r er))
 have ebh:bhA wd r.1=bhR wd r:=by show bhR wd (rowAt (knw wd) r.1)=_;rw [era]
 rw [ebh] at k hcl
 refine ⟨v0,rfl,.ref d1,rfl,.ref b,rfl,d1,b,[false,false],_,ky r.1.1 r.1.2,f r.1,rfl,rfl,hf.grow I.s,⟨_,SameT hid_le hb,.cons rfl (.cons rfl .nil)⟩,rfl,zGH (List.mem_map.mpr ⟨r,hrm,rfl⟩),?_⟩
 refine ⟨rfl,d::l::O,[wd.enc,rowT r],nd2,in2,⟨rfl,fun n v dd h1 h2=>?_⟩,?_⟩
 ·match n,h1,h2 with
  | 0,h1,h2=>cases h1;cases h2;exact r0.mono mo
  | 1,h1,h2=>cases h1;cases h2;exact (hv r hrm).mono mo
  | n+2,h1,h2=>cases h1
 rw [hden]
 intro v H3 G ret
 have s3:=ret.same
 have r:Rep K (hid H3 (d::l::O)) v (.list ((bhR wd r).map prT)):=own_rep ret.own rfl (fun a ha z=>in2 a z (ret.fresh a ha)) (fun a ha=>mem_append_right _ ha)
 generalize bhR wd _=ts at r k hcl
 cases r with
 | @lst qa vs _ hqL hl hr=>
 rw [length_map] at hl
 refine ⟨qa,rfl,⟨_,hid_le.seq hqL⟩,?_⟩
 refine zB9 (xs:=vs) (fun k σ' H'=>(∃x8,σ'=sR v0 i j d1 d l (some (.ref b)) x8)/\Same (hid H3 (d::l::O)) (hid H' (d::l::O))/\IK P w K He O d l H' (stsA (ts.take k) p)) ⟨⟨_,rfl⟩,Same.refl _,I.grow s3⟩ (fun k σ' H' _ h=>hid_le.seq (h.2.1.seq hqL)) (fun k v σ' H' e h=>?_) fun σ' H' h=>?_
 ·obtain ⟨⟨x8,rfl⟩,sm,I2⟩:=h
  have hk:k<ts.length:=by rw [<-hl];exact (List.getElem?_eq_some_iff.mp e).1
  have et:ts[k]?=some ts[k]:=getElem?_eq_getElem hk
  have htk:ts.take (k+1)=ts.take k++[ts[k]]:=by rw [take_succ,et];rfl
  have rp:=hr k v (prT ts[k]) e (by rw [getElem?_map,et];rfl)
  generalize ts[k]=t at htk rp
  obtain ⟨c,rfl,hc⟩:=rep_pr rp
  obtain ⟨wbk,_⟩:=zD9 (ts:=ts.take k) wb fun t ht=>hcl t (List.mem_of_mem_take ht)
  have b1:=upto_len ok wbk.nd wbk.ok
  have b2:=wbk.le
  refine rd_in (wd:=wd) (N:=[]) (q:=t) (b:=c) I2 hd0 hl0 rfl rfl rfl (SameT sm hc) (by omega) (by omega) fun H4 eh I4=>⟨⟨_,rfl⟩,by rw [eh];exact sm,?_⟩
  rw [htk]
  unfold stsA
  rw [List.foldl_append]
  exact I4
 ·obtain ⟨⟨x8,rfl⟩,sm,I2⟩:=h
  rw [hl,take_of_length_le (Nat.le_refl _)] at I2
  exact k H' x8 I2
theorem rd_whR {x7:Option V} {D:Ends} (ok:wd.Ok) (r0:Rep K (hid He O) v0 wd.enc) (kv:KV P w K He O d1 (knw wd)) (nd:O.Nodup) (inO:∀a∈O,He a≠none) (hd0:He d=none) (hl0:He l=none) (I:IK P w K He O d l H ([(i,j)],[(i,j)])) (lk:Upto (knw wd) kk (i,j))
  (k:∀H' x7 x8,IK P w K He O d l H' (ndd wd i j,[])->D.nx (sR v0 i j d1 d l x7 x8) H'):zEQ (tcK K) (tbR P w K) D (sR v0 i j d1 d l x7 x8) H:=by
 obtain ⟨KI1,_⟩:=zDX ok
 refine ⟨fun m' σ H=>∃p x7 x8,σ=sR v0 i j d1 d l x7 x8/\IK P w K He O d l H p/\WI (Upto (knw wd) kk) (bhA wd) (i,j) p/\goA (bhA wd) m' p=ndd wd i j/\2*(576-p.1.length)+p.2.length<m',⟨2000,_,_,_,rfl,I,⟨⟨by simp,fun x hx=>by rw [List.mem_singleton.mp hx];exact lk,fun _ z=>z,Nat.le_refl _⟩,List.mem_singleton.mpr rfl,fun x hx=>.inl hx⟩,rfl,by simp⟩,?_⟩
 rintro m' σ H ⟨p,x7,x8,rfl,I,wi,hg,hm⟩
 obtain ⟨bs,e1,e2,e3⟩:=I.bs
 refine ⟨.ref l,rfl,!(bs.map V.ref).isEmpty,.inl ⟨_,.of e1,rfl⟩,?_⟩
 cases m' with
 | zero=>exact absurd hm (Nat.not_lt_zero _)
 | succ m'=>
 unfold goA at hg
 cases e:p.2.getLast? with
 | none=>
  rw [e] at hg
  have e0:p.2=[]:=List.getLast?_eq_none_iff.mp e
  rw [e0] at e2
  have:bs=[]:=List.length_eq_zero_iff.mp e2
  subst this
  refine iteF (k H x7 x8 ?_)
  have:p=(ndd wd i j,[]):=Prod.ext hg e0
  rw [<-this]
  exact I
 | some t=>
  rw [e] at hg
  have hne:p.2≠[]:=fun z=>by rw [z] at e;cases e
  have hnb:bs≠[]:=fun z=>hne (List.length_eq_zero_iff.mp (by rw [<-e2,z];rfl))
  have he:(!(bs.map V.ref).isEmpty)=true:=by cases bs with | nil=>exact absurd rfl hnb | cons a r=>rfl
  rw [he]
  refine iteT ⟨fun σ' H'=>∃m'',m''<m'+1/\∃p x7 x8,σ'=sR v0 i j d1 d l x7 x8/\IK P w K He O d l H' p/\WI (Upto (knw wd) kk) (bhA wd) (i,j) p/\goA (bhA wd) m'' p=ndd wd i j/\2*(576-p.1.length)+p.2.length<m'',fun σ' H' z=>z,?_⟩
  have hpos:0<bs.length:=List.length_pos_iff.mpr hnb
  have hlb:bs.length-1<bs.length:=by omega
  have hlast:(bs.map V.ref)[(bs.map V.ref).length-1]?=some (.ref bs[bs.length-1]):=by rw [length_map,getElem?_map,getElem?_eq_getElem hlb];rfl
  have hbt:=e3 (bs.length-1) bs[bs.length-1] t (getElem?_eq_getElem hlb) (by rw [e2,<-List.getLast?_eq_getElem?];exact e)
  generalize bs[bs.length-1]=b at hlast hbt
  refine ⟨.ref l,rfl,.inl ⟨rfl,_,.of e1⟩,l,_,.ref b,rfl,rfl,e1,hlast,?_⟩
  have tin:=wi.b.sub t (List.mem_of_getLast? e)
  have I2:IK P w K He O d l (upd H l (.lst (bs.map V.ref).dropLast)) (p.1,p.2.dropLast):=⟨fun c u hc=>by
    rw [zAI (fun z=>by subst z;rw [hl0] at hc;cases hc)]
    exact I.s c u hc,D2H.updL I.hD e1,bs.dropLast,by rw [zAF,List.map_dropLast],by simp [e2],fun k c q a1 a2=>by
    rw [hid_upd (by simp)]
    have hk1:=(List.getElem?_eq_some_iff.mp a1).1
    rw [length_dropLast] at hk1
    rw [List.getElem?_dropLast,if_pos (by omega)] at a1
    rw [List.getElem?_dropLast,if_pos (by omega)] at a2
    exact e3 k c q a1 a2⟩
  refine rd_rowR (i:=i) (j:=j) (kk:=kk) ok r0 kv nd inO hd0 hl0 I2 (by rw [hid_upd (by simp)];exact hbt) (wi.b.ok t tin) wi.drop fun H' x8 I3=>⟨m',Nat.lt_succ_self _,_,_,_,rfl,I3,(wi.step (fun x hx=>zD7 KI1 x hx) e).1,hg,?_⟩
  obtain ⟨wi2,hl2⟩:=wi.step (fun x hx=>zD7 KI1 x hx) e
  have a:=upto_len ok wi2.b.nd wi2.b.ok
  have c:p.1.length<=(stsA (bhA wd t) (p.1,p.2.dropLast)).1.length:=pigeo wi.b.nd (zD9 wi.drop (zD7 KI1 _ (wi.b.ok t tin))).2.le
  omega
end
theorem pair_bsF {H:Hp} {g:Nat×Nat->V} {ps:List (Nat×Nat)} {bs:List Addr} (h:Paired (fun (p:List T.It×V) b=>K2 K H p.1 b) (kvF ps g) bs):bs.length=ps.length/\∀(k:Nat) (p:Nat×Nat),ps[k]?=some p->∃b,bs[k]?=some b/\SqT K H b (pv p):=by
 induction ps generalizing bs with
 | nil=>cases h;exact ⟨rfl,fun k p e=>by simp at e⟩
 | cons q ps ih=>
  cases h with
  | @cons _ b _ bs h1 h2=>
   obtain ⟨l,r⟩:=ih h2
   refine ⟨by simp [l],fun k p e=>?_⟩
   cases k with
   | zero=>cases e;exact ⟨b,rfl,k2_at h1⟩
   | succ k=>exact r k p (by simpa using e)
noncomputable def rwR (w:Wd) (i j:Nat):PV:=if (i,j)∈(knw w).map (·.1) then ⟨.lst .leaf,.list ((rwf w i j).map rowT)⟩ else ⟨.leaf,.none⟩
noncomputable def Rwd (ds:List PySem.PyData):Prop:=∃x:Wd×Nat×Nat,ds=[x.1.enc,rm x.2.1,rm x.2.2]/\x.1.Ok/\x.2.1<x.1.n/\x.2.2<x.1.n
open Classical in
noncomputable def m_rows_for (ds:List PySem.PyData):Res:=if h:Rwd ds then .ok (rwR h.choose.1 h.choose.2.1 h.choose.2.2) else .no
theorem den_rows_for {w:Wd} {i j:Nat} (ok:w.Ok) (hi:i<w.n) (hj:j<w.n):m_rows_for [w.enc,rm i,rm j]=.ok (rwR w i j):=by
 have H:Rwd [w.enc,rm i,rm j]:=⟨(w,i,j),rfl,ok,hi,hj⟩
 unfold m_rows_for
 rw [dif_pos H]
 obtain ⟨e,k,_,_⟩:=H.choose_spec
 injection e with e1 e
 injection e with e2 e
 injection e with e3 _
 rw [<-encI ok k e1,<-Int.ofNat_inj.mp (PyData.int.inj e2),<-Int.ofNat_inj.mp (PyData.int.inj e3)]
theorem m_rw_ok {p:PV} (h:m_rows_for ds=.ok p):∃w i j,ds=[w.enc,rm i,rm j]/\w.Ok/\i<w.n/\j<w.n/\p=rwR w i j:=by
 unfold m_rows_for at h
 split at h
 ·rename_i H
  cases h
  obtain ⟨e,k,k2,k3⟩:=H.choose_spec
  exact ⟨_,_,_,e,k,k2,k3,rfl⟩
 ·cases h
section
variable {P:Program} {w:World} {K:Fg} {H:Hp} {O:List Addr} {wd:Wd} {i j:Nat}
theorem rd_rw {Q:VK} (ok:wd.Ok) (hi:i<wd.n) (hj:j<wd.n) (nd:O.Nodup) (inH:∀a∈O,H a≠none) (rs:Reps K (hid H O) vs [wd.enc,rm i,rm j])
  (k:∀v H' G,RetOk K H O (rwR wd i j) v H' G->Q v H'):tRW P w K { nx:=Qn,rt:=Q } (L2.start N_rw vs) H:=by
 have hvl:vs.length=3:=rs.1
 have hbz:(1000:Nat)<=sizeLine:=by decide
 match vs,hvl,rs with
 | [v0,v1,v2],_,rs=>
 have r0:=rs.2 0 v0 _ rfl rfl
 have r1:=rs.2 1 v1 _ rfl rfl
 have r2:=rs.2 2 v2 _ rfl rfl
 cases r1
 cases r2
 obtain ⟨KI1,_⟩:=zDX ok
 have inS:∀{H'},Same H H'->∀a∈O,H' a≠none:=fun {H'} s a ha=>by
  cases e:H a with
  | none=>exact absurd e (inH a ha)
  | some u=>rw [s a u e];exact Option.some_ne_none _
 show tRW P w K { nx:=Qn,rt:=Q } [some v0,some (.int (i:Int)),some (.int (j:Int)),none,none,none,none,none,none] H
 refine ⟨v0,rfl,wd,O,v0,rfl,ok,nd,inH,r0,fun d1 He s0 hd1 kv=>?_⟩
 show tSeq (tIfS (tB (zD2 P w K (tP2 1 2) (tVar 3))) (tRet (tC .non)) tNext) _ _ [some v0,some (.int (i:Int)),some (.int (j:Int)),some (.ref d1),none,none,none,none,none] He
 obtain ⟨f,hf,hv⟩:=id kv.h
 have hd1e:He d1≠none:=by obtain ⟨xs,h,_⟩:=hf;rw [h];exact Option.some_ne_none _
 have hdO:d1∉O:=fun z=>inH d1 z hd1
 have nd1:(d1::O).Nodup:=List.nodup_cons.mpr ⟨hdO,nd⟩
 have r0e:Rep K (hid He (d1::O)) v0 wd.enc:=r0.mono (zAP s0 fun a ha=>by
  rcases List.mem_cons.mp ha with rfl | ha
  ·exact .inr hd1
  ·exact .inl ha)
 refine ⟨_,rfl,_,rfl,zC2,fun b hb=>⟨.ref d1,rfl,d1,b,[false,false],_,ky i j,rfl,rfl,DF.grow hf (zAG hb),zC3,rfl,_,rfl,?_⟩⟩
 rw [zGX (p:=(i,j))]
 have sb:Same He (upd He b (.tup [.int (i:Int),.int (j:Int)])):=zAG hb
 generalize upd He b (.tup [.int (i:Int),.int (j:Int)])=H5 at sb
 have s05:Same H H5:=s0.trans sb
 unfold rwR at k
 by_cases hin:(i,j)∈(knw wd).map (·.1)
 case neg=>
  rw [if_neg hin] at k
  rw [decide_eq_false hin]
  exact iteT (k _ _ [] ⟨s05,(fun _ z=>nomatch z),(fun _ z=>nomatch z),nodup_nil,.leaf .non,rfl⟩)
 case pos=>
  rw [if_pos hin] at k
  rw [decide_eq_true hin]
  obtain ⟨rr,hrr,err⟩:=List.mem_map.mp hin
  obtain ⟨kk,hkk,ekk⟩:=getElem_of_mem hrr
  have lk:Upto (knw wd) kk (i,j):=⟨kk,rr,Nat.le_refl _,by rw [getElem?_eq_getElem hkk,ekk],err⟩
  have kv5:=kv.grow sb
  have in5:∀a∈d1::O,H5 a≠none:=fun a ha=>by
   rcases List.mem_cons.mp ha with rfl | ha
   ·cases e:He a with
    | none=>exact absurd e hd1e
    | some u=>rw [sb a u e];exact Option.some_ne_none _
   ·exact inS s05 a ha
  have r05:=r0e.mono (zAP (O':=d1::O) sb fun a ha=>.inl ha)
  refine iteF ⟨d1::O,fun d ob hd hD0=>⟨_,rfl,_,rfl,zC2,fun t0 ht0=>?_⟩⟩
  have ht0':H5 t0=none:=(zAG hd).free ht0
  have hb0:SqT K (hid (upd (upd H5 d ob) t0 (.tup (pv (i,j)))) (d1::O)) t0 (pv (i,j)):=.inl (.inl (zBA zAF fun z=>in5 t0 z ht0'))
  refine ⟨t0,ky i j,rfl,D2H.grow hD0 (zAG ht0),⟨_,hb0,.cons rfl (.cons rfl .nil)⟩,rfl,fun ob2 hD=>?_⟩
  have hD:D2H P w K (upd (upd (upd H5 d ob) t0 (.tup (pv (i,j)))) d ob2) (d1::O) [false,false] d (kvG [(i,j)] kT):=hD
  generalize eH6:upd (upd (upd H5 d ob) t0 (.tup (pv (i,j)))) d ob2=H6 at hD
  have s56:Same H5 H6:=fun c u hc=>by
   rw [<-eH6,zAI (fun z=>by subst z;rw [hd] at hc;cases hc),zAI (fun z=>by subst z;rw [ht0'] at hc;cases hc),zAI (fun z=>by subst z;rw [hd] at hc;cases hc)]
   exact hc
  refine ⟨_,rfl,_,rfl,zC2,fun t1 ht1=>⟨Nat.le_trans (by decide:1<=1000) (by decide),fun l hl0=>?_⟩⟩
  have ht1':H5 t1=none:=s56.free ht1
  have s67:Same H6 (upd H6 t1 (.tup (pv (i,j)))):=zAG ht1
  have hl6:H6 l=none:=s67.free hl0
  have hl5:H5 l=none:=s56.free hl6
  have hlt:t1≠l:=fun z=>by rw [<-z,zAF] at hl0;cases hl0
  have htd1:t1≠d:=fun z=>by
   obtain ⟨φ,hφ⟩:=D2H.ext hD
   rw [z,hφ] at ht1
   cases ht1
  have s78:Same (upd H6 t1 (.tup (pv (i,j)))) (upd (upd H6 t1 (.tup (pv (i,j)))) l (.lst [.ref t1])):=zAG hl0
  have I:IK P w K H5 (d1::O) d l (upd (upd H6 t1 (.tup (pv (i,j)))) l (.lst [.ref t1])) ([(i,j)],[(i,j)]):=by
   refine ⟨(s56.trans s67).trans s78,D2H.grow (D2H.grow hD s67) s78,[t1],zAF,rfl,fun k b q a1 a2=>?_⟩
   match k,a1,a2 with
   | 0,a1,a2=>
    cases a1
    cases a2
    refine .inl (.inl (zBA (by rw [zAI hlt,zAF]) fun z=>?_))
    rcases List.mem_cons.mp z with z | z
    ·exact htd1 z
    rcases List.mem_cons.mp z with z | z
    ·exact hlt z
    ·exact in5 t1 z ht1'
   | k+1,a1,a2=>simp at a1
  refine rd_whR (kk:=kk) ok r05 kv5 nd1 in5 hd hl5 I lk fun H7 x7 x8 I7=>?_
  have sH7:Same H H7:=s05.trans I7.s
  obtain ⟨f7,hf7,hv7⟩:=(kv5.grow I7.s).h
  have hD7:=D2H.d I7.hD
  refine ⟨.ref d1,rfl,d1,[false,false],_,rfl,hf7,fun xs ep hkx hnd hlen hsys hat D hDn=>?_⟩
  have hdd1:d≠d1:=fun z=>in5 d1 mem_cons_self (by rw [<-z];exact hd)
  have tm:∀(ob:HO) c ys,SqT K H7 c ys->SqT K (upd H7 d1 ob) c ys:=fun ob c ys h=>by
   rcases h with (h | ⟨o,h⟩) | h
   ·exact .inl (.inl (by rw [zAI (fun z=>by rw [z,hat] at h;cases h)];exact h))
   ·exact .inl (.inr ⟨o,by rw [zAI (fun z=>by rw [z,hat] at h;cases h)];exact h⟩)
   ·exact .inr h
  have hkx8:KX K (upd H7 d1 (oD2e P w [false,false] d1 xs ep)) [false,false] (kvF ((knw wd).map (·.1)) f7) xs:=hkx.mono (tm _)
  have hD8:D2 P w K (upd H7 d1 (oD2e P w [false,false] d1 xs ep)) [false,false] d (kvG (ndd wd i j) kT):=by
   obtain ⟨ys,a1,a2,a3⟩:=hD7
   exact ⟨ys,by rw [zAI hdd1];exact a1,a2.mono (tm _),a3⟩
  have hat8:upd H7 d1 (oD2e P w [false,false] d1 xs ep) d1=some (oD2e P w [false,false] d1 xs ep):=zAF
  have s8:∀c u,c≠d1->H7 c=some u->upd H7 d1 (oD2e P w [false,false] d1 xs ep) c=some u:=fun c u hc h=>by rw [zAI hc];exact h
  have hDn7:H7 D=none/\D≠d1:=⟨by
   by_cases z:D=d1
   ·rw [z,zAF] at hDn;cases hDn
   ·rw [zAI z] at hDn;exact hDn,fun z=>by rw [z,zAF] at hDn;cases hDn⟩
  generalize upd H7 d1 (oD2e P w [false,false] d1 xs ep)=H8 at *
  have gr:∀{L:HO} {L':HO},Same (H8) (upd (upd H8 D L) D L'):=fun c u hc=>by
   rw [zAI (fun z=>by subst z;rw [hDn] at hc;cases hc),zAI (fun z=>by subst z;rw [hDn] at hc;cases hc)]
   exact hc
  obtain ⟨hbl,hbk⟩:=pair_bsF (kx_bs hkx8)
  rw [length_map,length_map] at hbl
  have hkl:(knw wd).length<=576:=KI1.len ok.h24
  let S:Row->Bool:=fun r=>decide (r.1∈ndd wd i j)
  refine ⟨fun n m ys H'=>H'=upd H8 D (.lst ys)/\m=(knw wd).length-n/\n<=(knw wd).length/\ys=(((knw wd).take n).filter S).map (fun r=>f7 r.1),⟨_,rfl,rfl,Nat.zero_le _,rfl⟩,?_⟩
  rintro n m ys H' ⟨rfl,rfl,hn,rfl⟩
  have s9:Same H8 (upd H8 D (.lst ((((knw wd).take n).filter S).map (fun r=>f7 r.1)))):=zAG hDn
  refine ⟨zAF,?_⟩
  by_cases hlt:n<(knw wd).length
  ·refine .inr ⟨⟨s9 _ _ hat8,by rw [length_map,hbl];exact hlt⟩,?_,?_⟩
   ·rw [length_map]
    have:=length_filter_le S ((knw wd).take n)
    rw [length_take] at this
    omega
   rintro x H' ⟨rfl,b,eb,rfl⟩
   have er:(knw wd)[n]?=some (knw wd)[n]:=getElem?_eq_getElem hlt
   have htk:(knw wd).take (n+1)=(knw wd).take n++[(knw wd)[n]]:=by rw [take_succ,er];rfl
   obtain ⟨b',eb',hb'⟩:=hbk n (knw wd)[n].1 (by rw [getElem?_map,er];rfl)
   rw [eb] at eb'
   cases eb'
   have hrm:(knw wd)[n]∈knw wd:=getElem_mem _
   generalize (knw wd)[n]=r at *
   have k2:K2 K (upd H8 D (.lst ((((knw wd).take n).filter S).map (fun r=>f7 r.1)))) (ky r.1.1 r.1.2) b:=⟨_,SameT s9 hb',.cons rfl (.cons rfl .nil)⟩
   refine ⟨⟨by simp [blank],fun q v e=>?_⟩,.ref b,rfl,.ref d,rfl,d,b,[false,false],kvG (ndd wd i j) kT,ky r.1.1 r.1.2,rfl,rfl,?_,k2,rfl,_,rfl,?_⟩
   ·match q,e with
    | 0,e=>exact e
    | 1,e=>exact e
    | 2,e=>exact e
    | 3,e=>exact e
    | 4,e=>exact e
    | 5,e=>exact e
    | 6,e=>exact e
    | 7,e=>cases e
    | 8,e=>exact e
    | q+9,e=>cases e
   ·obtain ⟨ys,a1,a2,a3⟩:=hD8
    exact ⟨ys,s9 _ _ a1,a2.mono fun c xs=>SameT s9,a3⟩
   ·rw [kvG_is]
    by_cases hS:r.1∈ndd wd i j
    ·rw [decide_eq_true hS]
     refine iteT ⟨.ref d1,rfl,.ref b,rfl,d1,b,[false,false],_,ky r.1.1 r.1.2,f7 r.1,xs,ep,rfl,rfl,⟨s9 _ _ hat8,hkx8.mono fun c xs=>SameT s9,hnd,hlen,hsys⟩,k2,rfl,zGH (List.mem_map.mpr ⟨r,hrm,rfl⟩),zAF,(knw wd).length-(n+1),by omega,?_,rfl,hlt,?_⟩
     ·funext c
      by_cases z:c=D
      ·rw [z,zAF,zAF]
      ·rw [zAI z,zAI z,zAI z]
     ·rw [htk,filter_append,map_append]
      have:[r].filter S=[r]:=by rw [filter_cons,if_pos (decide_eq_true hS)];rfl
      rw [this]
      rfl
    ·rw [decide_eq_false hS]
     refine iteF ⟨(knw wd).length-(n+1),by omega,rfl,rfl,hlt,?_⟩
     ·rw [htk,filter_append]
      have:[r].filter S=[]:=by rw [filter_cons,if_neg (fun z=>hS (of_decide_eq_true z))];rfl
      rw [this,append_nil]
  ·have e:n=(knw wd).length:=by omega
   subst e
   refine .inl ⟨⟨s9 _ _ hat8,by rw [length_map,hbl];exact Nat.le_refl _⟩,?_⟩
   rw [take_length]
   have sF:Same H (upd H8 D (.lst (((knw wd).filter S).map (fun r=>f7 r.1)))):=fun c u hc=>by
    rw [zAI (fun z=>by subst z;rw [sH7 _ _ hc] at hDn7;cases hDn7.1)]
    exact s8 c u (fun z=>by subst z;rw [hd1] at hc;cases hc) (sH7 _ _ hc)
   refine k _ _ [D] ⟨sF,fun a ha=>by rw [List.mem_singleton.mp ha];exact sH7.free hDn7.1,fun a ha=>by rw [List.mem_singleton.mp ha,zAF];exact Option.some_ne_none _,by simp,?_,rfl⟩
   refine Own.mkLeaves zAF (by rw [length_map,length_map];rfl) fun n u dd h1 h2=>?_
   rw [getElem?_map] at h1 h2
   obtain ⟨r,er,rfl⟩:=Option.map_eq_some_iff.mp h1
   obtain ⟨r',er',rfl⟩:=Option.map_eq_some_iff.mp h2
   have er':((knw wd).filter S)[n]?=some r':=er'
   rw [er] at er'
   cases er'
   refine (hv7 r (List.mem_filter.mp (mem_of_getElem? er)).1).mono fun c u hc=>?_
   unfold hid at hc ⊢
   split at hc
   ·cases hc
   ·rename_i nc
    have c1:c≠d1:=fun z=>nc (by rw [z];exact mem_cons_self)
    have cD:c≠D:=fun z=>by rw [z,hDn7.1] at hc;cases hc
    rw [if_neg (fun z=>by
     rcases List.mem_cons.mp z with y | y
     ·exact cD y
     ·exact nc (mem_cons_of_mem _ y)),zAI cD]
    exact s8 c u c1 hc
end
noncomputable abbrev N_ir:List Str:=["world", "row", "known", "reason"]
noncomputable abbrev G_ir:List Str:=["is_by_mark", "is_by_step"]
noncomputable abbrev eR (v:Nat) (k:Int):F1:=eIdx (eVar v) (eK (.int k))
noncomputable abbrev fMk:FB:=bOf gBool (eOp gEq (eR 3 0) (eK (.str "mark")))
noncomputable abbrev fBM2:F1:=eCall 4 m_is_by_mark (eCons (eVar 0) (eCons (eR 1 0) (eCons (eR 1 1) (eCons (eR 3 1) eNil))))
noncomputable abbrev fNo:FB:=bOr (bOf gBool (eOp (gIn true) (eR 3 1) (eTup (eCons (eK (.int 0)) (eCons (eK (.int 1)) eNil))))) (bOf gBool (eOp (gIn true) (eR 3 2) (eIdx (eR 0 2) (eIdx (eVar 1) (eR 3 1)))))
noncomputable def tIR (P:Program) (w:World) (K:Fg):L2.TS:=tSeq (tAsg (tE K W0 (eR 1 2)) (gName 3)) (tSeq (tIfS (tT K W0 fMk) (tRet (tE K W0 fBM2)) tNext) (tSeq (tIfS (tT K W0 fNo) (tRet (tC (.bl false))) tNext)
 (tRet (tCall (spBS P w K) [] L2.E0 (tCons (tVar 0) (tCons (tIt K 1 0) (tCons (tIt K 1 1) (tCons (tIt K 3 1) (tCons (tIt K 3 2) (tCons (tVar 2) tNil))))))))))
noncomputable def Rsk:Rsn->Prop
 | .mk c=>PyData.strOk c=true
 | .st _ _=>True
noncomputable def spIR (P:Program) (w:World) (K:Fg):Sp:=fun vs H Q _=>∃(wd:Wd) (O:List Addr) (v0 v1:V) (d:Addr) (ks:List (Nat×Nat)) (r:Row),vs=[v0,v1,.ref d]/\wd.Ok/\O.Nodup/\(∀a∈O,H a≠none)/\Rep K (hid H O) v0 wd.enc/\Rep K (hid H O) v1 (rowT r)/\DK P w K H d ks/\r.1.1<wd.n/\r.1.2<wd.n/\Rsk r.2/\∀H',Same H H'->Q (.bl (rowB wd ks r)) H'
theorem in01 {s:Int}:gIn true (.int s) (.tuple [.int 0,.int 1])=some (.bool (!decide (s=0\/s=1))):=by
 have h:=notin_row (ts:=[0,1]) (i:=s)
 have e:gIn true (.int s) (.tuple [.int 0,.int 1])=gIn true (.int s) (.list [.int 0,.int 1]):=by
  have:shaped (.tuple [.int 0,.int 1])=shaped (.list [.int 0,.int 1]):=by kernel_rfl
  show (if (shaped (.int s)&&shaped (.tuple [.int 0,.int 1]))=true then some (PyData.bool (if true=true then !([.int 0,.int 1]:List D).any fun y=>PyData.eqv y (.int s) else ([.int 0,.int 1]:List D).any fun y=>PyData.eqv y (.int s))) else none)=_
  rw [this]
  rfl
 rw [e]
 refine h.trans ?_
 congr 3
 rw [Bool.eq_iff_iff,contains_iff_mem,decide_eq_true_eq]
 simp
theorem ni_rms {t:Int} {l:List Nat}:gIn true (.int t) (rms l)=some (.bool (!inS l t)):=by
 have h:=notin_row (ts:=l.map fun t:Nat=>(t:Int)) (i:=t)
 rw [map_map] at h
 refine h.trans ?_
 congr 3
 rw [Bool.eq_iff_iff,contains_iff_mem,mem_map,inS_iff]
theorem b_orU {ga gb:FB} {U:Ev} (ha:ga U=.ok true U):bOr ga gb U=.ok true U:=by unfold bOr;rw [ha];rfl
theorem rowB_cg {ls:List (Nat×Nat)} {r:Row} (h:∀p,p∈ks↔p∈ls):rowB wd ks r=rowB wd ls r:=by
 rw [Bool.eq_iff_iff]
 exact ⟨zEB fun p hp=>(h p).mp hp,zEB fun p hp=>(h p).mpr hp⟩
section
variable {P:Program} {w:World} {K:Fg} {H:Hp}
noncomputable abbrev GI4 (wd:Wd) (r:Row) (x3:Option PV):Ev:=[some ⟨.leaf,wd.enc⟩,some ⟨.leaf,rowT r⟩,none,x3]
theorem rd_ir {Q:VK} {E:XK} (h:spIR P w K vs H Q E):tIR P w K { nx:=Qn,rt:=Q } (L2.start N_ir vs) H:=by
 obtain ⟨wd,O,v0,v1,d,ks,r,rfl,ok,nd,inH,r0,r1,hD,hi,hj,hr,q⟩:=h
 show tIR P w K { nx:=Qn,rt:=Q } [some v0,some v1,some (.ref d),none] H
 have inS1:∀{H'},Same H H'->∀a∈O,H' a≠none:=fun {H'} s a ha=>by
  cases e:H a with
  | none=>exact absurd e (inH a ha)
  | some u=>rw [s a u e];exact Option.some_ne_none _
 have mono:∀{H'},Same H H'->Same (hid H O) (hid H' O):=fun s=>zAP s fun a ha=>.inl ha
 have EE:∀(H':Hp) (x3:Option (V×D)),Same H H'->(∀u,x3=some u->Rep K (hid H' O) u.1 u.2)->EnvOk K H' O (List.replicate (GI4 wd r (x3.map fun u=>(⟨.leaf,u.2⟩:PV))).length []) H' [some v0,some v1,some (.ref d),x3.map (·.1)] (GI4 wd r (x3.map fun u=>(⟨.leaf,u.2⟩:PV))):=fun H' x3 s h3=>by
  refine envL nd (inS1 s) rfl fun n x hx=>?_
  match n,hx with
  | 0,hx=>cases hx;exact ⟨rfl,_,rfl,r0.mono (mono s)⟩
  | 1,hx=>cases hx;exact ⟨rfl,_,rfl,r1.mono (mono s)⟩
  | 2,hx=>cases hx
  | 3,hx=>
   cases x3 with
   | none=>cases hx
   | some u=>cases hx;exact ⟨rfl,_,rfl,h3 u rfl⟩
  | n+4,hx=>cases hx
 obtain ⟨⟨i,j⟩,rs⟩:=r
 have ro:∀x3,eVar 1 (GI4 wd ((i,j),rs) x3)=.ok ⟨.leaf,rowT ((i,j),rs)⟩ (GI4 wd ((i,j),rs) x3):=fun x3=>zAB rfl
 have ro0:∀x3,eR 1 0 (GI4 wd ((i,j),rs) x3)=.ok ⟨.leaf,rm i⟩ (GI4 wd ((i,j),rs) x3):=fun x3=>zAM (j:=0) (ds:=[rm i,rm j,rsnT rs]) (ro x3) (v_k (d:=.int 0)) rfl rfl rfl
 have ro1:∀x3,eR 1 1 (GI4 wd ((i,j),rs) x3)=.ok ⟨.leaf,rm j⟩ (GI4 wd ((i,j),rs) x3):=fun x3=>zAM (j:=1) (ds:=[rm i,rm j,rsnT rs]) (ro x3) (v_k (d:=.int 1)) rfl rfl rfl
 refine evR inH (EE H none (Same.refl _) (fun _ z=>nomatch z)) (zAM (j:=2) (ds:=[rm i,rm j,rsnT rs]) (ro none) (v_k (d:=.int 2)) rfl rfl rfl) rfl fun v3 H1 s1 r3=>?_
 have r3:Rep K (hid H1 O) v3 (rsnT rs):=r3
 have E1:∀H',Same H1 H'->_:=fun H' s=>EE H' (some (v3,rsnT rs)) (s1.trans s) (fun u hu=>by cases hu;exact r3.mono (zAP s fun a ha=>.inl ha))
 cases rs with
 | mk c=>
  have rv:eVar 3 (GI4 wd ((i,j),.mk c) (some ⟨.leaf,rsnT (.mk c)⟩))=.ok ⟨.leaf,rsnT (.mk c)⟩ _:=zAB rfl
  refine evB (E1 H1 (Same.refl _)) (zAK (s:=.leaf) (v_op (zAM (j:=0) (ds:=[.str "mark",.str c]) rv (v_k (d:=.int 0)) rfl rfl rfl) (v_k (d:=.str "mark")) (by kernel_rfl))) fun H2 s2=>iteT ?_
  refine evR (inS1 (s1.trans s2)) (E1 H2 s2) (zAQ (zAC (zAB (i:=0) rfl) (zAC (ro0 _) (zAC (ro1 _) (zAC (zAM (j:=1) (ds:=[.str "mark",.str c]) rv (v_k (d:=.int 1)) rfl rfl rfl) v_nil)))) (den_bm ok hi hj hr) rfl rfl) rfl fun v H3 s3 rv3=>?_
  have rv3:Rep K (hid H3 O) v (.bool (bmB wd i j c)):=rv3
  cases rv3
  exact q H3 ((s1.trans s2).trans s3)
 | st s t=>
  have rv:eVar 3 (GI4 wd ((i,j),.st s t) (some ⟨.leaf,rsnT (.st s t)⟩))=.ok ⟨.leaf,rsnT (.st s t)⟩ _:=zAB rfl
  have rv1:=zAM (j:=1) (ds:=[.str "step",.int s,.int t]) rv (v_k (d:=.int 1)) rfl rfl rfl
  have rv2:=zAM (j:=2) (ds:=[.str "step",.int s,.int t]) rv (v_k (d:=.int 2)) rfl rfl rfl
  refine evB (E1 H1 (Same.refl _)) (zAK (s:=.leaf) (v_op (zAM (j:=0) (ds:=[.str "step",.int s,.int t]) rv (v_k (d:=.int 0)) rfl rfl rfl) (v_k (d:=.str "mark")) (by kernel_rfl))) fun H2 s2=>iteF ?_
  have left:=zAK (s:=.leaf) (v_op rv1 (v_tup (zAC (v_k (d:=.int 0)) (zAC (v_k (d:=.int 1)) v_nil)) rfl rfl) in01)
  have q':∀H',Same H H'->Q (.bl (decide (s=0\/s=1)&&inS (wd.stp (if s=0 then i else j)) t&&bsB wd ks i j s.toNat t.toNat)) H':=q
  by_cases hs:s=0\/s=1
  case neg=>
   rw [decide_eq_false hs] at left q'
   exact evB (E1 H2 s2) (b_orU left) fun H3 s3=>iteT (q' H3 ((s1.trans s2).trans s3))
  case pos=>
   rw [decide_eq_true hs] at left q'
   have hrn:(if s=0 then i else j)<wd.n:=by split<;>assumption
   have ix:eIdx (eVar 1) (eR 3 1) (GI4 wd ((i,j),.st s t) (some ⟨.leaf,rsnT (.st s t)⟩))=.ok ⟨.leaf,rm (if s=0 then i else j)⟩ (GI4 wd ((i,j),.st s t) (some ⟨.leaf,rsnT (.st s t)⟩)):=by
    rcases hs with rfl | rfl
    ·exact zAM (j:=0) (ds:=[rm i,rm j,rsnT (.st 0 t)]) (ro _) rv1 rfl rfl rfl
    ·exact zAM (j:=1) (ds:=[rm i,rm j,rsnT (.st 1 t)]) (ro _) rv1 rfl rfl rfl
   have right:=zAK (s:=.leaf) (v_op rv2 (zC6 ok (i:=0) (s:=.leaf) rfl ix hrn) ni_rms)
   refine evB (E1 H2 s2) (b_or left right) fun H3 s3=>?_
   have s03:=(s1.trans s2).trans s3
   cases eb:inS (wd.stp (if s=0 then i else j)) t with
   | false=>
    rw [eb] at q'
    exact iteT (q' H3 s03)
   | true=>
    rw [eb] at q'
    refine iteF ?_
    obtain ⟨a,ha,rfl⟩:=inS_iff.mp eb
    obtain ⟨p,u,rfl,hp,_⟩:=zFY r1
    have hp3:SqT K H3 p [.int (i:Int),.int (j:Int),u]:=SameT (hid_le.trans s03) hp
    cases r3 with
    | @tup pr us _ hq hl hrr=>
    match us,hl with
    | [a0,a1,a2],_=>
    have x1:=hrr 1 a1 _ rfl rfl
    have x2:=hrr 2 a2 _ rfl rfl
    cases x1
    cases x2
    have hq3:SqT K H3 pr [a0,.int s,.int (a:Int)]:=SameT (hid_le.trans (s2.trans s3)) hq
    have hsn:∃m:Nat,s=(m:Int)/\m<=1:=by
     rcases hs with rfl | rfl
     ·exact ⟨0,rfl,by omega⟩
     ·exact ⟨1,rfl,by omega⟩
    obtain ⟨m,rfl,hm⟩:=hsn
    rw [Int.toNat_natCast,Int.toNat_natCast] at q'
    refine ⟨v0,rfl,.ref p,rfl,.inr (.inl ⟨p,_,0,_,rfl,rfl,hp3,rfl,.ref p,rfl,.inr (.inl ⟨p,_,1,_,rfl,rfl,hp3,rfl,.ref pr,rfl,.inr (.inl ⟨pr,_,1,_,rfl,rfl,hq3,rfl,.ref pr,rfl,.inr (.inl ⟨pr,_,2,_,rfl,rfl,hq3,rfl,.ref d,rfl,wd,O,v0,d,ks,i,j,m,a,rfl,ok,nd,inS1 s03,r0.mono (mono s03),hD.grow s03,hi,hj,hm,fun H' s'=>q' H' (s03.trans s')⟩)⟩)⟩)⟩)⟩
end
noncomputable def IrOk (P:Program) (w:World) (K:Fg) (mg:Str->Option Value) (base:Heap) (j:Nat):Prop:=
 ∃(f:Addr) (fd:FuncData) (ps:List Str),FnOk P w K mg base CX0 j f fd ps (spIR P w K)/\mg "is_row_right"=some (.ref f)/\PySem.W.keepIn K (.ref f)=true/\Binds K fd ps []
noncomputable abbrev CaIR (X:Cx):Prop:=∃(k:Nat) (f:Addr) (fd:FuncData) (ps:List Str),FnOk X.prog X.w X.K X.mg X.base CX0 k f fd ps (spIR X.prog X.w X.K)/\Room k X.A/\X.mg "is_row_right"=some (.ref f)/\PySem.W.keepIn X.K (.ref f)=true/\Binds X.K fd ps []
noncomputable def d_check_pair:FS:=(sSeq (sDrop (eCall 2 m_check_room (eCons (eVar 0) (eCons (eVar 1) eNil))))
  (sDrop (eCall 2 m_check_room (eCons (eVar 0) (eCons (eVar 2) eNil)))))
noncomputable def m_check_pair:List PySem.PyData->Res:=denOf 3 d_check_pair
theorem den_cp {i j:Nat} (ok:wd.Ok) (hi:i<wd.n) (hj:j<wd.n):m_check_pair [wd.enc,rm i,rm j]=.ok ⟨.leaf,.none⟩:=by
 have a:=zAQ (U:=zAO 3 [wd.enc,rm i,rm j]) (zAC (zAB (i:=0) rfl) (zAC (zAB (i:=1) rfl) v_nil)) (den_check_room ok hi) rfl rfl
 have b:=zAQ (U:=zAO 3 [wd.enc,rm i,rm j]) (zAC (zAB (i:=0) rfl) (zAC (zAB (i:=2) rfl) v_nil)) (den_check_room ok hj) rfl rfl
 have x:d_check_pair (zAO 3 [wd.enc,rm i,rm j])=.nx (zAO 3 [wd.enc,rm i,rm j]):=by
  refine x_seq (U1:=zAO 3 [wd.enc,rm i,rm j]) ?_ ?_
  ·have a:eCall 2 m_check_room _ _=_:=a
   unfold sDrop sOf;rw [a]
  ·have b:eCall 2 m_check_room _ _=_:=b
   unfold sDrop sOf;rw [b]
 show denOf 3 d_check_pair _=_
 unfold denOf
 rw [x]
noncomputable abbrev N_au:List Str:=["world", "rows", "row", "known"]
noncomputable abbrev G_au:List Str:=["check_world", "check_pair", "is_row_right"]
noncomputable abbrev fCP:F1:=eCall 3 m_check_pair (eCons (eVar 0) (eCons (eR 2 0) (eCons (eR 2 1) eNil)))
noncomputable def tAU (P:Program) (w:World) (K:Fg):L2.TS:=tSeq (tDrop (tE K W0 (eCall 1 m_check_world (eCons (eVar 0) eNil)))) (tSeq (tFor (iList K (tVar 1)) (gName 2) (tDrop (tE K W0 fCP))) (tSeq (tAsg (zGB P w K [false,false]) (gName 3))
 (tSeq (tFor (iList K (tVar 1)) (gName 2) (tSeq (tIfS (tNot (tB (tCall (spIR P w K) [] L2.E0 (tCons (tVar 0) (tCons (tVar 2) (tCons (tVar 3) tNil)))))) (tRet (tC (.bl false))) tNext) (sD2Up P w K (tVar 3) (tRw2 K 2) (tC (.bl true))))) (tRet (tC (.bl true))))))
noncomputable def RowsOk (wd:Wd) (L:List Row):Prop:=(∀r∈L,r.1.1<wd.n/\r.1.2<wd.n/\Rsk r.2)/\L.length<=900
section
variable {P:Program} {w:World} {K:Fg} {H:Hp} {O:List Addr} {wd:Wd} {L:List Row}
noncomputable abbrev GU (wd:Wd) (L:List Row) (x2:Option PV):Ev:=[some ⟨.leaf,wd.enc⟩,some ⟨.leaf,.list (L.map rowT)⟩,x2,none]
theorem rd_au {Q:VK} (ok:wd.Ok) (hL:RowsOk wd L) (nd:O.Nodup) (inH:∀a∈O,H a≠none) (rs:Reps K (hid H O) vs [wd.enc,.list (L.map rowT)])
  (q:∀H',Same H H'->Q (.bl (holdB wd [] L)) H'):tAU P w K { nx:=Qn,rt:=Q } (L2.start N_au vs) H:=by
 have hvl:vs.length=2:=rs.1
 obtain ⟨hL,hLn⟩:=hL
 match vs,hvl,rs with
 | [v0,v1],_,rs=>
 have r0:=rs.2 0 v0 _ rfl rfl
 have r1:=rs.2 1 v1 _ rfl rfl
 show tAU P w K { nx:=Qn,rt:=Q } [some v0,some v1,none,none] H
 have inS:∀{H'},Same H H'->∀a∈O,H' a≠none:=fun {H'} s a ha=>by
  cases e:H a with
  | none=>exact absurd e (inH a ha)
  | some u=>rw [s a u e];exact Option.some_ne_none _
 have mono:∀{H'},Same H H'->Same (hid H O) (hid H' O):=fun s=>zAP s fun a ha=>.inl ha
 have EE:∀(H':Hp) (x3:Option V) (x2:Option (V×D)),Same H H'->(∀u,x2=some u->Rep K (hid H' O) u.1 u.2)->EnvOk K H' O (List.replicate (GU wd L (x2.map fun u=>(⟨.leaf,u.2⟩:PV))).length []) H' [some v0,some v1,x2.map (·.1),x3] (GU wd L (x2.map fun u=>(⟨.leaf,u.2⟩:PV))):=fun H' x3 x2 s h2=>by
  refine envL nd (inS s) rfl fun n x hx=>?_
  match n,hx with
  | 0,hx=>cases hx;exact ⟨rfl,_,rfl,r0.mono (mono s)⟩
  | 1,hx=>cases hx;exact ⟨rfl,_,rfl,r1.mono (mono s)⟩
  | 2,hx=>
   cases x2 with
   | none=>cases hx
   | some u=>cases hx;exact ⟨rfl,_,rfl,h2 u rfl⟩
  | 3,hx=>cases hx
  | n+4,hx=>cases hx
 have r1':=r1
 cases r1' with
 | @lst pl ws _ hq hl hr=>
 rw [length_map] at hl
 have sqL:∀{H'},Same H H'->SqL K H' pl ws:=fun s=>s.seq (hid_le.seq hq)
 have at_:∀(k:Nat) v t,ws[k]?=some v->L[k]?=some t->Rep K (hid H O) v (rowT t):=fun k v t e1 e2=>hr k v (rowT t) e1 (by rw [getElem?_map,e2];rfl)
 refine evR inH (EE H none none (Same.refl _) (fun _ z=>nomatch z)) (zAQ (zAC (zAB (i:=0) rfl) v_nil) ok.check rfl rfl) rfl fun _ H1 s1 _=>?_
 refine ⟨_,rfl,pl,rfl,⟨_,sqL s1⟩,?_⟩
 refine zB9 (xs:=ws) (fun k σ' H'=>(∃x2,σ'=[some v0,some (.ref pl),x2,none])/\Same H H') ⟨⟨_,rfl⟩,s1⟩ (fun k σ' H' _ h=>sqL h.2) (fun k v σ' H' e h=>?_) fun σ' H' h=>?_
 ·obtain ⟨⟨x2,rfl⟩,s2⟩:=h
  have hk:k<L.length:=by rw [<-hl];exact (List.getElem?_eq_some_iff.mp e).1
  have et:L[k]?=some L[k]:=getElem?_eq_getElem hk
  have rp:=at_ k v _ e et
  obtain ⟨hi,hj,_⟩:=hL _ (getElem_mem hk)
  generalize L[k]=t at rp hi hj
  refine evR (inS s2) (EE H' none (some (v,rowT t)) s2 (fun u hu=>by cases hu;exact rp.mono (mono s2))) (zAQ (zAC (zAB (i:=0) rfl) (zAC (zAM (j:=0) (ds:=[rm t.1.1,rm t.1.2,rsnT t.2]) (zAB (i:=2) rfl) (v_k (d:=.int 0)) rfl rfl rfl) (zAC (zAM (j:=1) (ds:=[rm t.1.1,rm t.1.2,rsnT t.2]) (zAB (i:=2) rfl) (v_k (d:=.int 1)) rfl rfl rfl) v_nil))) (den_cp ok hi hj) rfl rfl) rfl fun _ H3 s3 _=>⟨⟨_,rfl⟩,s2.trans s3⟩
 ·obtain ⟨⟨x2,rfl⟩,s2⟩:=h
  intro d ob hd hD0
  have hd0:H d=none:=s2.free hd
  have sd:Same H (upd H' d ob):=s2.trans (zAG hd)
  refine ⟨_,rfl,pl,rfl,⟨_,sqL sd⟩,?_⟩
  refine zB9 (xs:=ws) (fun k σ' H'=>(∃x2,σ'=[some v0,some (.ref pl),x2,some (.ref d)])/\Same H H'/\∃ps,DG P w K H' d ps (fun _ _=>true)/\(∀p,p∈ps↔p∈(L.take k).map (·.1))/\ps.length<=k/\holdB wd [] L=holdB wd ((L.take k).map (·.1)) (L.drop k)) ⟨⟨_,rfl⟩,sd,[],hD0,by simp,Nat.le_refl _,rfl⟩ (fun k σ' H' _ h=>sqL h.2.1) (fun k v σ' H3 e h=>?_) fun σ' H3 h=>?_
  ·obtain ⟨⟨x4,rfl⟩,s3,ps,hD,hm,hps,hh⟩:=h
   have hk:k<L.length:=by rw [<-hl];exact (List.getElem?_eq_some_iff.mp e).1
   have et:L[k]?=some L[k]:=getElem?_eq_getElem hk
   have rp:=at_ k v _ e et
   have hdr:L.drop k=L[k]::L.drop (k+1):=drop_eq_getElem_cons hk
   have htk:L.take (k+1)=L.take k++[L[k]]:=by rw [take_succ,et];rfl
   obtain ⟨hi,hj,hrk⟩:=hL _ (getElem_mem hk)
   generalize L[k]=t at rp hi hj hrk hdr htk
   rw [hdr,holdB] at hh
   refine ⟨v0,rfl,v,rfl,.ref d,rfl,wd,O,v0,v,d,ps,t,rfl,ok,nd,inS s3,r0.mono (mono s3),rp.mono (mono s3),⟨fun _=>.bl true,hD⟩,hi,hj,hrk,fun H4 s4=>⟨_,rfl,?_⟩⟩
   rw [rowB_cg hm]
   have s34:=s3.trans s4
   cases er:rowB wd ((L.take k).map (·.1)) t with
   | false=>
    rw [er] at hh
    have:=q H4 s34
    rw [hh] at this
    exact iteT this
   | true=>
    rw [er,Bool.true_and] at hh
    obtain ⟨b,u,rfl,hb,_⟩:=zFY rp
    have hb4:SqT K H4 b _:=SameT (hid_le.trans s34) hb
    refine iteF ⟨.ref d,rfl,.ref b,rfl,.inr (.inl ⟨b,_,0,_,rfl,rfl,hb4,rfl,.ref b,rfl,.inr (.inl ⟨b,_,1,_,rfl,rfl,hb4,rfl,zC2,fun c hc=>?_⟩)⟩)⟩
    have sc:Same H4 (upd H4 c (.tup [.int (t.1.1:Int),.int (t.1.2:Int)])):=zAG hc
    have k2:K2 K (upd H4 c (.tup [.int (t.1.1:Int),.int (t.1.2:Int)])) (ky t.1.1 t.1.2) c:=zC3
    have hD5:=hD.grow (s4.trans sc)
    generalize upd H4 c (.tup [.int (t.1.1:Int),.int (t.1.2:Int)])=H5 at *
    refine ⟨d,c,[false,false],_,ky t.1.1 t.1.2,rfl,rfl,hD5,k2,rfl,by rw [zFD];omega,fun ob' hD'=>⟨⟨_,rfl⟩,SD.same (s34.trans sc) hd0 SD.upd,_,(by rw [zF4,up_tt] at hD';exact hD'),fun p=>?_,?_,?_⟩⟩
    ·rw [htk,map_append,List.mem_append,<-hm p]
     show _↔p∈ps\/p∈[t.1]
     rw [List.mem_singleton]
     split
     ·rename_i hin
      exact ⟨.inl,fun z=>z.elim id fun y=>by rw [y];exact hin⟩
     ·rw [List.mem_append,List.mem_singleton]
    ·split
     ·omega
     ·rw [length_append,length_singleton];omega
    ·rw [htk,map_append]
     exact hh
  ·obtain ⟨⟨x4,rfl⟩,s3,ps,hD,hm,hps,hh⟩:=h
   have:=q H3 s3
   rw [hh,hl,List.drop_length] at this
   exact this
end
theorem rsnT_inj {a b:Rsn} (h:rsnT a=rsnT b):a=b:=by
 cases a<;>cases b<;>(unfold rsnT at h;have h:=PyData.tuple.inj h)
 ·injection h with _ h;injection h with h _;rw [PyData.str.inj h]
 ·injection h with h _;cases h
 ·injection h with h _;cases h
 ·injection h with _ h;injection h with h1 h;injection h with h2 _;rw [PyData.int.inj h1,PyData.int.inj h2]
theorem rowT_inj {M:List Row} (h:PyData.list (L.map rowT)=.list (M.map rowT)):L=M:=(map_inj_right (f:=rowT) fun a b e=>by
 have e:=PyData.tuple.inj e
 injection e with e1 e
 injection e with e2 e
 injection e with e3 _
 exact Prod.ext (Prod.ext (Int.ofNat_inj.mp (PyData.int.inj e1)) (Int.ofNat_inj.mp (PyData.int.inj e2))) (rsnT_inj e3)).mp (PyData.list.inj h)
noncomputable def Aud (ds:List PySem.PyData):Prop:=∃x:Wd×List Row,ds=[x.1.enc,.list (x.2.map rowT)]/\x.1.Ok/\RowsOk x.1 x.2
open Classical in
noncomputable def m_are_unlike_by (ds:List PySem.PyData):Res:=if h:Aud ds then .ok ⟨.leaf,.bool (holdB h.choose.1 [] h.choose.2)⟩ else .no
theorem den_au {w:Wd} (ok:w.Ok) (hL:RowsOk w L):m_are_unlike_by [w.enc,.list (L.map rowT)]=.ok ⟨.leaf,.bool (holdB w [] L)⟩:=by
 have H:Aud [w.enc,.list (L.map rowT)]:=⟨(w,L),rfl,ok,hL⟩
 unfold m_are_unlike_by
 rw [dif_pos H]
 obtain ⟨e,k,_⟩:=H.choose_spec
 injection e with e1 e
 injection e with e2 _
 rw [<-encI ok k e1,<-rowT_inj e2]
theorem m_au_ok {p:PV} (h:m_are_unlike_by ds=.ok p):∃w L,ds=[w.enc,.list (L.map rowT)]/\w.Ok/\RowsOk w L/\p=⟨.leaf,.bool (holdB w [] L)⟩:=by
 unfold m_are_unlike_by at h
 split at h
 ·rename_i H
  cases h
  obtain ⟨e,k,k2⟩:=H.choose_spec
  exact ⟨_,_,e,k,k2,rfl⟩
 ·cases h
end KC.Ap
namespace KC.Ap
open PySem PySem.Spec L2 T
open PyProof.Rows hiding St
open KC
variable {X:Cx} {N gl:List Str} {vs cs ls lo gs:List Nat} {x:Str} {p2 pos p1 p3 p6 p4 p5:Pos} {e:Expr} {scope:Scope} {K:Fg} {mg:Str->Option Value} {base:Heap} {fd:FuncData} {j1 j2 k1:Nat}
theorem nvU (S:Cp X N gl vs cs ls lo gs) (i:Nat) (x:Str) (pos:Pos) (e:N[i]?=some x) (hi:vs.contains i=true):PE X (.Name x pos) (tVar i):=by
 have m:=S.nm x (mem_of_getElem? e)
 exact zCD (by rw [S.hN];exact e) (S.vis i x e hi) m.1 m.2
theorem nmU (S:Cp X N gl vs cs ls lo gs) (i:Nat) (x:Str) (pos:Pos) (e:N[i]?=some x) (hi:ls.contains i=true):PG X (.Name x pos) (gName i):=by
 have hN:X.N.Nodup:=by rw [S.hN];exact S.nd
 exact zB3 hN (by rw [S.hN];exact e) (S.loc i x e hi).1 (S.loc i x e hi).2
theorem stU (S:Cp X N gl vs cs ls lo gs) (i:Nat) {p:Pos} {te:TE} (hx:N[i]?=some x) (hi:ls.contains i=true) (h:PE X e te) (hs:swapsWith e (some (.Name x p)) p2.line X.env=pure false):PS X (.Assign [.Name x p] e p2) (tAsg te (gName i)):=by
 have hN:X.N.Nodup:=by rw [S.hN];exact S.nd
 exact zDF hN (by rw [S.hN];exact hx) (S.loc i x hx hi).1 h hs (S.loc i x hx hi).2
theorem clU {sp:Sp} {es:List Expr} {t:TA} {p:Pos} (S:Cp X N gl vs cs ls lo gs) (j:Nat) (hj:gl[j]?=some x) (hg:gs.contains j=true) (c:∃(k:Nat) (f:Addr) (fd:FuncData) (ps:List Str),FnOk X.prog X.w X.K X.mg X.base CX0 k f fd ps sp/\Room k X.A/\X.mg x=some (.ref f)/\PySem.W.keepIn X.K (.ref f)=true/\Binds X.K fd ps [])
  (ha:PA X (e::es) t) (he:starEach (e::es) X.env=(false,eval e X.env)::starEach es X.env) (hpl:(backTo pos (starEach es X.env)).any (·.1)=false) (hd:(x==("__debug__":Str))=false):PE X (.Call (.Name x p) (e::es) [] pos) (tCall sp [] L2.E0 t):=by
 obtain ⟨k,f,fd,ps,F,hr,a1,a2,a3⟩:=c
 exact zEF F hr (S.g (j:=j) hj hg).1 a1 a2 a3 .nil pass0 ha hd he hpl
theorem ixU (S:Cp X N gl vs cs ls lo gs) (i:Nat) {k:Nat} {c:Int} (e:N[i]?=some x) (hi:vs.contains i=true):PE X (.Subscript (.Name x p1) (.Constant (.int c) k p2) p3) (tIt X.K i c):=pe_ix zDI (nvU S i _ _ e hi) zEE (fun _ _=>rfl)
noncomputable def s_is_by_step:Stmt:=sTm 18
theorem sc_bs:FnScope N_bs ["world", "one", "other", "side", "there", "known"] (zAH s_is_by_step):=⟨rfl,rfl,rfl,by decide +kernel,rfl,by decide +kernel,by decide +kernel⟩
theorem cp_bs:cpB N_bs G_bs [0,1,2,3,4,5] [5] [0,1,2,3,4,5] [0,1,2,3,4] [0,1] (zAH s_is_by_step)=true:=by kernel_rfl
theorem nm_bs:nmB N_bs G_bs=true:=by kernel_rfl
theorem bs_all (S:Cp X N_bs G_bs [0,1,2,3,4,5] [5] [0,1,2,3,4,5] [0,1,2,3,4] [0,1]) (hu:X.A.units+2<cLine) (n_all:X.mg "all"=none) {it:Expr} {p0 pos2:Pos} (hit:PE X it (tE X.K W0 fPA))
  (h1:zFS N_bs [6] [5] scope=true) (h2:cpB N_bs G_bs [5,6] [5] [6] [] [] scope=true) (hs:∀z,foldedSetIterable it X.env z=pure z) :
  PE X (.Call (.Name "all" p0) [.ListComp (.Compare (.Name "pair" p1) [.In] [.Name "known" p2] p3) [⟨.Name "pair" p6,it,[],0⟩] scope pos] [] pos2) (tCB (rAll X.K false) (tCons (tComp [6] (iList X.K (tE X.K W0 fPA)) (gName 6) tTrue (tD2In X.prog X.w X.K (tVar 6) (tVar 5))) tNil)):=by
 have B:=fun cells C s₀ H₀ ex=>S.blk h2 cells C s₀ H₀ ex
 exact zCZ (call_allD S.calm) (S.g (j:=0) rfl rfl).1 n_all b_all (zAE (zE8 (zEL S h1) S.calm (zB2 hit)
  (fun cells C s₀ H₀ ex=>nmU (B cells C s₀ H₀ ex) 6 _ _ rfl rfl)
  (fun cells C s₀ H₀ ex=>zGU)
  (fun cells C s₀ H₀ ex=>pe_cmp (zF3 (X:=L2.blk X scope cells C s₀ H₀ ex) hu (nvU (B cells C s₀ H₀ ex) 6 _ _ rfl rfl) (nvU (B cells C s₀ H₀ ex) 5 _ _ rfl rfl)) (by with_unfolding_all rfl)) hs) zAS (zAA rfl)) (S.g (j:=0) rfl rfl).2.2 (S.g (j:=0) rfl rfl).2.1 (zAA rfl) rfl
theorem bd_bs (S:Cp X N_bs G_bs [0,1,2,3,4,5] [5] [0,1,2,3,4,5] [0,1,2,3,4] [0,1]) (R:Rm X) (n_all:X.mg "all"=none) (c:Cal X "pairs_asked" 5 m_pairs_asked):PSs X (zA2 s_is_by_step) (tBS X.prog X.w X.K):=by
 have hu:X.A.units+2<cLine:=Nat.lt_of_le_of_lt (by omega) R
 exact zAL (zBL (bs_all S hu n_all (TQ.Q.p (TQ.w_cc S 1 rfl rfl c (TQ.w_da_cons (TQ.w_cv S 0 rfl rfl) (TQ.w_da_cons (TQ.w_cv S 1 rfl rfl) (TQ.w_da_cons (TQ.w_cv S 2 rfl rfl) (TQ.w_da_cons (TQ.w_cv S 3 rfl rfl) (TQ.w_da_cons (TQ.w_cv S 4 rfl rfl) TQ.w_da_nil (zAA rfl)) (zAA rfl)) (zAA rfl)) (zAA rfl)) (zAA rfl)) (zAA rfl) rfl)) (by kernel_rfl) (by kernel_rfl) (fun _=>rfl)))
theorem ok_is_by_step {P:Program} {w:World} {f:Addr} {j k:Nat} (F:Fun K "is_by_step" "is_by_step" s_is_by_step f fd) (hm:mg "is_by_step"=some (.ref f)) (b:Binds K fd ["world", "one", "other", "side", "there", "known"] []) (n_all:mg "all"=none)
  (c:DefOk P w K mg base j "pairs_asked" 5 m_pairs_asked) (hj:decide (j<=k)=true):BsOk P w K mg base (k+1):=by
 refine ⟨f,fd,_,F.ok sc_bs (fun vs H Q E h=>?_) (fun cdv A outer s H vs Q E hr h=>?_),hm,F.kp,b⟩
 ·obtain ⟨_,_,_,_,_,_,_,_,_,rfl,_⟩:=h
  rfl
 ·exact ⟨_,bd_bs (Cp.fn cp_bs nm_bs) hr.units n_all (c.cal hr hj),rd_bs h⟩
noncomputable def s_reason_for:Stmt:=sTm 19
theorem sc_rf:FnScope N_rf ["world", "one", "other", "known"] (zAH s_reason_for):=⟨rfl,rfl,rfl,by decide +kernel,rfl,by decide +kernel,by decide +kernel⟩
noncomputable abbrev CpF (X:Cx):Prop:=Cp X N_rf G_rf [0,1,2,3,4,5,6,7] [] [0,1,2,3,4,5,6,7] [0,1,2,3,4,5,6,7] [0,1,2,3]
theorem cp_rf:cpB N_rf G_rf [0,1,2,3,4,5,6,7] [] [0,1,2,3,4,5,6,7] [0,1,2,3,4,5,6,7] [0,1,2,3] (zAH s_reason_for)=true:=by kernel_rfl
theorem nm_rf:nmB N_rf G_rf=true:=by kernel_rfl
theorem bd_rf (S:CpF X) (R:Rm X) (hp:PassesOwn (model X.prog X.w) X.A X.env X.xe) (n_enum:X.mg "enumerate"=none) (c1:Cal X "is_by_mark" 4 m_is_by_mark) (c2:CaBS X) (hL:Con X "LETTERS" k_LTR):PSs X (zA2 s_reason_for) (tRF X.prog X.w X.K):=by
 refine zAJ (zB1 hp S.calm (pi_tup (TQ.Q.p (TQ.w_ck S 0 rfl rfl hL))) (nmU S 4 _ _ rfl rfl) ?_ (fun _=>rfl)) ?_
 ·exact zAL (ps_if (TQ.Q.p (TQ.w_dt_tru (TQ.w_cc S 1 rfl rfl c1 (TQ.w_da_cons (TQ.w_cv S 0 rfl rfl) (TQ.w_da_cons (TQ.w_cv S 1 rfl rfl) (TQ.w_da_cons (TQ.w_cv S 2 rfl rfl) (TQ.w_da_cons (TQ.w_cv S 4 rfl rfl) TQ.w_da_nil (zAA rfl)) (zAA rfl)) (zAA rfl)) (zAA rfl)) (zAA rfl) rfl) (fun _=>rfl))) (zAL (zBL (zCQ (zAE zGV (zAE (nvU S 4 _ _ rfl rfl) zAS (zAA rfl)) (zAA rfl))))) zBM)
 refine zAJ (zB1 hp S.calm (pi_enum (S.g (j:=2) rfl rfl).1 n_enum (zAE (zGF (zAE (nvU S 1 _ _ rfl rfl) (zAE (nvU S 2 _ _ rfl rfl) zAS (zAA rfl)) (zAA rfl))) zAS (zAA rfl)) (zAN rfl)) (zGT S.calm (zCL (nmU S 5 _ _ rfl rfl) (zCL (nmU S 6 _ _ rfl rfl) zF1))) ?_ (fun _=>rfl)) (zAL (zBL zFO))
 refine zAL (zB1 hp S.calm (zB2 (TQ.Q.p (TQ.w_de_idx (TQ.w_de_idx (TQ.w_cv S 0 rfl rfl) TQ.w_de_int (fun _ _=>rfl)) (TQ.w_cv S 6 rfl rfl) (fun _ _=>rfl)))) (nmU S 7 _ _ rfl rfl) ?_ (fun _=>rfl))
 exact zAL (ps_if (zED (clU S 3 rfl rfl c2 (zAE (nvU S 0 _ _ rfl rfl) (zAE (nvU S 1 _ _ rfl rfl) (zAE (nvU S 2 _ _ rfl rfl) (zAE (nvU S 5 _ _ rfl rfl) (zAE (nvU S 7 _ _ rfl rfl) (zAE (nvU S 3 _ _ rfl rfl) zAS (zAA rfl)) (zAA rfl)) (zAA rfl)) (zAA rfl)) (zAA rfl)) (zAA rfl)) (zAA rfl) rfl (by decide)) (fun _=>rfl)) (zAL (zBL (zCQ (zAE zGV (zAE (nvU S 5 _ _ rfl rfl) (zAE (nvU S 7 _ _ rfl rfl) zAS (zAA rfl)) (zAA rfl)) (zAA rfl))))) zBM)
theorem ok_reason_for {P:Program} {w:World} {f:Addr} {k:Nat} (F:Fun K "reason_for" "reason_for" s_reason_for f fd) (hm:mg "reason_for"=some (.ref f)) (b:Binds K fd ["world", "one", "other", "known"] []) (n_enum:mg "enumerate"=none)
  (c1:DefOk P w K mg base j1 "is_by_mark" 4 m_is_by_mark) (c2:BsOk P w K mg base j2) (hL:ConK K mg "LETTERS" k_LTR) (h1:decide (j1<=k)=true) (h2:decide (j2<=k)=true):RfOk P w K mg base (k+1):=by
 refine ⟨f,fd,_,F.ok sc_rf (fun vs H Q E h=>?_) (fun cdv A outer s H vs Q E hr h=>?_),hm,F.kp,b⟩
 ·obtain ⟨_,_,_,_,_,_,_,rfl,_⟩:=h
  rfl
 ·obtain ⟨f',fd',ps',F',a',b',c'⟩:=c2
  exact ⟨_,bd_rf (Cp.fn cp_rf nm_rf) hr.units PassesOwn.never n_enum (c1.cal hr h1) ⟨j2,f',fd',ps',F',hr.mono (of_decide_eq_true h2),a',b',c'⟩ hL,rd_rf h⟩
noncomputable def s_rows_next:Stmt:=sTm 20
theorem sc_rn:FnScope N_rn ["world", "known"] (zAH s_rows_next):=⟨rfl,rfl,rfl,by decide +kernel,rfl,by decide +kernel,by decide +kernel⟩
noncomputable abbrev CpN (X:Cx):Prop:=Cp X N_rn G_rn [0,1,2,3,4,5] [] [0,1,2,3,4,5] [0,1,2,3,4,5] [0,1,2]
theorem cp_rn:cpB N_rn G_rn [0,1,2,3,4,5] [] [0,1,2,3,4,5] [0,1,2,3,4,5] [0,1,2] (zAH s_rows_next)=true:=by kernel_rfl
theorem nm_rn:nmB N_rn G_rn=true:=by kernel_rfl
theorem rn_len (S:CpN X) (n_len:X.mg "len"=none):PE X (.Call (.Name "len" p1) [.Subscript (.Name "world" p2) (.Constant (.int 0) k1 p3) p4] [] p5) (tLn X.K):=
 zCZ call_len_seq (S.g (j:=1) rfl rfl).1 n_len b_len (zAE (pe_ix zDI (nvU S 0 _ _ rfl rfl) zEE (fun _ _=>rfl)) zAS (zAA rfl)) (S.g (j:=1) rfl rfl).2.2 (S.g (j:=1) rfl rfl).2.1 (zAA rfl) rfl
theorem bd_rn (S:CpN X) (R:Rm X) (hp:PassesOwn (model X.prog X.w) X.A X.env X.xe) (n_range:X.mg "range"=none) (n_len:X.mg "len"=none) (c:CaRF X):PSs X (zA2 s_rows_next) (tRN X.prog X.w X.K):=by
 have hu:X.A.units+2<cLine:=Nat.lt_of_le_of_lt (by omega) R
 refine zAJ (stU S 2 rfl rfl (zGF zAS) rfl) ?_
 refine zAJ (zB1 hp S.calm (zDG (S.g (j:=0) rfl rfl).1 n_range (zAE (rn_len S n_len) zAS (zAA rfl)) (zAN rfl)) (nmU S 3 _ _ rfl rfl) (zAL (zB1 hp S.calm (zDG (S.g (j:=0) rfl rfl).1 n_range (zAE (rn_len S n_len) zAS (zAA rfl)) (zAN rfl)) (nmU S 4 _ _ rfl rfl) ?_ (fun _=>rfl))) (fun _=>rfl)) (zAL (zBL (nvU S 2 _ _ rfl rfl)))
 refine zAJ (stU S 5 rfl rfl (pe_ifExp (zGD (zF3 hu (zCQ (zAE (nvU S 3 _ _ rfl rfl) (zAE (nvU S 4 _ _ rfl rfl) zAS (zAA rfl)) (zAA rfl))) (nvU S 1 _ _ rfl rfl)) (by with_unfolding_all rfl)) zFO (clU S 2 rfl rfl c (zAE (nvU S 0 _ _ rfl rfl) (zAE (nvU S 3 _ _ rfl rfl) (zAE (nvU S 4 _ _ rfl rfl) (zAE (nvU S 1 _ _ rfl rfl) zAS (zAA rfl)) (zAA rfl)) (zAA rfl)) (zAA rfl)) (zAA rfl) rfl (by decide))) rfl) ?_
 exact zAL (ps_if (pt_cmpR op_notN (nvU S 5 _ _ rfl rfl) zFO (by with_unfolding_all rfl)) (zAL (zCA (pe_bm PySem.F.plainAttrs_list PySem.F.slot_list_append PySem.F.type_list_append zCR (nvU S 2 _ _ rfl rfl) (zAE (zCQ (zAE (nvU S 3 _ _ rfl rfl) (zAE (nvU S 4 _ _ rfl rfl) (zAE (nvU S 5 _ _ rfl rfl) zAS (zAA rfl)) (zAA rfl)) (zAA rfl))) zAS (zAA rfl)) rfl rfl rfl (zAA rfl) rfl) rfl)) zBM)
theorem ok_rows_next {P:Program} {w:World} {f:Addr} {j k:Nat} (F:Fun K "rows_next" "rows_next" s_rows_next f fd) (hm:mg "rows_next"=some (.ref f)) (b:Binds K fd ["world", "known"] []) (n_range:mg "range"=none) (n_len:mg "len"=none)
  (c:RfOk P w K mg base j) (hj:decide (j<=k)=true):RnOk P w K mg base (k+1):=by
 refine ⟨f,fd,_,F.ok sc_rn (fun vs H Q E h=>?_) (fun cdv A outer s H vs Q E hr h=>?_),hm,F.kp,b⟩
 ·obtain ⟨_,_,_,_,_,rfl,_⟩:=h
  rfl
 ·obtain ⟨f',fd',ps',F',a',b',c'⟩:=c
  exact ⟨_,bd_rn (Cp.fn cp_rn nm_rn) hr.units PassesOwn.never n_range n_len ⟨j,f',fd',ps',F',hr.mono (of_decide_eq_true hj),a',b',c'⟩,rd_rn h⟩
noncomputable def s_all_rows:Stmt:=sTm 21
theorem sc_ar:FnScope N_ar ["world"] (zAH s_all_rows):=⟨rfl,rfl,rfl,by decide +kernel,rfl,by decide +kernel,by decide +kernel⟩
noncomputable abbrev CpR (X:Cx):Prop:=Cp X N_ar G_ar [0,1,2,3] [] [0,1,2,3] [0,1,2,3] [0]
theorem cp_ar:cpB N_ar G_ar [0,1,2,3] [] [0,1,2,3] [0,1,2,3] [0] (zAH s_all_rows)=true:=by kernel_rfl
theorem nm_ar:nmB N_ar G_ar=true:=by kernel_rfl
theorem ar_nx (S:CpR X) (c:CaRN X):PE X (.Call (.Name "rows_next" p1) [.Name "world" p2,.Name "known" p3] [] p4) (tCRN X.prog X.w X.K):=clU S 0 rfl rfl c (zAE (nvU S 0 _ _ rfl rfl) (zAE (nvU S 1 _ _ rfl rfl) zAS (zAA rfl)) (zAA rfl)) (zAA rfl) rfl (by decide)
theorem bd_ar (S:CpR X) (R:Rm X) (hp:PassesOwn (model X.prog X.w) X.A X.env X.xe) (c:CaRN X):PSs X (zA2 s_all_rows) (tAR X.prog X.w X.K):=by
 have hu:X.A.units+2<cLine:=Nat.lt_of_le_of_lt (by omega) R
 refine zAJ (stU S 1 rfl rfl (zE6 [false,false]) rfl) ?_
 refine zAJ (stU S 2 rfl rfl (ar_nx S c) rfl) ?_
 refine zAJ (zE3 hp (zE2 (nvU S 2 _ _ rfl rfl) (fun _=>rfl)) ?_) (zAL (zBL (nvU S 1 _ _ rfl rfl)))
 refine zAJ (zB1 hp S.calm (zB2 (nvU S 2 _ _ rfl rfl)) (nmU S 3 _ _ rfl rfl) ?_ (fun _=>rfl)) (zAL (stU S 2 rfl rfl (ar_nx S c) rfl))
 exact zAL (ps_d2put hu (nvU S 1 _ _ rfl rfl) (zCQ (zAE (ixU S 3 rfl rfl) (zAE (ixU S 3 rfl rfl) zAS (zAA rfl)) (zAA rfl))) (nvU S 3 _ _ rfl rfl) rfl)
theorem ok_all_rows {P:Program} {w:World} {f:Addr} {j k:Nat} (F:Fun K "all_rows" "all_rows" s_all_rows f fd) (hm:mg "all_rows"=some (.ref f)) (b:Binds K fd ["world"] [])
  (c:RnOk P w K mg base j) (hj:decide (j<=k)=true):ArOk P w K mg base (k+1):=by
 refine ⟨f,fd,_,F.ok sc_ar (fun vs H Q E h=>?_) (fun cdv A outer s H vs Q E hr h=>?_),hm,F.kp,b⟩
 ·obtain ⟨_,_,_,rfl,_⟩:=h
  rfl
 ·obtain ⟨f',fd',ps',F',a',b',c'⟩:=c
  exact ⟨_,bd_ar (Cp.fn cp_ar nm_ar) hr.units PassesOwn.never ⟨j,f',fd',ps',F',hr.mono (of_decide_eq_true hj),a',b',c'⟩,rd_ar h⟩
noncomputable def s_rows_for:Stmt:=sTm 23
theorem sc_rw:FnScope N_rw ["world", "one", "other"] (zAH s_rows_for):=⟨rfl,rfl,rfl,by decide +kernel,rfl,by decide +kernel,by decide +kernel⟩
noncomputable abbrev CpW (X:Cx):Prop:=Cp X N_rw G_rw [0,1,2,3,5,6,7,8] [3,5] [0,1,2,3,5,6,7,8] [0,1,2,6,7,8] [0,1]
theorem cp_rw:cpB N_rw G_rw [0,1,2,3,5,6,7,8] [3,5] [0,1,2,3,5,6,7,8] [0,1,2,6,7,8] [0,1] (zAH s_rows_for)=true:=by kernel_rfl
theorem nm_rw:nmB N_rw G_rw=true:=by kernel_rfl
theorem rw_pr (S:CpW X):PE X (.Tuple [.Name "one" p1,.Name "other" p2] k1 p3) (tP2 1 2):=zCQ (zAE (nvU S 1 _ _ rfl rfl) (zAE (nvU S 2 _ _ rfl rfl) zAS (zAA rfl)) (zAA rfl))
theorem rw_co (S:CpW X) (hu:X.A.units+2<cLine) {p7 p8:Pos}
  (h1:zFS N_rw [7] [3,5] scope=true) (h2:cpB N_rw G_rw [3,5,7] [3,5] [7] [] [] scope=true) (hs:∀z,foldedSetIterable (.Name "rows" p5) X.env z=pure z) :
  PE X (.ListComp (.Subscript (.Name "rows" p1) (.Name "pair" p2) p3) [⟨.Name "pair" p4,.Name "rows" p5,[.Compare (.Name "pair" p6) [.In] [.Name "needed" p7] p8],0⟩] scope pos) (tRWc X.prog X.w X.K):=by
 have B:=fun cells C s₀ H₀ ex=>S.blk h2 cells C s₀ H₀ ex
 exact zE8 (zEL S h1) S.calm (pi_d2 (nvU S 3 _ _ rfl rfl))
  (fun cells C s₀ H₀ ex=>nmU (B cells C s₀ H₀ ex) 7 _ _ rfl rfl)
  (fun cells C s₀ H₀ ex=>pf_one (zGD (zF3 (X:=L2.blk X scope cells C s₀ H₀ ex) hu (nvU (B cells C s₀ H₀ ex) 7 _ _ rfl rfl) (nvU (B cells C s₀ H₀ ex) 5 _ _ rfl rfl)) (by with_unfolding_all rfl)))
  (fun cells C s₀ H₀ ex=>pe_d2getE (X:=L2.blk X scope cells C s₀ H₀ ex) hu (nvU (B cells C s₀ H₀ ex) 3 _ _ rfl rfl) (nvU (B cells C s₀ H₀ ex) 7 _ _ rfl rfl) (fun _ _=>rfl)) hs
theorem bd_rw (S:CpW X) (R:Rm X) (hp:PassesOwn (model X.prog X.w) X.A X.env X.xe) (c1:CaAR X) (c2:Cal X "pairs_behind" 2 m_pairs_behind):PSs X (zA2 s_rows_for) (tRW X.prog X.w X.K):=by
 have hu:X.A.units+2<cLine:=Nat.lt_of_le_of_lt (by omega) R
 refine zAJ (stU S 3 rfl rfl (clU S 0 rfl rfl c1 (zAE (nvU S 0 _ _ rfl rfl) zAS (zAA rfl)) (zAA rfl) rfl (by decide)) rfl) ?_
 refine zAJ (ps_if (zGD (pc_d2notin hu (rw_pr S) (nvU S 3 _ _ rfl rfl)) (by with_unfolding_all rfl)) (zAL (zBL zFO)) zBM) ?_
 refine zAJ (stU S 5 rfl rfl (pe_d2oneH [false,false] hu (rw_pr S) pe_bl) rfl) ?_
 refine zAJ (stU S 6 rfl rfl (zGF (zAE (rw_pr S) zAS (zAA rfl))) rfl) ?_
 refine zAJ (zE3 hp (zE2 (nvU S 6 _ _ rfl rfl) (fun _=>rfl)) ?_) (zAL (zBL (rw_co S hu (by kernel_rfl) (by kernel_rfl) (fun _=>rfl))))
 refine zAJ (stU S 7 rfl rfl (pe_bm0 PySem.F.plainAttrs_list PySem.F.slot_list_pop PySem.F.type_list_pop mt_pop (nvU S 6 _ _ rfl rfl) rfl rfl) rfl) ?_
 refine zAL (zB1 hp S.calm (zB2 (clU S 1 rfl rfl c2 (zAE (nvU S 0 _ _ rfl rfl) (zAE (zE7 hu (nvU S 3 _ _ rfl rfl) (nvU S 7 _ _ rfl rfl) (fun _ _=>rfl)) zAS (zAA rfl)) (zAA rfl)) (zAA rfl) rfl (by decide))) (nmU S 8 _ _ rfl rfl) ?_ (fun _=>rfl))
 refine zAL (ps_if (zGD (pc_d2notin hu (nvU S 8 _ _ rfl rfl) (nvU S 5 _ _ rfl rfl)) (by with_unfolding_all rfl)) ?_ zBM)
 refine zAJ (ps_d2putH hu (nvU S 5 _ _ rfl rfl) (nvU S 8 _ _ rfl rfl) pe_bl rfl) ?_
 exact zAL (zCA (pe_bm PySem.F.plainAttrs_list PySem.F.slot_list_append PySem.F.type_list_append zCR (nvU S 6 _ _ rfl rfl) (zAE (nvU S 8 _ _ rfl rfl) zAS (zAA rfl)) rfl rfl rfl (zAA rfl) rfl) rfl)
theorem ok_rows_for {P:Program} {w:World} {f:Addr} {k:Nat} (F:Fun K "rows_for" "rows_for" s_rows_for f fd) (hm:mg "rows_for"=some (.ref f)) (b:Binds K fd ["world", "one", "other"] [])
  (c1:ArOk P w K mg base j1) (c2:DefOk P w K mg base j2 "pairs_behind" 2 m_pairs_behind) (h1:decide (j1<=k)=true) (h2:decide (j2<=k)=true):DefOk P w K mg base (k+1) "rows_for" 3 m_rows_for:=by
 refine ⟨f,fd,_,F.ok sc_rw (fun vs H Q E h=>h.1) (fun cdv A outer s H vs Q E hr h=>?_),hm,F.kp,b⟩
 obtain ⟨hl,O,ds,nd,inH,rs,w'⟩:=h
 cases e:m_rows_for ds with
 | er c=>rw [e] at w';exact w'.elim
 | no=>rw [e] at w';exact w'.elim
 | ok p=>
  rw [e] at w'
  obtain ⟨wd,i,j,rfl,ok,hi,hj,rfl⟩:=m_rw_ok e
  obtain ⟨f',fd',ps',F',a',b',c'⟩:=c1
  exact ⟨_,bd_rw (Cp.fn cp_rw nm_rw) hr.units PassesOwn.never ⟨j1,f',fd',ps',F',hr.mono (of_decide_eq_true h1),a',b',c'⟩ (c2.cal hr h2),rd_rw ok hi hj nd inH rs w'⟩
noncomputable def s_is_row_right:Stmt:=sTm 26
theorem sc_ir:FnScope N_ir ["world", "row", "known"] (zAH s_is_row_right):=⟨rfl,rfl,rfl,by decide +kernel,rfl,by decide +kernel,by decide +kernel⟩
noncomputable abbrev CpY (X:Cx):Prop:=Cp X N_ir G_ir [0,1,2,3] [] [0,1,2,3] [0,1,2,3] [0,1]
theorem cp_ir:cpB N_ir G_ir [0,1,2,3] [] [0,1,2,3] [0,1,2,3] [0,1] (zAH s_is_row_right)=true:=by kernel_rfl
theorem nm_ir:nmB N_ir G_ir=true:=by kernel_rfl
theorem bd_ir (S:CpY X) (R:Rm X) (c1:Cal X "is_by_mark" 4 m_is_by_mark) (c2:CaBS X):PSs X (zA2 s_is_row_right) (tIR X.prog X.w X.K):=by
 refine zAJ (stU S 3 rfl rfl (TQ.Q.p (TQ.w_de_idx (TQ.w_cv S 1 rfl rfl) TQ.w_de_int (fun _ _=>rfl))) rfl) ?_
 refine zAJ (ps_if (TQ.Q.p (TQ.w_ct (q_eq R) (TQ.w_de_idx (TQ.w_cv S 3 rfl rfl) TQ.w_de_int (fun _ _=>rfl)) TQ.w_de_str (by with_unfolding_all rfl))) (zAL (zBL (TQ.Q.p (TQ.w_cc S 0 rfl rfl c1 (TQ.w_da_cons (TQ.w_cv S 0 rfl rfl) (TQ.w_da_cons (TQ.w_de_idx (TQ.w_cv S 1 rfl rfl) TQ.w_de_int (fun _ _=>rfl)) (TQ.w_da_cons (TQ.w_de_idx (TQ.w_cv S 1 rfl rfl) TQ.w_de_int (fun _ _=>rfl)) (TQ.w_da_cons (TQ.w_de_idx (TQ.w_cv S 3 rfl rfl) TQ.w_de_int (fun _ _=>rfl)) TQ.w_da_nil (zAA rfl)) (zAA rfl)) (zAA rfl)) (zAA rfl)) (zAA rfl) rfl)))) zBM) ?_
 refine zAJ (ps_if (TQ.Q.p (TQ.w_pw_pt (TQ.w_dw_or (TQ.w_ct (zEC R) (TQ.w_de_idx (TQ.w_cv S 3 rfl rfl) TQ.w_de_int (fun _ _=>rfl)) (TQ.w_de_tup (TQ.w_da_cons TQ.w_de_int (TQ.w_da_cons TQ.w_de_int TQ.w_da_nil (zAA rfl)) (zAA rfl))) (by with_unfolding_all rfl)) (TQ.w_dw_or1 (TQ.w_ct (zEC R) (TQ.w_de_idx (TQ.w_cv S 3 rfl rfl) TQ.w_de_int (fun _ _=>rfl)) (TQ.w_de_idx (TQ.w_de_idx (TQ.w_cv S 0 rfl rfl) TQ.w_de_int (fun _ _=>rfl)) (TQ.w_de_idx (TQ.w_cv S 1 rfl rfl) (TQ.w_de_idx (TQ.w_cv S 3 rfl rfl) TQ.w_de_int (fun _ _=>rfl)) (fun _ _=>rfl)) (fun _ _=>rfl)) (by with_unfolding_all rfl)))))) (zAL (zBL pe_bl)) zBM) ?_
 exact zAL (zBL (clU S 1 rfl rfl c2 (zAE (nvU S 0 _ _ rfl rfl) (zAE (ixU S 1 rfl rfl) (zAE (ixU S 1 rfl rfl) (zAE (ixU S 3 rfl rfl) (zAE (ixU S 3 rfl rfl) (zAE (nvU S 2 _ _ rfl rfl) zAS (zAA rfl)) (zAA rfl)) (zAA rfl)) (zAA rfl)) (zAA rfl)) (zAA rfl)) (zAA rfl) rfl (by decide)))
theorem ok_is_row_right {P:Program} {w:World} {f:Addr} {k:Nat} (F:Fun K "is_row_right" "is_row_right" s_is_row_right f fd) (hm:mg "is_row_right"=some (.ref f)) (b:Binds K fd ["world", "row", "known"] [])
  (c1:DefOk P w K mg base j1 "is_by_mark" 4 m_is_by_mark) (c2:BsOk P w K mg base j2) (h1:decide (j1<=k)=true) (h2:decide (j2<=k)=true):IrOk P w K mg base (k+1):=by
 refine ⟨f,fd,_,F.ok sc_ir (fun vs H Q E h=>?_) (fun cdv A outer s H vs Q E hr h=>?_),hm,F.kp,b⟩
 ·obtain ⟨_,_,_,_,_,_,_,rfl,_⟩:=h
  rfl
 ·obtain ⟨f',fd',ps',F',a',b',c'⟩:=c2
  exact ⟨_,bd_ir (Cp.fn cp_ir nm_ir) hr.units (c1.cal hr h1) ⟨j2,f',fd',ps',F',hr.mono (of_decide_eq_true h2),a',b',c'⟩,rd_ir h⟩
noncomputable def s_are_unlike_by:Stmt:=sTm 27
theorem sc_au:FnScope N_au ["world", "rows"] (zAH s_are_unlike_by):=⟨rfl,rfl,rfl,by decide +kernel,rfl,by decide +kernel,by decide +kernel⟩
noncomputable abbrev CpU (X:Cx):Prop:=Cp X N_au G_au [0,1,2,3] [] [0,1,2,3] [0,1,2,3] [0,1,2]
theorem cp_au:cpB N_au G_au [0,1,2,3] [] [0,1,2,3] [0,1,2,3] [0,1,2] (zAH s_are_unlike_by)=true:=by kernel_rfl
theorem nm_au:nmB N_au G_au=true:=by kernel_rfl
theorem bd_au (S:CpU X) (R:Rm X) (hp:PassesOwn (model X.prog X.w) X.A X.env X.xe) (c1:Cal X "check_world" 1 m_check_world) (c2:Cal X "check_pair" 3 m_check_pair) (c3:CaIR X):PSs X (zA2 s_are_unlike_by) (tAU X.prog X.w X.K):=by
 have hu:X.A.units+2<cLine:=Nat.lt_of_le_of_lt (by omega) R
 refine zAJ (zCA (TQ.Q.p (TQ.w_cc S 0 rfl rfl c1 (TQ.w_da_cons (TQ.w_cv S 0 rfl rfl) TQ.w_da_nil (zAA rfl)) (zAA rfl) rfl)) rfl) ?_
 refine zAJ (zB1 hp S.calm (zB2 (nvU S 1 _ _ rfl rfl)) (nmU S 2 _ _ rfl rfl) (zAL (zCA (TQ.Q.p (TQ.w_cc S 1 rfl rfl c2 (TQ.w_da_cons (TQ.w_cv S 0 rfl rfl) (TQ.w_da_cons (TQ.w_de_idx (TQ.w_cv S 2 rfl rfl) TQ.w_de_int (fun _ _=>rfl)) (TQ.w_da_cons (TQ.w_de_idx (TQ.w_cv S 2 rfl rfl) TQ.w_de_int (fun _ _=>rfl)) TQ.w_da_nil (zAA rfl)) (zAA rfl)) (zAA rfl)) (zAA rfl) rfl)) rfl)) (fun _=>rfl)) ?_
 refine zAJ (stU S 3 rfl rfl (zE6 [false,false]) rfl) ?_
 refine zAJ (zB1 hp S.calm (zB2 (nvU S 1 _ _ rfl rfl)) (nmU S 2 _ _ rfl rfl) ?_ (fun _=>rfl)) (zAL (zBL pe_bl))
 refine zAJ (ps_if (zFM (zED (clU S 2 rfl rfl c3 (zAE (nvU S 0 _ _ rfl rfl) (zAE (nvU S 2 _ _ rfl rfl) (zAE (nvU S 3 _ _ rfl rfl) zAS (zAA rfl)) (zAA rfl)) (zAA rfl)) (zAA rfl) rfl (by decide)) (fun _=>rfl))) (zAL (zBL pe_bl)) zBM) ?_
 exact zAL (zF0 hu (nvU S 3 _ _ rfl rfl) (zCQ (zAE (ixU S 2 rfl rfl) (zAE (ixU S 2 rfl rfl) zAS (zAA rfl)) (zAA rfl))) pe_bl rfl)
theorem ok_are_unlike_by {P:Program} {w:World} {f:Addr} {j3 k:Nat} (F:Fun K "are_unlike_by" "are_unlike_by" s_are_unlike_by f fd) (hm:mg "are_unlike_by"=some (.ref f)) (b:Binds K fd ["world", "rows"] [])
  (c1:DefOk P w K mg base j1 "check_world" 1 m_check_world) (c2:DefOk P w K mg base j2 "check_pair" 3 m_check_pair) (c3:IrOk P w K mg base j3) (h1:decide (j1<=k)=true) (h2:decide (j2<=k)=true) (h3:decide (j3<=k)=true):DefOk P w K mg base (k+1) "are_unlike_by" 2 m_are_unlike_by:=by
 refine ⟨f,fd,_,F.ok sc_au (fun vs H Q E h=>h.1) (fun cdv A outer s H vs Q E hr h=>?_),hm,F.kp,b⟩
 obtain ⟨hl,O,ds,nd,inH,rs,w'⟩:=h
 cases e:m_are_unlike_by ds with
 | er c=>rw [e] at w';exact w'.elim
 | no=>rw [e] at w';exact w'.elim
 | ok p=>
  rw [e] at w'
  obtain ⟨wd,L,rfl,ok,hL,rfl⟩:=m_au_ok e
  obtain ⟨f',fd',ps',F',a',b',c'⟩:=c3
  exact ⟨_,bd_au (Cp.fn cp_au nm_au) hr.units PassesOwn.never (c1.cal hr h1) (c2.cal hr h2) ⟨j3,f',fd',ps',F',hr.mono (of_decide_eq_true h3),a',b',c'⟩,rd_au ok hL nd inH rs fun H' s=>w' _ H' [] ⟨s,(fun _ z=>nomatch z),(fun _ z=>nomatch z),nodup_nil,.leaf (.bl _),rfl⟩⟩
end KC.Ap
namespace T
open PySem PySem.Spec L2
open PyProof.Rows hiding St
variable {X:Cx}
theorem In.al {p:Fg->(Str->Option Value)->Prop} {P:Program} {w:World} {K:Fg} {mg:Str->Option Value} {base:Heap} {k j:Nat} (I:In p X P w K mg base k) (h:KC.AlOk P w K mg base j) (hj:decide (j<=k)=true:=by first | exact rfl | exact decide_eq_true (by omega)):KC.CaA X:=by
 obtain ⟨rfl,rfl,rfl,rfl,rfl,r,_⟩:=I
 obtain ⟨f,fd,ps,F,a,b,c⟩:=h
 exact ⟨j,f,fd,ps,F,r.mono (of_decide_eq_true hj),a,b,c⟩
theorem nvW {N gl:List Str} {vs cs ls lo gs:List Nat} (S:Cp X N gl vs cs ls lo gs) (i:Nat) (x:Str) (pos:Pos) (e:N[i]?=some x) (hi:vs.contains i=true):PE X (.Name x pos) (tVar i):=by
 have m:=S.nm x (mem_of_getElem? e)
 exact zCD (by rw [S.hN];exact e) (S.vis i x e hi) m.1 m.2
end T
namespace KC
open PySem PySem.Spec L2 T PySem.SeqAt
open PyProof.Rows hiding St
variable {iw ia ib:Nat} {o:Bool}
noncomputable def eAlkK (iw:Nat) (o:Bool) (ia ib:Nat):F1:=fun U=>match U[iw]?,U[ia]?,U[ib]? with
 | some (some ⟨.leaf,dw⟩),some (some ⟨.leaf,.int a⟩),some (some ⟨.leaf,.int b⟩)=>(match alkD dw o a b with
  | some d=>.ok ⟨.leaf,d⟩ U
  | none=>.no)
 | _,_,_=>.no
open Classical in
theorem v_alkK {U:Ev} {w:Wd} {i j:Nat} (ok:w.Ok) (hi:i<w.n) (hj:j<w.n) (h0:U[iw]?=some (some ⟨.leaf,w.enc⟩)) (h2:U[ia]?=some (some ⟨.leaf,rm i⟩)) (h3:U[ib]?=some (some ⟨.leaf,rm j⟩)):eAlkK iw o ia ib U=.ok ⟨.leaf,.bool (decide (Lk w o i j))⟩ U:=by
 unfold eAlkK
 rw [h0,h2,h3]
 show (match alkD w.enc o (i:Int) (j:Int) with | some d=>Out.ok (⟨.leaf,d⟩:PV) U | none=>.no)=_
 rw [den_alk ok hi hj]
open Classical in
theorem rd_alkK {P:Program} {w:World} {K:Fg} {W:XW} {σ:St} {H:Hp} {Q:VK} (h:tE K W (eAlkK iw o ia ib) σ H Q):zFK P w K (tCall (spAL P w K) [] L2.E0 (tCons (tVar iw) (tCons (tC (.bl o)) tNil))) (tTup (tCons (tVar ia) (tCons (tVar ib) tNil))) σ H Q:=by
 obtain ⟨He,O,Fs,U,E,h⟩:=h
 have h:Wants K W He O Fs H σ Q (eAlkK iw o ia ib U):=h
 unfold eAlkK at h
 split at h
 case h_2=>exact h.elim
 rename_i dw a b e0 e2 e3
 cases ea:alkD dw o a b with
 | none=>rw [ea] at h;exact h.elim
 | some dd=>
  rw [ea] at h
  have h:Wants K W He O Fs H σ Q (.ok ⟨.leaf,dd⟩ U):=h
  unfold alkD at ea
  split at ea
  case isFalse=>cases ea
  rename_i hx
  cases ea
  obtain ⟨ew,ok,a0,a1,b0,b1⟩:=hx.choose_spec
  obtain ⟨_,v0,F0,s0,_,o0⟩:=E.slot _ _ e0
  obtain ⟨_,v2,F2,s2,_,o2⟩:=E.slot _ _ e2
  obtain ⟨_,v3,F3,s3,_,o3⟩:=E.slot _ _ e3
  obtain ⟨i,rfl⟩:∃i:Nat,a=(i:Int):=⟨a.toNat,by omega⟩
  obtain ⟨j,rfl⟩:∃j:Nat,b=(j:Int):=⟨b.toNat,by omega⟩
  have hi:i<hx.choose.n:=by omega
  have hj:j<hx.choose.n:=by omega
  cases o0 with
  | leaf r0=>
   have r2:=o2.rep
   have r3:=o3.rep
   cases r2
   cases r3
   have r0':Rep K (hid H (O++Fs.flatten)) v0 hx.choose.enc:=by rw [<-ew];exact r0
   refine ⟨v0,s0,hx.choose,_,v0,o,rfl,ok,hid_le,r0',fun d H1 g sH hd hD bi=>⟨_,s2,_,s3,zC2,fun c hc=>⟨d,c,[false,false],_,ky i j,_,rfl,rfl,hD.grow (zAG hc),zC3,rfl,zEU (mem_psN.mpr ⟨hi,hj⟩),?_⟩⟩⟩
   have sA:=sH.trans (zAG (o:=.tup [.int (i:Int),.int (j:Int)]) hc)
   have eg:g i j=decide (Lk hx.choose o i j):=by
    rw [Bool.eq_iff_iff,bi.lk ok hi hj]
    simp
   rw [eg]
   exact h.scal (.bl _) sA (E.grow sA) (fun _ z=>z) E.ndO fun _ z=>.inl z
end KC
namespace TQ
open PySem PySem.Spec L2 T
open PyProof.Rows hiding St
theorem w_ce_alkK {X:Cx} {W:XW} {N gl:List Str} {vs cs ls lo gs:List Nat} {xw xa xb:Str} {p1 p2 p3 p4 p5 p6 p7 p8:Pos} {k0 k1:Nat} (S:Cp X N gl vs cs ls lo gs) (R:Rm X) (j:Nat) (hj:gl[j]?=some "_law_alike") (hj2:gs.contains j=true) (c:KC.CaA X) (iw:Nat) (o:Bool) (ia ib:Nat) (e0:N[iw]?=some xw) (v0:vs.contains iw=true) (e2:N[ia]?=some xa) (v2:vs.contains ia=true) (e3:N[ib]?=some xb) (v3:vs.contains ib=true) :
  Q (PE X (.Subscript (.Call (.Name "_law_alike" p1) [.Name xw p2,.Constant (.bool o) k0 p3] [] p4) (.Tuple [.Name xa p5,.Name xb p6] k1 p7) p8) (tE X.K W (KC.eAlkK iw o ia ib))):=by
 have hu:X.A.units+2<cLine:=Nat.lt_of_le_of_lt (by omega) R
 obtain ⟨k,f,fd,ps,F,hr,a1,a2,a3⟩:=c
 exact ⟨PEimp (zE7 hu (zEF F hr (S.g hj hj2).1 a1 a2 a3 .nil pass0 (zAE (nvW S iw _ _ e0 v0) (zAE pe_bl zAS (zAA rfl)) (zAA rfl)) (by decide) (zAA rfl) rfl) (zCQ (zAE (nvW S ia _ _ e2 v2) (zAE (nvW S ib _ _ e3 v3) zAS (zAA rfl)) (zAA rfl))) (fun _ _=>rfl)) fun σ H Q h=>KC.rd_alkK h⟩
end TQ
namespace KC.Ap.L
open PySem PySem.Spec L2 T
open PyProof.Rows hiding St
open KC
variable {a z:Int} {b:Bool} {fl:FL} {n:Nat} {L:List Row} {fa fb:F1} {ds:List D} {c:FB} {g:FS} {x12:Option PV}
noncomputable def d_unlike:FS:=(sSeq (sDrop (eCall 1 m_check_world (eCons (eVar 0) eNil)))
  (sSeq (sDrop (eCall 3 m_check_pair (eCons (eVar 0) (eCons (eVar 1) (eCons (eVar 2) eNil)))))
  (sRet (eCall 3 m_rows_for (eCons (eVar 0) (eCons (eVar 1) (eCons (eVar 2) eNil)))))))
noncomputable def m_unlike:List PySem.PyData->Res:=denOf 3 d_unlike
noncomputable def d__law_whole:FS:=(sRet (eAnd (eIsi "int" (eVar 0)) (eNot (eIsi "bool" (eVar 0)))))
noncomputable def m__law_whole:List PySem.PyData->Res:=denOf 1 d__law_whole
noncomputable def d__law_row_holds:FS:=(sSeq (sUnpN [5,6,7] (eVar 2))
  (sSeq (sIf (bOf gBool (eOp gEq (eIdx (eVar 7) (eK (.int 0))) (eK (.str "mark")))) (sRet (eOp gNe (eOp (gIn false) (eIdx (eVar 7) (eK (.int 1))) (eIdx (eIdx (eVar 0) (eK (.int 1))) (eVar 5))) (eOp (gIn false) (eIdx (eVar 7) (eK (.int 1))) (eIdx (eIdx (eVar 0) (eK (.int 1))) (eVar 6))))) sNext)
  (sSeq (sIf (bOf gBool (eOp (gIn true) (eIdx (eVar 7) (eK (.int 1))) (eTup (eCons (eK (.int 0)) (eCons (eK (.int 1)) eNil))))) (sRet (eK (.bool false))) sNext)
  (sSeq (sSet false 3 (eList .leaf (eCons (eVar 5) (eCons (eVar 6) eNil))))
  (sSeq (sIf (bOf gBool (eOp (gIn true) (eIdx (eVar 7) (eK (.int 2))) (eIdx (eIdx (eVar 0) (eK (.int 2))) (eIdx (eVar 3) (eIdx (eVar 7) (eK (.int 1))))))) (sRet (eK (.bool false))) sNext)
  (sSeq (sSet false 4 (eComp .leaf 8 (iSeq (eIdx (eIdx (eVar 0) (eK (.int 2))) (eVar 6))) bTrue (eTup (eCons (eIdx (eVar 7) (eK (.int 2))) (eCons (eVar 8) eNil)))))
  (sSeq (sIf (bOf gBool (eOp gEq (eIdx (eVar 7) (eK (.int 1))) (eK (.int 1)))) (sSet false 4 (eComp .leaf 8 (iSeq (eIdx (eIdx (eVar 0) (eK (.int 2))) (eVar 5))) bTrue (eTup (eCons (eVar 8) (eCons (eIdx (eVar 7) (eK (.int 2))) eNil))))) sNext)
  (sRet (eCB (gAll false) (eCons (eComp .leaf 9 (iSeq (eVar 4)) bTrue (eOp (gIn false) (eVar 9) (eVar 1))) eNil))))))))))
noncomputable def m__law_row_holds:List PySem.PyData->Res:=denOf 10 d__law_row_holds
noncomputable def d__law_hold:FS:=(sSeq (sSet true 2 (eList .leaf eNil))
  (sSeq (sFor 3 (iSeq (eVar 1))
  (sSeq (sIf (bNot (bOf gTru (eCall 3 m__law_row_holds (eCons (eVar 0) (eCons (eVar 2) (eCons (eVar 3) eNil)))))) (sRet (eK (.bool false))) sNext)
  (zAV 2 (eTup (eCons (eIdx (eVar 3) (eK (.int 0))) (eCons (eIdx (eVar 3) (eK (.int 1))) eNil))))))
  (sRet (eK (.bool true)))))
noncomputable def m__law_hold:List PySem.PyData->Res:=denOf 4 d__law_hold
noncomputable def d__law_formed_rows:FS:=(sSeq (sIf (bNot (bOf gTru (eIsi "list" (eVar 0)))) (sRet (eK (.bool false))) sNext)
  (sSeq (sFor 1 (iSeq (eVar 0))
  (sSeq (sIf (bOr (bNot (bOf gTru (eIsi "tuple" (eVar 1)))) (bOr (bOf gBool (eOp gNe (eCB gLen (eCons (eVar 1) eNil)) (eK (.int 3)))) (bOr (bNot (bOf gTru (eCall 1 m__law_whole (eCons (eIdx (eVar 1) (eK (.int 0))) eNil)))) (bNot (bOf gTru (eCall 1 m__law_whole (eCons (eIdx (eVar 1) (eK (.int 1))) eNil))))))) (sRet (eK (.bool false))) sNext)
  (sSeq (sSet false 2 (eIdx (eVar 1) (eK (.int 2))))
  (sSeq (sIf (bOr (bNot (bOf gTru (eIsi "tuple" (eVar 2)))) (bOf gBool (eOp (gIn true) (eIdx (eVar 2) (eK (.int 0))) (eTup (eCons (eK (.str "mark")) (eCons (eK (.str "step")) eNil)))))) (sRet (eK (.bool false))) sNext)
  (sSeq (sIf (bAnd (bOf gBool (eOp gEq (eIdx (eVar 2) (eK (.int 0))) (eK (.str "mark")))) (bOr (bOf gBool (eOp gNe (eCB gLen (eCons (eVar 2) eNil)) (eK (.int 2)))) (bNot (bOf gTru (eIsi "str" (eIdx (eVar 2) (eK (.int 1)))))))) (sRet (eK (.bool false))) sNext)
  (sIf (bAnd (bOf gBool (eOp gEq (eIdx (eVar 2) (eK (.int 0))) (eK (.str "step")))) (bOr (bOf gBool (eOp gNe (eCB gLen (eCons (eVar 2) eNil)) (eK (.int 3)))) (bOr (bNot (bOf gTru (eCall 1 m__law_whole (eCons (eIdx (eVar 2) (eK (.int 1))) eNil)))) (bNot (bOf gTru (eCall 1 m__law_whole (eCons (eIdx (eVar 2) (eK (.int 2))) eNil))))))) (sRet (eK (.bool false))) sNext))))))
  (sRet (eK (.bool true)))))
noncomputable def m__law_formed_rows:List PySem.PyData->Res:=denOf 3 d__law_formed_rows
noncomputable def d__law_spoilt:FS:=(sSeq (sSet false 3 (eOp gMod (eVar 1) (eK (.int 6))))
  (sSeq (sSet false 4 (eOp gMod (eOp gDiv (eVar 1) (eK (.int 6))) (eCB gMax (eCons (eK (.int 1)) (eCons (eCB gLen (eCons (eVar 0) eNil)) eNil)))))
  (sSeq (sSet false 5 (eIdx (eList .leaf (eCons (eTup (eCons (eK (.str "mark")) (eCons (eIdx (eK (.str "abf")) (eOp gMod (eOp gDiv (eVar 1) (eK (.int 60))) (eK (.int 3)))) eNil))) (eCons (eTup (eCons (eK (.str "step")) (eCons (eOp gSub (eOp gMod (eOp gDiv (eVar 1) (eK (.int 60))) (eK (.int 4))) (eK (.int 1))) (eCons (eOp gMod (eOp gDiv (eVar 1) (eK (.int 240))) (eOp gAddI (eVar 2) (eK (.int 1)))) eNil)))) eNil))) (eOp gMod (eOp gDiv (eVar 1) (eK (.int 30))) (eK (.int 2)))))
  (sSeq (sIf (bAnd (bOf gBool (eOp gEq (eVar 3) (eK (.int 0)))) (bOf gBool (eOp gGt (eCB gLen (eCons (eVar 0) eNil)) (eK (.int 0))))) (sPopD 0 (eVar 4)) sNext)
  (sSeq (sIf (bAnd (bOf gBool (eOp gEq (eVar 3) (eK (.int 1)))) (bOf gBool (eOp gGt (eCB gLen (eCons (eVar 0) eNil)) (eK (.int 1))))) (sInsP 0 (eVar 4)) sNext)
  (sSeq (sIf (bAnd (bOf gBool (eOp (gIn false) (eVar 3) (eTup (eCons (eK (.int 2)) (eCons (eK (.int 3)) eNil))))) (bOf gBool (eOp gGt (eCB gLen (eCons (eVar 0) eNil)) (eK (.int 0))))) (sSetI 0 (eTup (eCons (eIdx (eIdxO 0 (eVar 4)) (eK (.int 0))) (eCons (eIdx (eIdxO 0 (eVar 4)) (eK (.int 1))) (eCons (eVar 5) eNil)))) (eVar 4)) sNext)
  (sSeq (sIf (bOf gBool (eOp gEq (eVar 3) (eK (.int 4)))) (zAV 0 (eTup (eCons (eOp gMod (eOp gDiv (eVar 1) (eK (.int 960))) (eVar 2)) (eCons (eOp gMod (eOp gDiv (eVar 1) (eK (.int 6000))) (eVar 2)) (eCons (eVar 5) eNil))))) sNext)
  (sIf (bAnd (bOf gBool (eOp gEq (eVar 3) (eK (.int 5)))) (bOf gBool (eOp gGt (eCB gLen (eCons (eVar 0) eNil)) (eK (.int 0))))) (sSetI 0 (eTup (eCons (eIdx (eIdxO 0 (eVar 4)) (eK (.int 1))) (eCons (eIdx (eIdxO 0 (eVar 4)) (eK (.int 0))) (eCons (eIdx (eIdxO 0 (eVar 4)) (eK (.int 2))) eNil)))) (eVar 4)) sNext))))))))
noncomputable def m__law_spoilt:List PySem.PyData->Option (List PySem.PyData):=denL 6 [.lst .leaf,.leaf,.leaf] d__law_spoilt
noncomputable def d_law:FS:=(sSeq (sSet false 1 (eIdx (eList .leaf (eCons (eK (.int 6)) (eCons (eK (.int 6)) (eCons (eK (.int 6)) (eCons (eK (.int 11)) eNil))))) (eOp gMod (eCall 2 m__law_cell_at (eCons (eVar 0) (eCons (eK (.int 30)) eNil))) (eK (.int 4)))))
  (sSeq (sSet false 2 (eCall 3 m__law_like_world (eCons (eVar 0) (eCons (eK (.int 4)) (eCons (eVar 1) eNil)))))
  (sSeq (sSet false 3 (eCB gLen (eCons (eIdx (eVar 2) (eK (.int 0))) eNil)))
  (sSeq (sSet false 4 (eCall 2 m__law_cell_at (eCons (eVar 0) (eCons (eK (.int 0)) eNil))))
  (sSeq (sSet false 5 (eOp gMod (eVar 4) (eVar 3)))
  (sSeq (sSet false 6 (eOp gMod (eOp gDiv (eVar 4) (eK (.int 12))) (eVar 3)))
  (sSeq (sSet false 7 (eCall 1 m__law_twin (eCons (eVar 2) eNil)))
  (sSeq (sSet true 8 (eList .leaf eNil))
  (sSeq (sFor 9 (iR1 (eCons (eK (.int 2)) eNil))
  (sSeq (sSet true 12 (eCall 3 m_unlike (eCons (eVar 7) (eCons (eVar 5) (eCons (eVar 6) eNil)))))
  (sSeq (sIf (bOr (bOf gBool (eOp gNe (eOp (gIsN false) (eVar 12) (eK .none)) (eAlkK 2 false 5 6))) (bOf gBool (eOp gNe (eVar 7) (eVar 2)))) (sRet (eK (.bool false))) sNext)
  (sIf (bOf gBool (eOp (gIsN true) (eVar 12) (eK .none))) (sSeq (sIf (bOr (bNot (bOf gTru (eCall 1 m__law_formed_rows (eCons (eVar 12) eNil)))) (bOr (bNot (bOf gTru (eCall 2 m__law_hold (eCons (eVar 2) (eCons (eVar 12) eNil))))) (bOf gBool (eOp gNe (eSlV (eIdx (eVar 12) (eU gNeg (eK (.int 1)))) (eK (.int 2))) (eTup (eCons (eVar 5) (eCons (eVar 6) eNil))))))) (sRet (eK (.bool false))) sNext)
  (sSeq (sSet true 8 (zDL 12))
  (zAV 12 (eTup (eCons (eK (.int 0)) (eCons (eK (.int 0)) (eCons (eTup (eCons (eK (.str "mark")) (eCons (eK (.str "a")) eNil))) eNil))))))) sNext))))
  (sSeq (sFor 9 (iR1 (eCons (eOp gMod (eCall 2 m__law_cell_at (eCons (eVar 0) (eCons (eK (.int 1)) eNil))) (eK (.int 3))) eNil))
  (zDC 8 (eCons (eCall 2 m__law_cell_at (eCons (eVar 0) (eCons (eOp gAddI (eK (.int 2)) (eVar 9)) eNil))) (eCons (eVar 3) eNil)) m__law_spoilt))
  (sSeq (sSet false 10 (zDL 8))
  (sSeq (sSet false 11 (eCall 2 m_are_unlike_by (eCons (eVar 7) (eCons (eVar 10) eNil))))
  (sRet (eAnd (eIsi "bool" (eVar 11)) (eAnd (eOp gEq (eVar 11) (eCall 2 m__law_hold (eCons (eVar 2) (eCons (eVar 8) eNil)))) (eAnd (eOp gEq (eVar 10) (eVar 8)) (eOp gEq (eVar 7) (eVar 2))))))))))))))))))
noncomputable def m_law:List PySem.PyData->Res:=denOf 13 d_law
open PySem.SeqAt
theorem zFT {ga gb:FB} {U:Ev} (ha:ga U=.ok false U):bAnd ga gb U=.ok false U:=by unfold bAnd;rw [ha];rfl
theorem neB {a:Bool}:gNe (.bool a) (.bool b)=some (.bool (a != b)):=by cases a<;>cases b<;>kernel_rfl
theorem eqB {a:Bool}:gEq (.bool a) (.bool b)=some (.bool (a==b)):=by cases a<;>cases b<;>kernel_rfl
theorem zEZ {U U1:Ev} {ps:List PV} {d:D} {den:List D->Res} (hl:fl U=.ok ps U1) (hd:den (ps.map (·.d))=.ok ⟨.leaf,d⟩) (hn:ps.length=n) (hs:scalD d=true):eCall n den fl U=.ok ⟨.leaf,d⟩ U1:=by
 unfold eCall;rw [hl];simp only [Out.bind,hn,hd,hs,if_true]
 split<;>rfl
theorem zDM:m__law_whole [.int z]=.ok ⟨.leaf,.bool true⟩:=rt_of (x_ret (v_and (s:=.leaf) (a:=true) (b:=true) (v_isi (zAB rfl) rfl) (v_not (b:=false) (s:=.leaf) (v_isi (zAB rfl) rfl))) rfl)
theorem eqv_pr {p q:Nat×Nat}:PyData.eqv (prT p) (prT q)=(p==q):=by
 unfold prT
 simp only [PyData.eqv,PyData.eqvAll,rm,Bool.and_true]
 obtain ⟨a,b⟩:=p
 obtain ⟨c,d⟩:=q
 rw [Bool.eq_iff_iff]
 simp
 omega
theorem cl_prs:∀{L:List (Nat×Nat)},PyData.canLayAll0 (L.map prT)=true/\PyData.depthAll (L.map prT)<=1
 | []=>⟨rfl,Nat.zero_le _⟩
 | p::L=>by
  have q:=cl_prs (L:=L)
  refine ⟨by simp [prT,rm,PyData.canLayAll0,PyData.canLay0,q.1],?_⟩
  rw [map_cons,PyData.depthAll]
  refine Nat.max_le.mpr ⟨?_,q.2⟩
  simp [prT,rm,PyData.depth,PyData.depthAll]
theorem sh_prs {L:List (Nat×Nat)}:shaped (.list (L.map prT))=true:=by
 have q:=cl_prs (L:=L)
 unfold shaped
 rw [PyData.canLay0,q.1,Bool.true_and]
 exact decide_eq_true (by rw [PyData.depth];have:=q.2;omega)
theorem sh_pr {p:Nat×Nat}:shaped (prT p)=true:=by
 unfold shaped prT
 simp [rm,PyData.canLay0,PyData.canLayAll0,PyData.depth,PyData.depthAll]
theorem in_prs {L:List (Nat×Nat)} {p:Nat×Nat}:gIn false (prT p) (.list (L.map prT))=some (.bool (decide (p∈L))):=by
 show (if shaped (prT p)&&shaped (.list (L.map prT)) then some (PyData.bool (if false=true then _ else (L.map prT).any fun y=>PyData.eqv y (prT p))) else none)=_
 rw [sh_pr,sh_prs,Bool.and_self,if_pos rfl,if_neg Bool.false_ne_true]
 congr 2
 rw [Bool.eq_iff_iff,any_eq_true,decide_eq_true_eq]
 constructor
 ·rintro ⟨y,hy,e⟩
  obtain ⟨q,hq,rfl⟩:=List.mem_map.mp hy
  rw [eqv_pr] at e
  have:q=p:=by simpa using e
  rw [<-this];exact hq
 ·intro h
  exact ⟨prT p,List.mem_map.mpr ⟨p,h,rfl⟩,by rw [eqv_pr];simp⟩
theorem sh_encW {w:Wd} (ok:w.Ok):shaped w.enc=true:=by
 have h:=ok.g.wk (b:=24) ok.h24
 have o:=cl_I h.o
 have m:=cl_rows fun r hr=>let ⟨xs,e,q,_⟩:=h.m r hr;⟨xs,e,cl_S q⟩
 have s:=cl_rows fun r hr=>let ⟨xs,e,q,_⟩:=h.s r hr;⟨xs,e,cl_I q⟩
 have key:PyData.canLay0 w.enc=true/\PyData.depth w.enc<=3:=by
  simp only [Wd.enc,tup3,PyData.canLay0,PyData.canLayAll0,PyData.depth,PyData.depthAll,o.1,m.1,s.1,o.2,Bool.and_self,Bool.true_and,true_and]
  have:=m.2
  have:=s.2
  omega
 unfold shaped
 rw [key.1,Bool.true_and]
 exact decide_eq_true (by have:=key.2;omega)
theorem bls_map {α:Type} {f:α->Bool}:∀{xs:List α},zBP (xs.map fun x=>.bool (f x))=some (xs.map f)
 | []=>rfl
 | a::xs=>by
  rw [map_cons,zBP,bls_map (xs:=xs)]
  rfl
theorem all_map {α:Type} {f:α->Bool} {xs:List α}:gAll false [.list (xs.map fun x=>.bool (f x))]=some (.bool (xs.all f)):=by
 show Option.map _ (zBP _)=_
 rw [bls_map]
 simp [List.all_map]
section
variable {w:Wd} {T:List (Nat×Nat)} {i j:Nat} {rs:Rsn}
noncomputable abbrev GH (w:Wd) (T:List (Nat×Nat)) (i j:Nat) (rs:Rsn) (x3 x4:Option PV):Ev:=[some ⟨.leaf,w.enc⟩,some ⟨.leaf,.list (T.map prT)⟩,some ⟨.leaf,rowT ((i,j),rs)⟩,x3,x4,some ⟨.leaf,rm i⟩,some ⟨.leaf,rm j⟩,some ⟨.leaf,rsnT rs⟩,none,none]
theorem all_told {L:List (Nat×Nat)} (hL:L.length<=1000) {x3:Option PV}:eCB (gAll false) (eCons (eComp .leaf 9 (iSeq (eVar 4)) bTrue (eOp (gIn false) (eVar 9) (eVar 1))) eNil) (GH w T i j rs x3 (some ⟨.leaf,.list (L.map prT)⟩))=.ok ⟨.leaf,.bool (L.all fun p=>decide (p∈T))⟩ (GH w T i j rs x3 (some ⟨.leaf,.list (L.map prT)⟩)):=by
 have c:=zBK (U:=GH w T i j rs x3 (some ⟨.leaf,.list (L.map prT)⟩)) (s:=.leaf) (i:=9) (fi:=iSeq (eVar 4)) (fe:=eOp (gIn false) (eVar 9) (eVar 1)) prT L (fun p=>⟨.leaf,.bool (decide (p∈T))⟩) (st:=true) (w_seq (s:=.leaf) (zAB rfl) rfl) (by simp) rfl (by omega) fun p hp=>⟨v_op (zAB (i:=9) rfl) (zAB (i:=1) rfl) in_prs,rfl⟩
 exact v_cb (zAC c v_nil) all_map
theorem den_row_holds (ok:w.Ok) (hi:i<w.n) (hj:j<w.n) (hr:Rsk rs):m__law_row_holds [w.enc,.list (T.map prT),rowT ((i,j),rs)]=.ok ⟨.leaf,.bool (rowB w T ((i,j),rs))⟩:=by
 have s0:sUnpN [5,6,7] (eVar 2) (zAO 10 [w.enc,.list (T.map prT),rowT ((i,j),rs)])=.nx (GH w T i j rs none none):=rfl
 refine rt_of (x_seq s0 ?_)
 cases rs with
 | mk c=>
  have rv:∀x3 x4,eVar 7 (GH w T i j (.mk c) x3 x4)=.ok ⟨.leaf,rsnT (.mk c)⟩ (GH w T i j (.mk c) x3 x4):=fun _ _=>zAB rfl
  refine zC1 (x_if (t:=true) (zAK (s:=.leaf) (v_op (zAM (j:=0) (ds:=[.str "mark",.str c]) (rv _ _) (v_k (d:=.int 0)) rfl rfl rfl) (v_k (d:=.str "mark")) (by kernel_rfl))) (fun _=>?_) nofun)
  have c1:=zAM (j:=1) (ds:=[.str "mark",.str c]) (rv none none) (v_k (d:=.int 1)) rfl rfl rfl
  exact x_ret (v_op (v_op c1 (zGG ok (i:=0) (fb:=eVar 5) (s:=.leaf) rfl (zAB rfl) hi) (inTx hr (mk_ok ok))) (v_op c1 (zGG ok (i:=0) (fb:=eVar 6) (s:=.leaf) rfl (zAB rfl) hj) (inTx hr (mk_ok ok))) neBo) rfl
 | st s t=>
  have rv:∀x3 x4,eVar 7 (GH w T i j (.st s t) x3 x4)=.ok ⟨.leaf,rsnT (.st s t)⟩ (GH w T i j (.st s t) x3 x4):=fun _ _=>zAB rfl
  have c1:∀x3 x4,eIdx (eVar 7) (eK (.int 1)) (GH w T i j (.st s t) x3 x4)=.ok ⟨.leaf,.int s⟩ (GH w T i j (.st s t) x3 x4):=fun x3 x4=>zAM (j:=1) (ds:=[.str "step",.int s,.int t]) (rv x3 x4) (v_k (d:=.int 1)) rfl rfl rfl
  have c2:∀x3 x4,eIdx (eVar 7) (eK (.int 2)) (GH w T i j (.st s t) x3 x4)=.ok ⟨.leaf,.int t⟩ (GH w T i j (.st s t) x3 x4):=fun x3 x4=>zAM (j:=2) (ds:=[.str "step",.int s,.int t]) (rv x3 x4) (v_k (d:=.int 2)) rfl rfl rfl
  refine x_seq (x_if (t:=false) (zAK (s:=.leaf) (v_op (zAM (j:=0) (ds:=[.str "step",.int s,.int t]) (rv _ _) (v_k (d:=.int 0)) rfl rfl rfl) (v_k (d:=.str "mark")) (by kernel_rfl))) nofun (fun _=>rfl)) ?_
  have t1:=zAK (s:=.leaf) (v_op (c1 none none) (v_tup (zAC (v_k (d:=.int 0)) (zAC (v_k (d:=.int 1)) v_nil)) rfl rfl) in01)
  show _=OutS.rt ⟨.leaf,.bool (decide (s=0\/s=1)&&inS (w.stp (if s=0 then i else j)) t&&bsB w T i j s.toNat t.toNat)⟩
  by_cases hs:s=0\/s=1
  case neg=>
   rw [decide_eq_false hs] at t1 ⊢
   exact zC1 (x_if (t:=true) t1 (fun _=>x_ret v_k rfl) nofun)
  case pos=>
   rw [decide_eq_true hs] at t1 ⊢
   have hrn:(if s=0 then i else j)<w.n:=by split<;>assumption
   refine x_seq (x_if (t:=false) t1 nofun (fun _=>rfl)) ?_
   refine x_seq (U1:=GH w T i j (.st s t) (some ⟨.leaf,.list [rm i,rm j]⟩) none) (zA1 (zBZ (zAC (zAB (i:=5) rfl) (zAC (zAB (i:=6) rfl) v_nil)) rfl rfl rfl) rfl (by simp)) ?_
   have ix:∀x4,eIdx (eVar 3) (eIdx (eVar 7) (eK (.int 1))) (GH w T i j (.st s t) (some ⟨.leaf,.list [rm i,rm j]⟩) x4)=.ok ⟨.leaf,rm (if s=0 then i else j)⟩ (GH w T i j (.st s t) (some ⟨.leaf,.list [rm i,rm j]⟩) x4):=fun x4=>by
    rcases hs with rfl | rfl
    ·exact zB0 (j:=0) (zAB (i:=3) rfl) (c1 _ _) rfl rfl rfl
    ·exact zB0 (j:=1) (zAB (i:=3) rfl) (c1 _ _) rfl rfl rfl
   have t2:=zAK (s:=.leaf) (v_op (c2 _ _) (zC6 ok (i:=0) (s:=.leaf) rfl (ix none) hrn) ni_rms)
   cases eb:inS (w.stp (if s=0 then i else j)) t with
   | false=>
    rw [eb] at t2
    exact zC1 (x_if (t:=true) t2 (fun _=>x_ret v_k rfl) nofun)
   | true=>
    rw [eb] at t2
    refine x_seq (x_if (t:=false) t2 nofun (fun _=>rfl)) ?_
    obtain ⟨a,ha,rfl⟩:=inS_iff.mp eb
    have l1:=stp30 ok hi
    have l2:=stp30 ok hj
    have w1:=zBK (U:=GH w T i j (.st s (a:Int)) (some ⟨.leaf,.list [rm i,rm j]⟩) none) (s:=.leaf) (i:=8) (fi:=iSeq (eIdx (eIdx (eVar 0) (eK (.int 2))) (eVar 6))) (fe:=eTup (eCons (eIdx (eVar 7) (eK (.int 2))) (eCons (eVar 8) eNil))) rm (w.stp j) (fun b=>⟨.tup [.leaf,.leaf],prT (a,b)⟩) (st:=true) (w_seq (s:=.leaf) (zC6 ok (i:=0) (s:=.leaf) rfl (zAB (i:=6) rfl) hj) rfl) (by simp) rfl (by omega) fun b hb=>⟨v_tup (zAC (zAM (j:=2) (ds:=[.str "step",.int s,.int (a:Int)]) (zAB (i:=7) rfl) (v_k (d:=.int 2)) rfl rfl rfl) (zAC (zAB (i:=8) rfl) v_nil)) rfl rfl,rfl⟩
    refine x_seq (U1:=GH w T i j (.st s (a:Int)) (some ⟨.leaf,.list [rm i,rm j]⟩) (some ⟨.leaf,.list (((w.stp j).map fun b=>(a,b)).map prT)⟩)) ((zA1 (i:=4) w1 rfl (by simp)).trans (by rw [map_map];rfl)) ?_
    have t3:=zAK (s:=.leaf) (v_op (c1 (some ⟨.leaf,.list [rm i,rm j]⟩) (some ⟨.leaf,.list (((w.stp j).map fun b=>(a,b)).map prT)⟩)) (v_k (d:=.int 1)) (KC.eq_int (a:=s) (b:=1)))
    rcases hs with rfl | rfl
    ·refine x_seq (x_if (t:=false) t3 nofun (fun _=>rfl)) ?_
     show _=OutS.rt ⟨.leaf,.bool (((w.stp j).map fun b=>(a,b)).all fun p=>decide (p∈T))⟩
     exact x_ret (all_told (by rw [length_map];omega)) rfl
    ·have w2:=zBK (U:=GH w T i j (.st 1 (a:Int)) (some ⟨.leaf,.list [rm i,rm j]⟩) (some ⟨.leaf,.list (((w.stp j).map fun b=>(a,b)).map prT)⟩)) (s:=.leaf) (i:=8) (fi:=iSeq (eIdx (eIdx (eVar 0) (eK (.int 2))) (eVar 5))) (fe:=eTup (eCons (eVar 8) (eCons (eIdx (eVar 7) (eK (.int 2))) eNil))) rm (w.stp i) (fun b=>⟨.tup [.leaf,.leaf],prT (b,a)⟩) (st:=true) (w_seq (s:=.leaf) (zC6 ok (i:=0) (s:=.leaf) rfl (zAB (i:=5) rfl) hi) rfl) (by simp) rfl (by omega) fun b hb=>⟨v_tup (zAC (zAB (i:=8) rfl) (zAC (zAM (j:=2) (ds:=[.str "step",.int 1,.int (a:Int)]) (zAB (i:=7) rfl) (v_k (d:=.int 2)) rfl rfl rfl) v_nil)) rfl rfl,rfl⟩
     refine x_seq (U1:=GH w T i j (.st 1 (a:Int)) (some ⟨.leaf,.list [rm i,rm j]⟩) (some ⟨.leaf,.list (((w.stp i).map fun b=>(b,a)).map prT)⟩)) (x_if (t:=true) t3 (fun _=>(zA1 (i:=4) w2 rfl (by simp)).trans (by rw [show ((w.stp i).map fun b=>(b,a)).map prT=(w.stp i).map (fun x=>prT (x,a)) from by rw [map_map];rfl];rfl)) nofun) ?_
     show _=OutS.rt ⟨.leaf,.bool (((w.stp i).map fun b=>(b,a)).all fun p=>decide (p∈T))⟩
     exact x_ret (all_told (by rw [length_map];omega)) rfl
end
section
variable {w:Wd}
noncomputable abbrev GO (w:Wd) (L:List Row) (T:List (Nat×Nat)) (x3:Option PV):Ev:=[some ⟨.leaf,w.enc⟩,some ⟨.leaf,.list (L.map rowT)⟩,some ⟨.lst .leaf,.list (T.map prT)⟩,x3]
noncomputable abbrev bodyH:FS:=sSeq (sIf (bNot (bOf gTru (eCall 3 m__law_row_holds (eCons (eVar 0) (eCons (eVar 2) (eCons (eVar 3) eNil)))))) (sRet (eK (.bool false))) sNext)
  (zAV 2 (eTup (eCons (eIdx (eVar 3) (eK (.int 0))) (eCons (eIdx (eVar 3) (eK (.int 1))) eNil))))
theorem hold_go (ok:w.Ok) {L:List Row}:∀(rest:List Row) (T:List (Nat×Nat)) (x3:Option PV),(∀r∈rest,r.1.1<w.n/\r.1.2<w.n/\Rsk r.2)->T.length+rest.length<=900 ->
  (holdB w T rest=true/\∃T' x3',forGo 3 bodyH (rest.map rowT) (GO w L T x3)=.nx (GO w L T' x3'))\/(holdB w T rest=false/\forGo 3 bodyH (rest.map rowT) (GO w L T x3)=.rt ⟨.leaf,.bool false⟩)
 | [],T,x3,_,_=>.inl ⟨rfl,T,x3,rfl⟩
 | r::rest,T,x3,h,hn=>by
  obtain ⟨⟨i,j⟩,rs⟩:=r
  obtain ⟨hi,hj,hr⟩:=h _ mem_cons_self
  rw [length_cons] at hn
  rw [map_cons,forGo,if_pos (by simp),holdB]
  have d:=den_row_holds (T:=T) ok hi hj hr
  have e0:(GO w L T x3).set 3 (some ⟨.leaf,rowT ((i,j),rs)⟩)=GO w L T (some ⟨.leaf,rowT ((i,j),rs)⟩):=rfl
  rw [e0]
  have t:=b_not (b_tru (s:=.leaf) (zEZ (zAC (zAB (U:=GO w L T (some ⟨.leaf,rowT ((i,j),rs)⟩)) (i:=0) rfl) (zAC (v_lst (i:=2) rfl) (zAC (zAB (i:=3) rfl) v_nil))) d rfl rfl))
  cases eb:rowB w T ((i,j),rs) with
  | false=>
   rw [eb] at t
   right
   refine ⟨rfl,?_⟩
   rw [show bodyH (GO w L T (some ⟨.leaf,rowT ((i,j),rs)⟩))=.rt ⟨.leaf,.bool false⟩ from zC1 (x_if (t:=true) t (fun _=>x_ret v_k rfl) nofun)]
  | true=>
   rw [eb] at t
   have row:eVar 3 (GO w L T (some ⟨.leaf,rowT ((i,j),rs)⟩))=.ok ⟨.leaf,rowT ((i,j),rs)⟩ (GO w L T (some ⟨.leaf,rowT ((i,j),rs)⟩)):=zAB rfl
   have ap:=zCH (U:=GO w L T (some ⟨.leaf,rowT ((i,j),rs)⟩)) (i:=2) (s:=.leaf) (ds:=T.map prT) rfl (v_tup (zAC (zAM (j:=0) (ds:=[rm i,rm j,rsnT rs]) row (v_k (d:=.int 0)) rfl rfl rfl) (zAC (zAM (j:=1) (ds:=[rm i,rm j,rsnT rs]) row (v_k (d:=.int 1)) rfl rfl rfl) v_nil)) rfl rfl) rfl (by rw [length_map];omega)
   have b:bodyH (GO w L T (some ⟨.leaf,rowT ((i,j),rs)⟩))=.nx (GO w L (T++[(i,j)]) (some ⟨.leaf,rowT ((i,j),rs)⟩)):=x_seq (x_if (t:=false) t nofun (fun _=>rfl)) (ap.trans (by
    rw [show GO w L (T++[(i,j)]) (some ⟨.leaf,rowT ((i,j),rs)⟩)=[some ⟨.leaf,w.enc⟩,some ⟨.leaf,.list (L.map rowT)⟩,some ⟨.lst .leaf,.list (T.map prT++[prT (i,j)])⟩,some ⟨.leaf,rowT ((i,j),rs)⟩] from by unfold GO;rw [map_append];rfl]
    rfl))
   rw [b]
   exact hold_go ok rest (T++[(i,j)]) _ (fun r hr=>h r (mem_cons_of_mem _ hr)) (by simp;omega)
theorem den_hold (ok:w.Ok) (hL:RowsOk w L):m__law_hold [w.enc,.list (L.map rowT)]=.ok ⟨.leaf,.bool (holdB w [] L)⟩:=by
 have s0:sSet true 2 (eList .leaf eNil) (zAO 4 [w.enc,.list (L.map rowT)])=.nx (GO w L [] none):=zD4 (zBZ v_nil rfl rfl rfl) rfl (by simp [zAO])
 rcases hold_go ok (L:=L) L [] none hL.1 (by have:=hL.2;simp;omega) with ⟨e,T',x3',f⟩ | ⟨e,f⟩
 ·rw [e]
  exact rt_of (x_seq s0 (x_seq (x_for (w_seq (s:=.leaf) (zAB (i:=1) rfl) rfl) f) (x_ret v_k rfl)))
 ·rw [e]
  exact rt_of (x_seq s0 (zC1 (x_for (w_seq (s:=.leaf) (zAB (i:=1) rfl) rfl) f)))
noncomputable abbrev GF (L:List Row) (x1 x2:Option PV):Ev:=[some ⟨.leaf,.list (L.map rowT)⟩,x1,x2]
noncomputable abbrev bodyF:FS:=(sSeq (sIf (bOr (bNot (bOf gTru (eIsi "tuple" (eVar 1)))) (bOr (bOf gBool (eOp gNe (eCB gLen (eCons (eVar 1) eNil)) (eK (.int 3)))) (bOr (bNot (bOf gTru (eCall 1 m__law_whole (eCons (eIdx (eVar 1) (eK (.int 0))) eNil)))) (bNot (bOf gTru (eCall 1 m__law_whole (eCons (eIdx (eVar 1) (eK (.int 1))) eNil))))))) (sRet (eK (.bool false))) sNext)
  (sSeq (sSet false 2 (eIdx (eVar 1) (eK (.int 2))))
  (sSeq (sIf (bOr (bNot (bOf gTru (eIsi "tuple" (eVar 2)))) (bOf gBool (eOp (gIn true) (eIdx (eVar 2) (eK (.int 0))) (eTup (eCons (eK (.str "mark")) (eCons (eK (.str "step")) eNil)))))) (sRet (eK (.bool false))) sNext)
  (sSeq (sIf (bAnd (bOf gBool (eOp gEq (eIdx (eVar 2) (eK (.int 0))) (eK (.str "mark")))) (bOr (bOf gBool (eOp gNe (eCB gLen (eCons (eVar 2) eNil)) (eK (.int 2)))) (bNot (bOf gTru (eIsi "str" (eIdx (eVar 2) (eK (.int 1)))))))) (sRet (eK (.bool false))) sNext)
  (sIf (bAnd (bOf gBool (eOp gEq (eIdx (eVar 2) (eK (.int 0))) (eK (.str "step")))) (bOr (bOf gBool (eOp gNe (eCB gLen (eCons (eVar 2) eNil)) (eK (.int 3)))) (bOr (bNot (bOf gTru (eCall 1 m__law_whole (eCons (eIdx (eVar 2) (eK (.int 1))) eNil)))) (bNot (bOf gTru (eCall 1 m__law_whole (eCons (eIdx (eVar 2) (eK (.int 2))) eNil))))))) (sRet (eK (.bool false))) sNext)))))
theorem formed1 {r:Row} {x2:Option PV}:bodyF (GF L (some ⟨.leaf,rowT r⟩) x2)=.nx (GF L (some ⟨.leaf,rowT r⟩) (some ⟨.leaf,rsnT r.2⟩)):=by
 obtain ⟨⟨i,j⟩,rs⟩:=r
 have row:∀x2,eVar 1 (GF L (some ⟨.leaf,rowT ((i,j),rs)⟩) x2)=.ok ⟨.leaf,rowT ((i,j),rs)⟩ (GF L (some ⟨.leaf,rowT ((i,j),rs)⟩) x2):=fun _=>zAB rfl
 have r0:=zAM (j:=0) (ds:=[rm i,rm j,rsnT rs]) (row x2) (v_k (d:=.int 0)) rfl rfl rfl
 have r1:=zAM (j:=1) (ds:=[rm i,rm j,rsnT rs]) (row x2) (v_k (d:=.int 1)) rfl rfl rfl
 have r2:=zAM (j:=2) (ds:=[rm i,rm j,rsnT rs]) (row x2) (v_k (d:=.int 2)) rfl rfl rfl
 refine x_seq (x_if (t:=false) (b_or (a:=false) (b:=false) (b_not (b:=true) (b_tru (s:=.leaf) (v_isi (row x2) rfl))) (b_or (a:=false) (b:=false) (zAK (s:=.leaf) (v_op (v_cb (d:=.int 3) (zAC (row x2) v_nil) rfl) v_k (by rw [KC.ne_int];rfl))) (b_or (a:=false) (b:=false) (b_not (b:=true) (b_tru (s:=.leaf) (zAQ (zAC r0 v_nil) zDM rfl rfl))) (b_not (b:=true) (b_tru (s:=.leaf) (zAQ (zAC r1 v_nil) zDM rfl rfl)))))) nofun (fun _=>rfl)) ?_
 refine x_seq (U1:=GF L (some ⟨.leaf,rowT ((i,j),rs)⟩) (some ⟨.leaf,rsnT rs⟩)) (zA1 r2 rfl (by simp)) ?_
 have re:eVar 2 (GF L (some ⟨.leaf,rowT ((i,j),rs)⟩) (some ⟨.leaf,rsnT rs⟩))=.ok ⟨.leaf,rsnT rs⟩ (GF L (some ⟨.leaf,rowT ((i,j),rs)⟩) (some ⟨.leaf,rsnT rs⟩)):=zAB rfl
 cases rs with
 | mk c=>
  have a0:=zAM (j:=0) (ds:=[.str "mark",.str c]) re (v_k (d:=.int 0)) rfl rfl rfl
  have a1:=zAM (j:=1) (ds:=[.str "mark",.str c]) re (v_k (d:=.int 1)) rfl rfl rfl
  refine x_seq (x_if (t:=false) (b_or (a:=false) (b:=false) (b_not (b:=true) (b_tru (s:=.leaf) (v_isi re rfl))) (zAK (s:=.leaf) (v_op a0 (v_tup (zAC (v_k (d:=.str "mark")) (zAC (v_k (d:=.str "step")) v_nil)) rfl rfl) (by kernel_rfl)))) nofun (fun _=>rfl)) ?_
  refine x_seq (x_if (t:=false) (b_and (a:=true) (b:=false) (zAK (s:=.leaf) (v_op a0 (v_k (d:=.str "mark")) (by kernel_rfl))) (b_or (a:=false) (b:=false) (zAK (s:=.leaf) (v_op (v_cb (d:=.int 2) (zAC re v_nil) rfl) v_k (by rw [KC.ne_int];rfl))) (b_not (b:=true) (b_tru (s:=.leaf) (v_isi a1 rfl))))) nofun (fun _=>rfl)) ?_
  exact x_if (t:=false) (zFT (zAK (s:=.leaf) (v_op a0 (v_k (d:=.str "step")) (by kernel_rfl)))) nofun (fun _=>rfl)
 | st s t=>
  have a0:=zAM (j:=0) (ds:=[.str "step",.int s,.int t]) re (v_k (d:=.int 0)) rfl rfl rfl
  have a1:=zAM (j:=1) (ds:=[.str "step",.int s,.int t]) re (v_k (d:=.int 1)) rfl rfl rfl
  have a2:=zAM (j:=2) (ds:=[.str "step",.int s,.int t]) re (v_k (d:=.int 2)) rfl rfl rfl
  refine x_seq (x_if (t:=false) (b_or (a:=false) (b:=false) (b_not (b:=true) (b_tru (s:=.leaf) (v_isi re rfl))) (zAK (s:=.leaf) (v_op a0 (v_tup (zAC (v_k (d:=.str "mark")) (zAC (v_k (d:=.str "step")) v_nil)) rfl rfl) (by kernel_rfl)))) nofun (fun _=>rfl)) ?_
  refine x_seq (x_if (t:=false) (zFT (zAK (s:=.leaf) (v_op a0 (v_k (d:=.str "mark")) (by kernel_rfl)))) nofun (fun _=>rfl)) ?_
  exact x_if (t:=false) (b_and (a:=true) (b:=false) (zAK (s:=.leaf) (v_op a0 (v_k (d:=.str "step")) (by kernel_rfl))) (b_or (a:=false) (b:=false) (zAK (s:=.leaf) (v_op (v_cb (d:=.int 3) (zAC re v_nil) rfl) v_k (by rw [KC.ne_int];rfl))) (b_or (a:=false) (b:=false) (b_not (b:=true) (b_tru (s:=.leaf) (zAQ (zAC a1 v_nil) zDM rfl rfl))) (b_not (b:=true) (b_tru (s:=.leaf) (zAQ (zAC a2 v_nil) zDM rfl rfl)))))) nofun (fun _=>rfl)
theorem den_formed:m__law_formed_rows [.list (L.map rowT)]=.ok ⟨.leaf,.bool true⟩:=by
 obtain ⟨U',ef,x1,x2,rfl⟩:=zDK rowT (i:=1) (body:=bodyF) (Inv:=fun rest U=>∃x1 x2,U=GF L x1 x2) (fun r rest U h=>by
  obtain ⟨x1,x2,rfl⟩:=h
  exact ⟨by simp,_,formed1 (L:=L) (r:=r) (x2:=x2),_,_,rfl⟩) L (GF L none none) ⟨none,none,rfl⟩
 exact rt_of (x_seq (x_if (t:=false) (b_not (b:=true) (b_tru (s:=.leaf) (v_isi (zAB (i:=0) rfl) rfl))) nofun (fun _=>rfl)) (x_seq (x_for (w_seq (s:=.leaf) (zAB (i:=0) rfl) rfl) ef) (x_ret v_k rfl)))
end
noncomputable def kx (a:Int) (n:Nat):Nat:=(a % (n:Int)).toNat
theorem kx_is (hn:0<n):a % (n:Int)=(kx a n:Int)/\kx a n<n:=by
 have h1:0<=a % (n:Int):=Int.emod_nonneg _ (by omega)
 have h2:a % (n:Int)<n:=Int.emod_lt_of_pos _ (by omega)
 unfold kx
 omega
theorem zGZ {α β:Type} (h:α->β):∀(l:List α) (k:Nat),(l.eraseIdx k).map h=(l.map h).eraseIdx k
 | [],k=>by simp
 | a::l,0=>rfl
 | a::l,k+1=>by
  show h a::(l.eraseIdx k).map h=h a::(l.map h).eraseIdx k
  rw [zGZ h l k]
theorem v_mod {U:Ev} {s s':Sh} (ha:fa U=.ok ⟨s,.int a⟩ U) (hb:fb U=.ok ⟨s',.int (n:Int)⟩ U) (hn:0<n):eOp gMod fa fb U=.ok ⟨.leaf,rm (kx a n)⟩ U:=by
 have:=v_op (g:=gMod) ha hb (mod_i (a:=a) (b:=(n:Int)) (by omega))
 rw [(kx_is hn).1] at this
 exact this
theorem v_div {U:Ev} {s:Sh} {b:Int} (ha:fa U=.ok ⟨s,.int a⟩ U) (h1:0<b) (h2:b<1073741824):eOp gDiv fa (eK (.int b)) U=.ok ⟨.leaf,.int (a / b)⟩ U:=v_op ha (v_k (d:=.int b)) (div_i h1 h2)
theorem x_popD {U:Ev} {s:Sh} {i k:Nat} (h0:U[i]?=some (some ⟨.lst .leaf,.list ds⟩)) (hb:fb U=.ok ⟨s,rm k⟩ U) (hk:k<ds.length) (h1:k<1000):sPopD i fb U=.nx (U.set i (some ⟨.lst .leaf,.list (ds.eraseIdx k)⟩)):=by
 unfold sPopD
 have:zA8 U[i]?=true:=by rw [h0];rfl
 rw [if_pos this,hb]
 show popDK i ⟨s,.int (k:Int)⟩ U=_
 unfold popDK
 dsimp only
 rw [h0]
 dsimp only
 rw [if_pos (by simp [hk];omega)]
 simp
theorem x_insP {U:Ev} {s:Sh} {d:D} {i k:Nat} (h0:U[i]?=some (some ⟨.lst .leaf,.list ds⟩)) (hb:fb U=.ok ⟨s,rm k⟩ U) (hk:ds[k]?=some d) (h1:k<1000) (h2:ds.length<10000):sInsP i fb U=.nx (U.set i (some ⟨.lst .leaf,.list (d::ds.eraseIdx k)⟩)):=by
 unfold sInsP
 have:zA8 U[i]?=true:=by rw [h0];rfl
 rw [if_pos this,hb]
 show insPK i ⟨s,.int (k:Int)⟩ U=_
 unfold insPK
 dsimp only
 rw [h0]
 dsimp only
 rw [Int.toNat_natCast,hk]
 dsimp only
 rw [if_pos (by simp;omega)]
noncomputable abbrev GS (L:List Row) (z:Int) (n W A:Nat) (R:Rsn):Ev:=[some ⟨.lst .leaf,.list (L.map rowT)⟩,some ⟨.leaf,.int z⟩,some ⟨.leaf,.int (n:Int)⟩,some ⟨.leaf,rm W⟩,some ⟨.leaf,rm A⟩,some ⟨.leaf,rsnT R⟩]
noncomputable abbrev tW (k:Int):FB:=bOf gBool (eOp gEq (eVar 3) (eK (.int k)))
noncomputable abbrev tIn:FB:=bOf gBool (eOp (gIn false) (eVar 3) (eTup (eCons (eK (.int 2)) (eCons (eK (.int 3)) eNil))))
noncomputable abbrev tLn (k:Int):FB:=bOf gBool (eOp gGt (eCB gLen (eCons (eVar 0) eNil)) (eK (.int k)))
section
variable {L:List Row} {z:Int} {n W A:Nat} {R:Rsn}
theorem e_W {k:Int}:tW k (GS L z n W A R)=.ok ((W:Int)==k) (GS L z n W A R):=zAK (s:=.leaf) (v_op (zAB (i:=3) rfl) (v_k (d:=.int k)) KC.eq_int)
theorem in23 {s:Int}:gIn false (.int s) (.tuple [.int 2,.int 3])=some (.bool (decide (s=2\/s=3))):=by
 have h:=in_row (ts:=[2,3]) (i:=s)
 have e:gIn false (.int s) (.tuple [.int 2,.int 3])=gIn false (.int s) (.list [.int 2,.int 3]):=by
  have:shaped (.tuple [.int 2,.int 3])=shaped (.list [.int 2,.int 3]):=by kernel_rfl
  show (if (shaped (.int s)&&shaped (.tuple [.int 2,.int 3]))=true then some (PyData.bool (if false=true then !([.int 2,.int 3]:List D).any fun y=>PyData.eqv y (.int s) else ([.int 2,.int 3]:List D).any fun y=>PyData.eqv y (.int s))) else none)=_
  rw [this]
  rfl
 rw [e]
 refine h.trans ?_
 congr 2
 rw [Bool.eq_iff_iff,contains_iff_mem,decide_eq_true_eq]
 simp
theorem e_In:tIn (GS L z n W A R)=.ok (decide ((W:Int)=2\/(W:Int)=3)) (GS L z n W A R):=zAK (s:=.leaf) (v_op (zAB (i:=3) rfl) (v_tup (zAC (v_k (d:=.int 2)) (zAC (v_k (d:=.int 3)) v_nil)) rfl rfl) in23)
theorem e_len:eCB gLen (eCons (eVar 0) eNil) (GS L z n W A R)=.ok ⟨.leaf,.int (L.length:Int)⟩ (GS L z n W A R):=v_cb (zAC (v_lst (i:=0) rfl) v_nil) (by show some (PyData.int _)=_;simp)
theorem e_Ln {k:Int}:tLn k (GS L z n W A R)=.ok (decide (k<(L.length:Int))) (GS L z n W A R):=zAK (s:=.leaf) (v_op e_len (v_k (d:=.int k)) rfl)
theorem sk {U:Ev} (h:c U=.ok false U):sIf c g sNext U=.nx U:=x_if (t:=false) h nofun (fun _=>rfl)
theorem sk0 {k:Int} (h:((W:Int)==k)=false):sIf (bAnd (tW k) c) g sNext (GS L z n W A R)=.nx (GS L z n W A R):=sk (zFT (by rw [<-h];exact e_W))
theorem sk4 {k:Int} (h:((W:Int)==k)=false):sIf (tW k) g sNext (GS L z n W A R)=.nx (GS L z n W A R):=sk (by rw [<-h];exact e_W)
theorem skI (h:decide ((W:Int)=2\/(W:Int)=3)=false):sIf (bAnd tIn c) g sNext (GS L z n W A R)=.nx (GS L z n W A R):=sk (zFT (by rw [<-h];exact e_In))
theorem part {k:Int} (hc:c (GS L z n W A R)=.ok true (GS L z n W A R)) {L':List Row} (hg:k<(L.length:Int)->g (GS L z n W A R)=.nx (GS L' z n W A R)):∃M,(M=L\/(M=L'/\k<(L.length:Int)))/\sIf (bAnd c (tLn k)) g sNext (GS L z n W A R)=.nx (GS M z n W A R):=by
 by_cases h:k<(L.length:Int)
 ·exact ⟨L',.inr ⟨rfl,h⟩,x_if (t:=true) (b_and (a:=true) (b:=true) hc (by rw [<-decide_eq_true h];exact e_Ln)) (fun _=>hg h) nofun⟩
 ·exact ⟨L,.inl rfl,sk (b_and (a:=true) (b:=false) hc (by rw [<-decide_eq_false h];exact e_Ln))⟩
theorem it_ev (hA:A<L.length):eIdxO 0 (eVar 4) (GS L z n W A R)=.ok ⟨.leaf,rowT L[A]⟩ (GS L z n W A R):=v_idxO (j:=A) rfl (zAB (i:=4) rfl) (zFQ (by rw [length_map];exact hA)) (by rw [getElem?_map,getElem?_eq_getElem hA];rfl)
theorem zGR {f:F1} {r:Row} {s:Sh} (hA:A<L.length) (h:f (GS L z n W A R)=.ok ⟨s,rowT r⟩ (GS L z n W A R)) (hs:s.isView=false):sSetI 0 f (eVar 4) (GS L z n W A R)=.nx (GS (L.set A r) z n W A R):=by
 refine (x_setI (U:=GS L z n W A R) (i:=0) (j:=A) (ds:=L.map rowT) rfl h (zAB (i:=4) rfl) (zFQ (by rw [length_map];exact hA)) (by show (!s.isView||_)=true;rw [hs];rfl)).trans ?_
 rw [show GS (L.set A r) z n W A R=[some ⟨.lst .leaf,.list ((L.map rowT).set A (rowT r))⟩,some ⟨.leaf,.int z⟩,some ⟨.leaf,.int (n:Int)⟩,some ⟨.leaf,rm W⟩,some ⟨.leaf,rm A⟩,some ⟨.leaf,rsnT R⟩] from by unfold GS;rw [List.map_set]]
 rfl
end
theorem zFX {w:Wd} {A:Nat} {r:Row} (h:RowsOk w L) (hr:r.1.1<w.n/\r.1.2<w.n/\Rsk r.2):RowsOk w (L.set A r):=⟨fun x hx=>by
 rcases List.mem_or_eq_of_mem_set hx with y | y
 ·exact h.1 x y
 ·rw [y];exact hr,by rw [length_set];exact h.2⟩
theorem rsn_ev {U:Ev} (hz:eVar 1 U=.ok ⟨.leaf,.int z⟩ U) (hn:eVar 2 U=.ok ⟨.leaf,.int (n:Int)⟩ U):∃R,Rsk R/\eIdx (eList .leaf (eCons (eTup (eCons (eK (.str "mark")) (eCons (eIdx (eK (.str "abf")) (eOp gMod (eOp gDiv (eVar 1) (eK (.int 60))) (eK (.int 3)))) eNil))) (eCons (eTup (eCons (eK (.str "step")) (eCons (eOp gSub (eOp gMod (eOp gDiv (eVar 1) (eK (.int 60))) (eK (.int 4))) (eK (.int 1))) (eCons (eOp gMod (eOp gDiv (eVar 1) (eK (.int 240))) (eOp gAddI (eVar 2) (eK (.int 1)))) eNil)))) eNil))) (eOp gMod (eOp gDiv (eVar 1) (eK (.int 30))) (eK (.int 2))) U=.ok ⟨.leaf,rsnT R⟩ U:=by
 have a:∃c,PyData.strOk c=true/\eIdx (eK (.str "abf")) (eOp gMod (eOp gDiv (eVar 1) (eK (.int 60))) (eK (.int 3))) U=.ok ⟨.leaf,.str c⟩ U:=by
  have m:=v_mod (n:=3) (v_div hz (by omega:(0:Int)<60) (by omega)) (v_k (d:=.int 3)) (by omega)
  have hk:=(kx_is (a:=z / 60) (n:=3) (by omega)).2
  generalize kx (z / 60) 3=k at m hk
  match k,hk,m with
  | 0,_,m=>exact ⟨"a",by decide +kernel,zF9 (k:=0) (v_k (d:=.str "abf")) m (by decide) rfl⟩
  | 1,_,m=>exact ⟨"b",by decide +kernel,zF9 (k:=1) (v_k (d:=.str "abf")) m (by decide) rfl⟩
  | 2,_,m=>exact ⟨"f",by decide +kernel,zF9 (k:=2) (v_k (d:=.str "abf")) m (by decide) rfl⟩
 obtain ⟨c,hc,ec⟩:=a
 have e1:=v_op (v_mod (n:=4) (v_div hz (by omega:(0:Int)<60) (by omega)) (v_k (d:=.int 4)) (by omega)) (v_k (d:=.int 1)) (sub_int' (a:=(kx (z / 60) 4:Int)) (b:=1))
 have e2:=v_mod (n:=n+1) (v_div hz (by omega:(0:Int)<240) (by omega)) (v_op hn (v_k (d:=.int 1)) (zA7 (a:=(n:Int)) (b:=1))) (by omega)
 have l:=zBZ (s:=.leaf) (zAC (v_tup (zAC (v_k (d:=.str "mark")) (zAC ec v_nil)) rfl rfl) (zAC (v_tup (zAC (v_k (d:=.str "step")) (zAC e1 (zAC e2 v_nil))) rfl rfl) v_nil)) rfl rfl rfl
 have m:=v_mod (n:=2) (v_div hz (by omega:(0:Int)<30) (by omega)) (v_k (d:=.int 2)) (by omega)
 have hk:=(kx_is (a:=z / 30) (n:=2) (by omega)).2
 generalize kx (z / 30) 2=k at m hk
 match k,hk,m with
 | 0,_,m=>exact ⟨.mk c,hc,zB0 (j:=0) l m rfl rfl rfl⟩
 | 1,_,m=>exact ⟨.st ((kx (z / 60) 4:Int)-1) (kx (z / 240) (n+1):Int),True.intro,zB0 (j:=1) l m rfl rfl rfl⟩
theorem den_spoilt {w:Wd} (hw:1<=w.n) (hL:RowsOk w L) (hn:L.length<=800):∃L',m__law_spoilt [.list (L.map rowT),.int z,.int (w.n:Int)]=some [.list (L'.map rowT),.int z,.int (w.n:Int)]/\RowsOk w L'/\L'.length<=L.length+1:=by
 let n:=w.n
 let U0:Ev:=[some ⟨.lst .leaf,.list (L.map rowT)⟩,some ⟨.leaf,.int z⟩,some ⟨.leaf,.int (n:Int)⟩,none,none,none]
 obtain ⟨eW,hW⟩:=kx_is (a:=z) (n:=6) (by omega)
 generalize kx z 6=W at eW hW
 have s1:sSet false 3 (eOp gMod (eVar 1) (eK (.int 6))) U0=.nx (U0.set 3 (some ⟨.leaf,rm W⟩)):=by
  have:=zA1 (i:=3) (v_op (g:=gMod) (zAB (U:=U0) (i:=1) (d:=.int z) rfl) (v_k (d:=.int 6)) (mod_i (a:=z) (b:=6) (by omega))) rfl (by simp [U0])
  rw [show z % 6=(W:Int) from eW] at this
  exact this
 let U1:Ev:=[some ⟨.lst .leaf,.list (L.map rowT)⟩,some ⟨.leaf,.int z⟩,some ⟨.leaf,.int (n:Int)⟩,some ⟨.leaf,rm W⟩,none,none]
 have hm:0<max 1 L.length:=by omega
 have mx:eCB gMax (eCons (eK (.int 1)) (eCons (eCB gLen (eCons (eVar 0) eNil)) eNil)) U1=.ok ⟨.leaf,.int ((max 1 L.length:Nat):Int)⟩ U1:=by
  refine v_cb (zAC (v_k (d:=.int 1)) (zAC (v_cb (d:=.int (L.length:Int)) (zAC (v_lst (i:=0) rfl) v_nil) (by show some (PyData.int _)=_;simp)) v_nil)) ?_
  show some (PyData.int (if (L.length:Int)>1 then (L.length:Int) else 1))=_
  congr 2
  split<;>omega
 have at':=v_mod (v_div (zAB (U:=U1) (i:=1) (d:=.int z) rfl) (by omega:(0:Int)<6) (by omega)) mx hm
 obtain ⟨_,hA⟩:=kx_is (a:=z / 6) hm
 generalize kx (z / 6) (max 1 L.length)=A at at' hA
 have s2:sSet false 4 (eOp gMod (eOp gDiv (eVar 1) (eK (.int 6))) (eCB gMax (eCons (eK (.int 1)) (eCons (eCB gLen (eCons (eVar 0) eNil)) eNil)))) U1=.nx (U1.set 4 (some ⟨.leaf,rm A⟩)):=zA1 at' rfl (by simp [U1])
 let U2:Ev:=[some ⟨.lst .leaf,.list (L.map rowT)⟩,some ⟨.leaf,.int z⟩,some ⟨.leaf,.int (n:Int)⟩,some ⟨.leaf,rm W⟩,some ⟨.leaf,rm A⟩,none]
 obtain ⟨R,hR,eR⟩:=rsn_ev (U:=U2) (z:=z) (n:=n) (zAB rfl) (zAB rfl)
 have s3:=zA1 (i:=5) eR rfl (by simp [U2])
 have hAl:∀{k:Int},0<=k->k<(L.length:Int)->A<L.length:=fun h0 h=>by omega
 suffices key:∃L',(sSeq (sIf (bAnd (tW 0) (tLn 0)) (sPopD 0 (eVar 4)) sNext)
  (sSeq (sIf (bAnd (tW 1) (tLn 1)) (sInsP 0 (eVar 4)) sNext)
  (sSeq (sIf (bAnd tIn (tLn 0)) (sSetI 0 (eTup (eCons (eIdx (eIdxO 0 (eVar 4)) (eK (.int 0))) (eCons (eIdx (eIdxO 0 (eVar 4)) (eK (.int 1))) (eCons (eVar 5) eNil)))) (eVar 4)) sNext)
  (sSeq (sIf (tW 4) (zAV 0 (eTup (eCons (eOp gMod (eOp gDiv (eVar 1) (eK (.int 960))) (eVar 2)) (eCons (eOp gMod (eOp gDiv (eVar 1) (eK (.int 6000))) (eVar 2)) (eCons (eVar 5) eNil))))) sNext)
  (sIf (bAnd (tW 5) (tLn 0)) (sSetI 0 (eTup (eCons (eIdx (eIdxO 0 (eVar 4)) (eK (.int 1))) (eCons (eIdx (eIdxO 0 (eVar 4)) (eK (.int 0))) (eCons (eIdx (eIdxO 0 (eVar 4)) (eK (.int 2))) eNil)))) (eVar 4)) sNext))))) (GS L z n W A R)=.nx (GS L' z n W A R)/\RowsOk w L'/\L'.length<=L.length+1 by
  obtain ⟨L',e,h1,h2⟩:=key
  refine ⟨L',?_,h1,h2⟩
  have all:d__law_spoilt U0=.nx (GS L' z n W A R):=x_seq s1 (x_seq (U1:=U2) s2 (x_seq (U1:=GS L z n W A R) s3 e))
  show denL 6 ssI d__law_spoilt _=_
  unfold denL
  have st:zDW 6 ssI [.list (L.map rowT),.int z,.int (w.n:Int)]=U0:=rfl
  rw [st,all]
  rfl
 have row:∀(W:Nat) (h:A<L.length) (k:Nat) (d:D),[rm L[A].1.1,rm L[A].1.2,rsnT L[A].2][k]?=some d->k<3->eIdx (eIdxO 0 (eVar 4)) (eK (.int (k:Int))) (GS L z n W A R)=.ok ⟨.leaf,d⟩ (GS L z n W A R):=fun W h k d hd hk=>zAM (j:=k) (ds:=[rm L[A].1.1,rm L[A].1.2,rsnT L[A].2]) (it_ev h) (v_k (d:=.int (k:Int))) (zFQ (by simpa using hk)) hd rfl
 match W,hW with
 | 0,_=>
  obtain ⟨M,hM,e⟩:=part (L:=L) (z:=z) (n:=n) (W:=0) (A:=A) (R:=R) (k:=0) (c:=tW 0) (g:=sPopD 0 (eVar 4)) (L':=L.eraseIdx A) e_W (fun h=>(x_popD (i:=0) (ds:=L.map rowT) rfl (zAB (i:=4) rfl) (by rw [length_map];omega) (by omega)).trans (by rw [<-zGZ];rfl))
  refine ⟨M,x_seq e (x_seq (sk0 rfl) (x_seq (skI rfl) (x_seq (sk4 rfl) (sk0 rfl)))),?_⟩
  rcases hM with rfl | ⟨rfl,h⟩
  ·exact ⟨hL,by omega⟩
  ·have:(L.eraseIdx A).length<=L.length:=by rw [length_eraseIdx];split<;>omega
   exact ⟨⟨fun r hr=>hL.1 r (List.mem_of_mem_eraseIdx hr),by have:=hL.2;omega⟩,by omega⟩
 | 1,_=>
  by_cases h1:1<(L.length:Int)
  ·have hAL:A<L.length:=by omega
   obtain ⟨M,hM,e⟩:=part (L:=L) (z:=z) (n:=n) (W:=1) (A:=A) (R:=R) (k:=1) (c:=tW 1) (g:=sInsP 0 (eVar 4)) (L':=L[A]::L.eraseIdx A) e_W (fun h=>(x_insP (i:=0) (ds:=L.map rowT) (d:=rowT L[A]) rfl (zAB (i:=4) rfl) (by rw [getElem?_map,getElem?_eq_getElem hAL];rfl) (by omega) (by rw [length_map];omega)).trans (by rw [<-zGZ];rfl))
   refine ⟨M,x_seq (sk0 rfl) (x_seq e (x_seq (skI rfl) (x_seq (sk4 rfl) (sk0 rfl)))),?_⟩
   rcases hM with rfl | ⟨rfl,h⟩
   ·exact ⟨hL,by omega⟩
   ·have:(L.eraseIdx A).length<=L.length:=by rw [length_eraseIdx];split<;>omega
    refine ⟨⟨fun r hr=>?_,by rw [length_cons];omega⟩,by rw [length_cons];omega⟩
    rcases List.mem_cons.mp hr with y | y
    ·rw [y];exact hL.1 _ (getElem_mem _)
    ·exact hL.1 r (List.mem_of_mem_eraseIdx y)
  ·exact ⟨L,x_seq (sk0 rfl) (x_seq (sk (b_and (a:=true) (b:=false) e_W (by rw [<-decide_eq_false h1];exact e_Ln))) (x_seq (skI rfl) (x_seq (sk4 rfl) (sk0 rfl)))),hL,by omega⟩
 | W+2,hW=>
 by_cases hp:0<(L.length:Int)
 case neg=>
  have noL:∀{c:FB} {g:FS} {b:Bool} {W:Nat},c (GS L z n W A R)=.ok b (GS L z n W A R)->sIf (bAnd c (tLn 0)) g sNext (GS L z n W A R)=.nx (GS L z n W A R):=fun {c g b W} hc=>by
   cases b with
   | false=>exact sk (zFT hc)
   | true=>exact sk (b_and (a:=true) (b:=false) hc (by rw [<-decide_eq_false hp];exact e_Ln))
  have n1:∀{W:Nat},sIf (bAnd (tW 1) (tLn 1)) (sInsP 0 (eVar 4)) sNext (GS L z n W A R)=.nx (GS L z n W A R):=fun {W}=>by
   cases e:((W:Int)==1) with
   | false=>exact sk0 e
   | true=>exact sk (b_and (a:=true) (b:=false) (by rw [<-e];exact e_W) (by rw [<-decide_eq_false (show ¬(1:Int)<(L.length:Int) by omega)];exact e_Ln))
  have ap:=zCH (U:=GS L z n (W+2) A R) (i:=0) (s:=.leaf) (ds:=L.map rowT) rfl (v_tup (zAC (v_mod (v_div (zAB (i:=1) rfl) (by omega:(0:Int)<960) (by omega)) (zAB (i:=2) rfl) (n:=n) (by omega)) (zAC (v_mod (v_div (zAB (i:=1) rfl) (by omega:(0:Int)<6000) (by omega)) (zAB (i:=2) rfl) (n:=n) (by omega)) (zAC (zAB (i:=5) rfl) v_nil))) rfl rfl) rfl (by rw [length_map];omega)
  cases e4:(((W+2:Nat):Int)==4) with
  | false=>exact ⟨L,x_seq (noL e_W) (x_seq n1 (x_seq (noL e_In) (x_seq (sk4 e4) (noL e_W)))),hL,by omega⟩
  | true=>
   have e5:(((W+2:Nat):Int)==5)=false:=by
    have:((W+2:Nat):Int)=4:=by simpa using e4
    rw [this];rfl
   refine ⟨L++[((kx (z / 960) n,kx (z / 6000) n),R)],x_seq (noL e_W) (x_seq n1 (x_seq (noL e_In) (x_seq (U1:=GS (L++[((kx (z / 960) n,kx (z / 6000) n),R)]) z n (W+2) A R) (x_if (t:=true) (by rw [<-e4];exact e_W) (fun _=>ap.trans ?_) nofun) (sk0 e5)))),⟨fun r hr=>?_,?_⟩,?_⟩
   ·rw [show GS (L++[((kx (z / 960) n,kx (z / 6000) n),R)]) z n (W+2) A R=[some ⟨.lst .leaf,.list (L.map rowT++[rowT ((kx (z / 960) n,kx (z / 6000) n),R)])⟩,some ⟨.leaf,.int z⟩,some ⟨.leaf,.int (n:Int)⟩,some ⟨.leaf,rm (W+2)⟩,some ⟨.leaf,rm A⟩,some ⟨.leaf,rsnT R⟩] from by unfold GS;rw [map_append];rfl]
    rfl
   ·rcases List.mem_append.mp hr with y | y
    ·exact hL.1 r y
    ·rw [List.mem_singleton.mp y]
     exact ⟨(kx_is hw).2,(kx_is hw).2,hR⟩
   ·simp;omega
   ·simp
 case pos=>
  have hAL:A<L.length:=by omega
  have d0:∀W,eIdx (eIdxO 0 (eVar 4)) (eK (.int 0)) (GS L z n W A R)=.ok ⟨.leaf,rm L[A].1.1⟩ (GS L z n W A R):=fun W=>row W hAL 0 _ rfl (by omega)
  have d1:∀W,eIdx (eIdxO 0 (eVar 4)) (eK (.int 1)) (GS L z n W A R)=.ok ⟨.leaf,rm L[A].1.2⟩ (GS L z n W A R):=fun W=>row W hAL 1 _ rfl (by omega)
  have d2:∀W,eIdx (eIdxO 0 (eVar 4)) (eK (.int 2)) (GS L z n W A R)=.ok ⟨.leaf,rsnT L[A].2⟩ (GS L z n W A R):=fun W=>row W hAL 2 _ rfl (by omega)
  have hLA:=hL.1 _ (getElem_mem hAL)
  have pt:∀W,tLn 0 (GS L z n W A R)=.ok true (GS L z n W A R):=fun W=>by rw [<-decide_eq_true hp];exact e_Ln
  match W,hW with
  | 0,_=>exact ⟨L.set A ((L[A].1.1,L[A].1.2),R),x_seq (sk0 rfl) (x_seq (sk0 rfl) (x_seq (x_if (t:=true) (b_and (a:=true) (b:=true) e_In (pt _)) (fun _=>zGR (s:=.tup [.leaf,.leaf,.leaf]) hAL (v_tup (zAC (d0 _) (zAC (d1 _) (zAC (zAB (i:=5) rfl) v_nil))) rfl rfl) rfl) nofun) (x_seq (sk4 rfl) (sk0 rfl)))),zFX hL ⟨hLA.1,hLA.2.1,hR⟩,by rw [length_set];omega⟩
  | 1,_=>exact ⟨L.set A ((L[A].1.1,L[A].1.2),R),x_seq (sk0 rfl) (x_seq (sk0 rfl) (x_seq (x_if (t:=true) (b_and (a:=true) (b:=true) e_In (pt _)) (fun _=>zGR (s:=.tup [.leaf,.leaf,.leaf]) hAL (v_tup (zAC (d0 _) (zAC (d1 _) (zAC (zAB (i:=5) rfl) v_nil))) rfl rfl) rfl) nofun) (x_seq (sk4 rfl) (sk0 rfl)))),zFX hL ⟨hLA.1,hLA.2.1,hR⟩,by rw [length_set];omega⟩
  | 2,_=>
   have ap:=zCH (U:=GS L z n 4 A R) (i:=0) (s:=.leaf) (ds:=L.map rowT) rfl (v_tup (zAC (v_mod (v_div (zAB (i:=1) rfl) (by omega:(0:Int)<960) (by omega)) (zAB (i:=2) rfl) (n:=n) (by omega)) (zAC (v_mod (v_div (zAB (i:=1) rfl) (by omega:(0:Int)<6000) (by omega)) (zAB (i:=2) rfl) (n:=n) (by omega)) (zAC (zAB (i:=5) rfl) v_nil))) rfl rfl) rfl (by rw [length_map];omega)
   refine ⟨L++[((kx (z / 960) n,kx (z / 6000) n),R)],x_seq (sk0 rfl) (x_seq (sk0 rfl) (x_seq (skI rfl) (x_seq (U1:=GS (L++[((kx (z / 960) n,kx (z / 6000) n),R)]) z n 4 A R) (x_if (t:=true) e_W (fun _=>ap.trans ?_) nofun) (sk0 rfl)))),⟨fun r hr=>?_,?_⟩,?_⟩
   ·rw [show GS (L++[((kx (z / 960) n,kx (z / 6000) n),R)]) z n 4 A R=[some ⟨.lst .leaf,.list (L.map rowT++[rowT ((kx (z / 960) n,kx (z / 6000) n),R)])⟩,some ⟨.leaf,.int z⟩,some ⟨.leaf,.int (n:Int)⟩,some ⟨.leaf,rm 4⟩,some ⟨.leaf,rm A⟩,some ⟨.leaf,rsnT R⟩] from by unfold GS;rw [map_append];rfl]
    rfl
   ·rcases List.mem_append.mp hr with y | y
    ·exact hL.1 r y
    ·rw [List.mem_singleton.mp y]
     exact ⟨(kx_is hw).2,(kx_is hw).2,hR⟩
   ·simp;omega
   ·simp
  | 3,_=>exact ⟨L.set A ((L[A].1.2,L[A].1.1),L[A].2),x_seq (sk0 rfl) (x_seq (sk0 rfl) (x_seq (skI rfl) (x_seq (sk4 rfl) (x_if (t:=true) (b_and (a:=true) (b:=true) e_W (pt _)) (fun _=>zGR (s:=.tup [.leaf,.leaf,.leaf]) hAL (v_tup (zAC (d1 _) (zAC (d0 _) (zAC (d2 _) v_nil))) rfl rfl) rfl) nofun)))),zFX hL ⟨hLA.2.1,hLA.1,hLA.2.2⟩,by rw [length_set];omega⟩
theorem v_listO {U:Ev} {i:Nat} (h:U[i]?=some (some ⟨.lst .leaf,.list ds⟩)):zDL i U=.ok ⟨.lst .leaf,.list ds⟩ U:=by
 unfold zDL
 have:zA8 U[i]?=true:=by rw [h];rfl
 rw [if_pos this,h]
theorem x_lentI {U:Ev} {i:Nat} {den:List D->Option (List D)} {s1 s2:Sh} {b:Int} {ds':List D} {x y:D} (h0:U[i]?=some (some ⟨.lst .leaf,.list ds⟩)) (hl:fl U=.ok [⟨s1,.int a⟩,⟨s2,.int b⟩] U) (hd:den [.list ds,.int a,.int b]=some [.list ds',x,y]):zDC i fl den U=.nx (U.set i (some ⟨.lst .leaf,.list ds'⟩)):=by
 unfold zDC
 have:zA8 U[i]?=true:=by rw [h0];rfl
 rw [if_pos this,hl]
 show lentK i den _ U=_
 unfold lentK
 rw [h0]
 dsimp only
 rw [hd]
theorem cl_row {r:Row} (h:Rsk r.2):PyData.canLay0 (rowT r)=true/\PyData.depth (rowT r)<=2:=by
 obtain ⟨⟨i,j⟩,rs⟩:=r
 cases rs with
 | mk c=>
  have hc:PyData.strOk c=true:=h
  have hm:PyData.strOk "mark"=true:=by decide +kernel
  refine ⟨by simp [rowT,rsnT,rm,PyData.canLay0,PyData.canLayAll0,hc,hm],by simp [rowT,rsnT,rm,PyData.depth,PyData.depthAll]⟩
 | st s t=>
  have hm:PyData.strOk "step"=true:=by decide +kernel
  refine ⟨by simp [rowT,rsnT,rm,PyData.canLay0,PyData.canLayAll0,hm],by simp [rowT,rsnT,rm,PyData.depth,PyData.depthAll]⟩
theorem cl_rws:∀{L:List Row},(∀r∈L,Rsk r.2)->PyData.canLayAll0 (L.map rowT)=true/\PyData.depthAll (L.map rowT)<=2
 | [],_=>⟨rfl,Nat.zero_le _⟩
 | r::L,h=>by
  have q:=cl_rws (L:=L) fun x hx=>h x (mem_cons_of_mem _ hx)
  have p:=cl_row (h r mem_cons_self)
  rw [map_cons,PyData.canLayAll0,PyData.depthAll]
  exact ⟨by rw [p.1,q.1];rfl,Nat.max_le.mpr ⟨p.2,q.2⟩⟩
theorem sh_rws {w:Wd} (h:RowsOk w L):shaped (.list (L.map rowT))=true:=by
 have q:=cl_rws (L:=L) fun r hr=>(h.1 r hr).2.2
 unfold shaped
 rw [PyData.canLay0,q.1,Bool.true_and]
 exact decide_eq_true (by rw [PyData.depth];have:=q.2;omega)
theorem rowB_rsk {w:Wd} (ok:w.Ok) {ks:List (Nat×Nat)} {r:Row} (h:rowB w ks r=true):Rsk r.2:=by
 unfold rowB at h
 split at h
 ·rename_i c e
  rw [e]
  show PyData.strOk c=true
  unfold bmB at h
  cases e1:(w.mks r.1.1).contains c with
  | true=>exact mk_ok ok c (List.contains_iff_mem.mp e1)
  | false=>
   cases e2:(w.mks r.1.2).contains c with
   | true=>exact mk_ok ok c (List.contains_iff_mem.mp e2)
   | false=>rw [e1,e2] at h;cases h
 ·rename_i s t e;rw [e];exact True.intro
theorem rwf_rows {w:Wd} (ok:w.Ok) {i j:Nat} (h:(i,j)∈(knw w).map (·.1)):RowsOk w (rwf w i j):=by
 obtain ⟨_,h2,h3,_⟩:=rwf_ok ok h
 obtain ⟨I,_⟩:=zDX ok
 refine ⟨fun r hr=>⟨(h2 r hr).1,(h2 r hr).2,?_⟩,by omega⟩
 obtain ⟨k,hk,e⟩:=getElem_of_mem (List.mem_filter.mp hr).1
 exact rowB_rsk ok (I.ok k r (by rw [getElem?_eq_getElem hk,e]))
theorem rwR_nv {w:Wd} {i j:Nat}:(rwR w i j).s.isView=false:=by unfold rwR;split<;>rfl
theorem den_unlike {w:Wd} {i j:Nat} (ok:w.Ok) (hi:i<w.n) (hj:j<w.n):m_unlike [w.enc,rm i,rm j]=.ok (rwR w i j):=by
 have drop:∀{fa:F1} {p:PV} {U:Ev},fa U=.ok p U->sDrop fa U=.nx U:=fun h=>by unfold sDrop sOf;rw [h]
 exact rt_of (x_seq (drop (zAQ (U:=zAO 3 [w.enc,rm i,rm j]) (zAC (zAB (i:=0) rfl) v_nil) ok.check rfl rfl)) (x_seq (drop (zAQ (zAC (zAB (i:=0) rfl) (zAC (zAB (i:=1) rfl) (zAC (zAB (i:=2) rfl) v_nil))) (den_cp ok hi hj) rfl rfl)) (x_ret (zAQ (zAC (zAB (i:=0) rfl) (zAC (zAB (i:=1) rfl) (zAC (zAB (i:=2) rfl) v_nil))) (den_rows_for ok hi hj) rfl rfl) rwR_nv)))
noncomputable abbrev GW (xs:List D) (l:Int) (w:Wd) (c:Int) (i j:Nat) (x8 x9 x10 x11 x12:Option PV):Ev:=[some ⟨.leaf,.list xs⟩,some ⟨.leaf,.int l⟩,some ⟨.leaf,w.enc⟩,some ⟨.leaf,.int (w.n:Int)⟩,some ⟨.leaf,.int c⟩,some ⟨.leaf,rm i⟩,some ⟨.leaf,rm j⟩,some ⟨.leaf,w.enc⟩,x8,x9,x10,x11,x12]
noncomputable abbrev ownR (L:List Row):Option PV:=some ⟨.lst .leaf,.list (L.map rowT)⟩
noncomputable abbrev body1:FS:=(sSeq (sSet true 12 (eCall 3 m_unlike (eCons (eVar 7) (eCons (eVar 5) (eCons (eVar 6) eNil)))))
  (sSeq (sIf (bOr (bOf gBool (eOp gNe (eOp (gIsN false) (eVar 12) (eK .none)) (eAlkK 2 false 5 6))) (bOf gBool (eOp gNe (eVar 7) (eVar 2)))) (sRet (eK (.bool false))) sNext)
  (sIf (bOf gBool (eOp (gIsN true) (eVar 12) (eK .none))) (sSeq (sIf (bOr (bNot (bOf gTru (eCall 1 m__law_formed_rows (eCons (eVar 12) eNil)))) (bOr (bNot (bOf gTru (eCall 2 m__law_hold (eCons (eVar 2) (eCons (eVar 12) eNil))))) (bOf gBool (eOp gNe (eSlV (eIdx (eVar 12) (eU gNeg (eK (.int 1)))) (eK (.int 2))) (eTup (eCons (eVar 5) (eCons (eVar 6) eNil))))))) (sRet (eK (.bool false))) sNext)
  (sSeq (sSet true 8 (zDL 12))
  (zAV 12 (eTup (eCons (eK (.int 0)) (eCons (eK (.int 0)) (eCons (eTup (eCons (eK (.str "mark")) (eCons (eK (.str "a")) eNil))) eNil))))))) sNext)))
theorem ix_end (h:0<n):ixN n (-1)=some (n-1):=by
 unfold ixN
 rw [if_neg (by omega),if_pos (by omega)]
 congr 1
 omega
section
variable {xs:List D} {l:Int} {w:Wd} {c:Int} {i j:Nat}
open Classical in
theorem turn_a (ok:w.Ok) (hi:i<w.n) (hj:j<w.n) {x9:Option PV} (hL:RowsOk w L) (hn:L.length<=576):∃L' y12,body1 (GW xs l w c i j (ownR L) x9 none none x12)=.nx (GW xs l w c i j (ownR L') x9 none none y12)/\RowsOk w L'/\L'.length<=576:=by
 have sw:=sh_encW ok
 have s1:sSet true 12 (eCall 3 m_unlike (eCons (eVar 7) (eCons (eVar 5) (eCons (eVar 6) eNil)))) (GW xs l w c i j (ownR L) x9 none none x12)=.nx (GW xs l w c i j (ownR L) x9 none none (some (rwR w i j))):=zD4 (zAQ (zAC (zAB (i:=7) rfl) (zAC (zAB (i:=5) rfl) (zAC (zAB (i:=6) rfl) v_nil))) (den_unlike ok hi hj) rfl rfl) rwR_nv (by simp)
 have hal:=fun x12=>v_alkK (U:=GW xs l w c i j (ownR L) x9 none none x12) (iw:=2) (ia:=5) (ib:=6) (o:=false) ok hi hj rfl rfl rfl
 have kn:=knw_iff ok hi hj
 unfold rwR at s1
 by_cases h:(i,j)∈(knw w).map (·.1)
 case neg=>
  rw [if_neg h] at s1
  have dk:decide (Lk w false i j)=true:=decide_eq_true (Classical.byContradiction fun z=>h (kn.mpr z))
  simp only [dk] at hal
  exact ⟨L,_,x_seq s1 (x_seq (x_if (t:=false) (b_or (a:=false) (b:=false) (zAK (s:=.leaf) (v_op (v_op (zAB (i:=12) rfl) v_k rfl) (hal _) (neB (a:=true) (b:=true)))) (zAK (s:=.leaf) (v_op (zAB (i:=7) rfl) (zAB (i:=2) rfl) (zFA sw)))) nofun (fun _=>rfl)) (x_if (t:=false) (zAK (s:=.leaf) (v_op (zAB (i:=12) rfl) v_k rfl)) nofun (fun _=>rfl))),hL,hn⟩
 case pos=>
  rw [if_pos h] at s1
  have dk:decide (Lk w false i j)=false:=decide_eq_false (kn.mp h)
  simp only [dk] at hal
  have hR:=rwf_rows ok h
  obtain ⟨hh,_,h5,pre,r,er,err⟩:=rwf_ok ok h
  have dh:=den_hold ok hR
  rw [hh] at dh
  have df:=den_formed (L:=rwf w i j)
  have hlen:0<(rwf w i j).length:=by rw [er];simp
  have hlast:(rwf w i j)[(rwf w i j).length-1]?=some r:=by rw [er];simp
  generalize rwf w i j=M at *
  have it:eIdx (eVar 12) (eU gNeg (eK (.int 1))) (GW xs l w c i j (ownR L) x9 none none (ownR M))=.ok ⟨.view,rowT r⟩ (GW xs l w c i j (ownR L) x9 none none (ownR M)):=zB0 (j:=M.length-1) (v_lst (i:=12) rfl) (v_u (v_k (d:=.int 1)) rfl) (by rw [length_map];exact ix_end hlen) (by rw [getElem?_map,hlast];rfl) rfl
  have hd:=v_slV (k:=2) (xs:=[rm r.1.1,rm r.1.2,rsnT r.2]) it (v_k (d:=.int 2)) (by simp) rfl
  have hd:eSlV (eIdx (eVar 12) (eU gNeg (eK (.int 1)))) (eK (.int 2)) (GW xs l w c i j (ownR L) x9 none none (ownR M))=.ok ⟨.leaf,prT (i,j)⟩ (GW xs l w c i j (ownR L) x9 none none (ownR M)):=by
   have e:PyData.tuple ([rm r.1.1,rm r.1.2,rsnT r.2].take 2)=prT (i,j):=by rw [err];rfl
   rw [e] at hd
   exact hd
  refine ⟨M,some ⟨.lst .leaf,.list (M.map rowT++[rowT ((0,0),.mk "a")])⟩,x_seq s1 (x_seq (x_if (t:=false) (b_or (a:=false) (b:=false) (zAK (s:=.leaf) (v_op (v_op (v_lst (i:=12) rfl) v_k rfl) (hal _) (neB (a:=false) (b:=false)))) (zAK (s:=.leaf) (v_op (zAB (i:=7) rfl) (zAB (i:=2) rfl) (zFA sw)))) nofun (fun _=>rfl)) (x_if (t:=true) (zAK (s:=.leaf) (v_op (v_lst (i:=12) rfl) v_k rfl)) (fun _=>?_) nofun)),hR,h5⟩
  refine x_seq (x_if (t:=false) (b_or (a:=false) (b:=false) (b_not (b:=true) (b_tru (s:=.leaf) (zEZ (zAC (v_lst (i:=12) rfl) v_nil) df rfl rfl))) (b_or (a:=false) (b:=false) (b_not (b:=true) (b_tru (s:=.leaf) (zEZ (zAC (zAB (i:=2) rfl) (zAC (v_lst (i:=12) rfl) v_nil)) dh rfl rfl))) (zAK (s:=.leaf) (v_op hd (v_tup (zAC (zAB (i:=5) rfl) (zAC (zAB (i:=6) rfl) v_nil)) rfl rfl) (zFA (sh_pr (p:=(i,j)))))))) nofun (fun _=>rfl)) ?_
  refine x_seq (U1:=GW xs l w c i j (ownR M) x9 none none (ownR M)) (zD4 (v_listO (i:=12) rfl) rfl (by simp)) ?_
  exact zCH (i:=12) (s:=.leaf) (ds:=M.map rowT) rfl (v_tup (zAC (v_k (d:=.int 0)) (zAC (v_k (d:=.int 0)) (zAC (v_tup (zAC (v_k (d:=.str "mark")) (zAC (v_k (d:=.str "a")) v_nil)) rfl rfl) v_nil))) rfl rfl) rfl (by rw [length_map];omega)
theorem turn_b (hx:RowI xs) (hw:1<=w.n) {k:Nat} (hL:RowsOk w L) (hn:L.length<=790):∃L',zDC 8 (eCons (eCall 2 m__law_cell_at (eCons (eVar 0) (eCons (eOp gAddI (eK (.int 2)) (eVar 9)) eNil))) (eCons (eVar 3) eNil)) m__law_spoilt (GW xs l w c i j (ownR L) (some ⟨.leaf,rm k⟩) none none x12)=.nx (GW xs l w c i j (ownR L') (some ⟨.leaf,rm k⟩) none none x12)/\RowsOk w L'/\L'.length<=L.length+1:=by
 obtain ⟨z,ez⟩:=zCM hx (k:=2+(k:Int)) (by omega)
 obtain ⟨L',e,h1,h2⟩:=den_spoilt hw hL (by omega) (z:=z)
 exact ⟨L',x_lentI (i:=8) rfl (zAC (zAQ (n:=2) (zAC (zAB (i:=0) rfl) (zAC (v_op (v_k (d:=.int 2)) (zAB (i:=9) rfl) zA7) v_nil)) ez rfl rfl) (zAC (zAB (i:=3) rfl) v_nil)) e,h1,h2⟩
end
theorem den_law {xs:List D} (hx:RowI xs):m_law [.list xs]=.ok ⟨.leaf,.bool true⟩:=by
 obtain ⟨c30,e30⟩:=zCM hx (k:=30) (by omega)
 have lim:∃l:Int,1<=l/\l<=24/\eIdx (eList .leaf (eCons (eK (.int 6)) (eCons (eK (.int 6)) (eCons (eK (.int 6)) (eCons (eK (.int 11)) eNil))))) (eOp gMod (eCall 2 m__law_cell_at (eCons (eVar 0) (eCons (eK (.int 30)) eNil))) (eK (.int 4))) (zAO 13 [.list xs])=.ok ⟨.leaf,.int l⟩ (zAO 13 [.list xs]):=by
  have m:=v_mod (n:=4) (zAQ (n:=2) (U:=zAO 13 [.list xs]) (zAC (zAB (i:=0) rfl) (zAC (v_k (d:=.int 30)) v_nil)) e30 rfl rfl) (v_k (d:=.int 4)) (by omega)
  have hk:=(kx_is (a:=c30) (n:=4) (by omega)).2
  have li:=zBZ (s:=.leaf) (U:=zAO 13 [.list xs]) (zAC (v_k (d:=.int 6)) (zAC (v_k (d:=.int 6)) (zAC (v_k (d:=.int 6)) (zAC (v_k (d:=.int 11)) v_nil)))) rfl rfl rfl
  generalize kx c30 4=k at m hk
  match k,hk,m with
  | 0,_,m=>exact ⟨6,by omega,by omega,zB0 (j:=0) li m rfl rfl rfl⟩
  | 1,_,m=>exact ⟨6,by omega,by omega,zB0 (j:=1) li m rfl rfl rfl⟩
  | 2,_,m=>exact ⟨6,by omega,by omega,zB0 (j:=2) li m rfl rfl rfl⟩
  | 3,_,m=>exact ⟨11,by omega,by omega,zB0 (j:=3) li m rfl rfl rfl⟩
 obtain ⟨l,hl1,hl2,el⟩:=lim
 obtain ⟨w,ok,hwl,e1⟩:=den_likeA hx (a:=4) (l:=l) (by omega) hl1 hl2
 have h1:=ok.h1
 have h24:=ok.h24
 obtain ⟨c,e2⟩:=zCM hx (k:=0) (by omega)
 obtain ⟨c1,e3⟩:=zCM hx (k:=1) (by omega)
 refine rt_of (x_seq (U1:=(zAO 13 [.list xs]).set 1 (some ⟨.leaf,.int l⟩)) (zA1 el rfl (by simp [zAO])) ?_)
 refine x_seq (zA1 (zAQ (zAC (zAB (i:=0) rfl) (zAC v_k (zAC (zAB (i:=1) rfl) v_nil))) e1 rfl rfl) rfl (by simp [zAO])) ?_
 have hos:w.os.length=w.n:=ok.g.lo
 refine x_seq (zA1 (v_cb (d:=.int (w.n:Int)) (zAC (zAM (j:=0) (s2:=.leaf) (zAB (i:=2) rfl) v_k rfl rfl rfl) v_nil) (by show some (PyData.int _)=_;rw [hos])) rfl (by simp [zAO])) ?_
 refine x_seq (zA1 (zAQ (zAC (zAB (i:=0) rfl) (zAC v_k v_nil)) e2 rfl rfl) rfl (by simp [zAO])) ?_
 refine x_seq (zA1 (v_mod (zAB (i:=4) rfl) (zAB (i:=3) rfl) (by omega)) rfl (by simp [zAO])) ?_
 refine x_seq (zA1 (v_mod (v_div (zAB (i:=4) rfl) (by omega:(0:Int)<12) (by omega)) (zAB (i:=3) rfl) (by omega)) rfl (by simp [zAO])) ?_
 refine x_seq (zA1 (zAQ (zAC (zAB (i:=2) rfl) v_nil) (den_twinQ ok) rfl rfl) rfl (by simp [zAO])) ?_
 generalize hi:kx c w.n=i
 generalize hj:kx (c / 12) w.n=j
 have hi':i<w.n:=by rw [<-hi];exact (kx_is (by omega)).2
 have hj':j<w.n:=by rw [<-hj];exact (kx_is (by omega)).2
 refine x_seq (U1:=GW xs l w c i j (ownR []) none none none none) (zD4 (zBZ v_nil rfl rfl rfl) rfl (by simp [zAO])) ?_
 obtain ⟨U1,ef1,L1,x9,x12,rfl,hL1,hn1⟩:=zDK rm (i:=9) (body:=body1) (Inv:=fun rest U=>∃L x9 x12,U=GW xs l w c i j (ownR L) x9 none none x12/\RowsOk w L/\L.length<=576) (fun a rest U h=>by
  obtain ⟨L,x9,x12,rfl,hL,hn⟩:=h
  obtain ⟨L',y12,e,a1,a2⟩:=turn_a (xs:=xs) (l:=l) (c:=c) ok hi' hj' hL hn (x9:=some ⟨.leaf,rm a⟩) (x12:=x12)
  exact ⟨by simp,_,e,L',_,_,rfl,a1,a2⟩) (List.range 2) (GW xs l w c i j (ownR []) none none none none) ⟨[],none,none,rfl,⟨(fun r hr=>nomatch hr),by simp⟩,by simp⟩
 refine x_seq (x_for (R1_of (s:=.leaf) (n:=2) (by omega) (zAC (v_k (d:=.int 2)) v_nil)) ef1) ?_
 have hm:c1 % 3=((c1 % 3).toNat:Int)/\(c1 % 3).toNat<3:=by omega
 obtain ⟨U2,ef2,L2,x9',rfl,hL2,hn2⟩:=zDK rm (i:=9) (body:=zDC 8 (eCons (eCall 2 m__law_cell_at (eCons (eVar 0) (eCons (eOp gAddI (eK (.int 2)) (eVar 9)) eNil))) (eCons (eVar 3) eNil)) m__law_spoilt) (Inv:=fun rest U=>∃L x9,U=GW xs l w c i j (ownR L) x9 none none x12/\RowsOk w L/\L.length+rest.length<=580) (fun a rest U h=>by
  obtain ⟨L,x9,rfl,hL,hn⟩:=h
  rw [length_cons] at hn
  obtain ⟨L',e,a1,a2⟩:=turn_b (l:=l) (c:=c) (i:=i) (j:=j) hx h1 hL (by omega) (k:=a) (x12:=x12)
  exact ⟨by simp,_,e,L',_,rfl,a1,by omega⟩) (List.range (c1 % 3).toNat) (GW xs l w c i j (ownR L1) x9 none none x12) ⟨L1,x9,rfl,hL1,by simp;omega⟩
 refine x_seq (x_for (R1_of (s:=.leaf) (n:=(c1 % 3).toNat) (by omega) (zAC ((v_op (g:=gMod) (zAQ (zAC (zAB (i:=0) rfl) (zAC v_k v_nil)) e3 rfl rfl) (v_k (d:=.int 3)) (mod_i (by omega))).trans (by rw [<-hm.1])) v_nil)) ef2) ?_
 refine x_seq (U1:=GW xs l w c i j (ownR L2) x9' (some ⟨.leaf,.list (L2.map rowT)⟩) none x12) (zA1 (v_listO (i:=8) rfl) rfl (by simp)) ?_
 refine x_seq (U1:=GW xs l w c i j (ownR L2) x9' (some ⟨.leaf,.list (L2.map rowT)⟩) (some ⟨.leaf,.bool (holdB w [] L2)⟩) x12) (zA1 (zAQ (zAC (zAB (i:=7) rfl) (zAC (zAB (i:=10) rfl) v_nil)) (den_au ok hL2) rfl rfl) rfl (by simp)) ?_
 have sw:=sh_encW ok
 exact x_ret ((v_and (s:=.leaf) (a:=true) (b:=true) (v_isi (zAB (i:=11) rfl) rfl) (v_and (s:=.leaf) (a:=true) (b:=true) ((v_op (zAB (i:=11) rfl) (zEZ (zAC (zAB (i:=2) rfl) (zAC (v_lst (i:=8) rfl) v_nil)) (den_hold ok hL2) rfl rfl) eqB).trans (by simp)) (v_and (s:=.leaf) (a:=true) (b:=true) (v_op (zAB (i:=10) rfl) (v_lst (i:=8) rfl) (eq_refl' (sh_rws hL2))) (v_op (zAB (i:=7) rfl) (zAB (i:=2) rfl) (eq_refl' sw)))))) rfl
theorem law_true (ns:List Int) (hl:ns.length<=63):m_law [.list (ns.map .int)]=.ok ⟨.leaf,.bool true⟩:=den_law zDD
end KC.Ap.L
namespace KC.Ap.L
open PySem PySem.Spec L2 T TQ
open PyProof.Rows hiding St
open KC
noncomputable def stm (n:Nat):Stmt:=(PySem.Challenge.pw_foreseehall_k44_rows_that_show_unlikenes.main.body)[n]!
noncomputable def s_is_rising:Stmt:=stm 8
noncomputable def s_are_marks:Stmt:=stm 9
noncomputable def s_are_rooms:Stmt:=stm 10
noncomputable def s_are_steps:Stmt:=stm 11
noncomputable def s_is_world:Stmt:=stm 12
noncomputable def s_check_world:Stmt:=stm 13
noncomputable def s_check_room:Stmt:=stm 14
noncomputable def s_pairs_asked:Stmt:=stm 16
noncomputable def s_is_by_mark:Stmt:=stm 17
noncomputable def s_pairs_behind:Stmt:=stm 22
noncomputable def s_check_pair:Stmt:=stm 24
noncomputable def s_unlike:Stmt:=stm 25
noncomputable def s__law_cell_at:Stmt:=stm 29
noncomputable def s__law_whole:Stmt:=stm 30
noncomputable def s__law_draw:Stmt:=stm 31
noncomputable def s__law_world:Stmt:=stm 32
noncomputable def s__law_twin:Stmt:=stm 33
noncomputable def s__law_like_world:Stmt:=stm 34
noncomputable def s__law_row_holds:Stmt:=stm 38
noncomputable def s__law_hold:Stmt:=stm 39
noncomputable def s__law_formed_rows:Stmt:=stm 40
noncomputable def s__law_spoilt:Stmt:=stm 41
noncomputable def s_law:Stmt:=stm 42
structure Gl (K:Fg) (mg:Str->Option Value):Prop where
 n0:mg "len"=none
 n1:mg "range"=none
 n2:mg "all"=none
 n3:mg "enumerate"=none
 n4:mg "isinstance"=none
 n5:mg "int"=none
 n6:mg "bool"=none
 n7:mg "list"=none
 n8:mg "any"=none
 n9:mg "tuple"=none
 n10:mg "str"=none
 n11:mg "max"=none
 h0:ConK K mg "LETTERS" k_LETTERS
 h1:ConK K mg "MOST_ROOMS" k_MOST_ROOMS
 h2:ConK K mg "PLAYERS" k_PLAYERS
structure Al (K:Fg) (mg:Str->Option Value):Prop where
 g:Gl K mg
 f0:Ft K mg "is_rising" s_is_rising
 f1:Ft K mg "are_marks" s_are_marks
 f2:Ft K mg "are_rooms" s_are_rooms
 f3:Ft K mg "are_steps" s_are_steps
 f4:Ft K mg "is_world" s_is_world
 f5:Ft K mg "check_world" s_check_world
 f6:Ft K mg "check_room" s_check_room
 f7:Ft K mg "pairs_asked" s_pairs_asked
 f8:Ft K mg "is_by_mark" s_is_by_mark
 f9:Ft K mg "is_by_step" s_is_by_step
 f10:Ft K mg "reason_for" s_reason_for
 f11:Ft K mg "rows_next" s_rows_next
 f12:Ft K mg "all_rows" s_all_rows
 f13:Ft K mg "pairs_behind" s_pairs_behind
 f14:Ft K mg "rows_for" s_rows_for
 f15:Ft K mg "check_pair" s_check_pair
 f16:Ft K mg "unlike" s_unlike
 f17:Ft K mg "is_row_right" s_is_row_right
 f18:Ft K mg "are_unlike_by" s_are_unlike_by
 f19:Ft K mg "_law_cell_at" s__law_cell_at
 f20:Ft K mg "_law_whole" s__law_whole
 f21:Ft K mg "_law_draw" s__law_draw
 f22:Ft K mg "_law_world" s__law_world
 f23:Ft K mg "_law_twin" s__law_twin
 f24:Ft K mg "_law_like_world" s__law_like_world
 f25:Ft K mg "_law_pair_right" s__law_pair_right
 f26:Ft K mg "_law_alike" s__law_alike
 f27:Ft K mg "_law_row_holds" s__law_row_holds
 f28:Ft K mg "_law_hold" s__law_hold
 f29:Ft K mg "_law_formed_rows" s__law_formed_rows
 f30:Ft K mg "_law_spoilt" s__law_spoilt
 f31:Ft K mg "law" s_law
section
variable {P:Program} {w:World} {K:Fg} {mg:Str->Option Value} {base:Heap} (A:Al K mg)
include A
theorem o_is_rising:DefOk P w K mg base 1 "is_rising" 1 m_is_rising:=mk A.f0 A.g ["entries"] bn1 ["k"] ["len", "range", "all"] [0] [0] [0,1,2] fun X S I hp=>
 (u_r (zCJ S 2 rfl rfl I.e.n2 (u_1 (u_o [0,1] [0] [] S 1 (w_cr2 S 1 rfl rfl I.e.n1 (u_c w_de_int (u_1 (u_n S 0 I.e.n0 (u_1 (u_v S 0))))) (star_two rfl rfl) (zAN rfl)) (fun _ _ _=>zA9) (fun Y1 S1 F1=>have I:=F1.i I;(u_e (q_lt I.r) (u_x (u_v S1 0) (w_de_sub (u_v S1 1) w_de_int)) (u_x (u_v S1 0) (u_v S1 1)))))) (zAA rfl) rfl))
theorem o_are_marks:DefOk P w K mg base 2 "are_marks" 1 m_are_marks:=mk A.f1 A.g ["entries"] bn1 ["entry"] ["LETTERS", "all", "is_rising"] [0] [] [1,2] fun X S I hp=>
 (u_r (zB6 (zCJ S 1 rfl rfl I.e.n2 (u_1 (u_o [1] [] [0] S 1 (zBE (u_v S 0)) (fun _ _ _=>zA9) (fun Y1 S1 F1=>have I:=F1.i I;(u_e (q_in I.r) (u_v S1 1) (w_ck S1 0 rfl rfl I.e.h0))))) (zAA rfl) rfl) (zCU (u_f S 2 (I.c (o_is_rising A)) (u_1 (u_v S 0))))))
theorem o_are_rooms:DefOk P w K mg base 2 "are_rooms" 2 m_are_rooms:=mk A.f2 A.g ["entries", "size"] bn2 ["entry"] ["all", "is_rising"] [0,1] [1] [0,1] fun X S I hp=>
 (u_r (zB6 (zCJ S 0 rfl rfl I.e.n2 (u_1 (u_o [1,2] [1] [] S 2 (zBE (u_v S 0)) (fun _ _ _=>zA9) (fun Y1 S1 F1=>have I:=F1.i I;(w_ce2 (q_le I.r) (q_lt I.r) w_de_int (u_v S1 2) (u_v S1 1) (by with_unfolding_all rfl))))) (zAA rfl) rfl) (zCU (u_f S 1 (I.c (o_is_rising A)) (u_1 (u_v S 0))))))
theorem o_are_steps:DefOk P w K mg base 3 "are_steps" 2 m_are_steps:=mk A.f3 A.g ["entries", "size"] bn2 [] ["len", "are_rooms"] [0,1] [] [0,1] fun X S I hp=>
 (u_r (zB6 (u_e (q_gt I.r) (u_n S 0 I.e.n0 (u_1 (u_v S 0))) w_de_int) (zCU (u_f S 1 (I.c (o_are_rooms A)) (u_c (u_v S 0) (u_1 (u_v S 1)))))))
theorem o_is_world:DefOk P w K mg base 4 "is_world" 3 m_is_world:=mk A.f4 A.g ["owners", "marks", "steps"] bn3 ["size", "owner", "row"] ["len", "MOST_ROOMS", "PLAYERS", "all", "are_marks", "are_steps"] [0,1,2,3] [3] [0,1,3] fun X S I hp=>
 (zAD (u_s S false 3 (u_n S 0 I.e.n0 (u_1 (u_v S 0)))) (zAD (zAY (w_pw_pt (w_dw_or (u_t (q_lt I.r) (u_v S 3) w_de_int) (w_dw_or (u_t (q_gt I.r) (u_v S 3) (w_ck S 1 rfl rfl I.e.h1)) (w_dw_or (u_t (q_ne I.r) (u_n S 0 I.e.n0 (u_1 (u_v S 1))) (u_v S 3)) (w_dw_or1 (u_t (q_ne I.r) (u_n S 0 I.e.n0 (u_1 (u_v S 2))) (u_v S 3))))))) (u_r zA4) zAR) (zAD (zAY (zBD (w_dt_tru (zCJ S 3 rfl rfl I.e.n2 (u_1 (u_o [4] [] [2] S 4 (zBE (u_v S 0)) (fun _ _ _=>zA9) (fun Y1 S1 F1=>have I:=F1.i I;(u_e (q_in I.r) (u_v S1 4) (w_ck S1 2 rfl rfl I.e.h2))))) (zAA rfl) rfl) (fun _=>rfl))) (u_r zA4) zAR) (u_r (zB6 (zCJ S 3 rfl rfl I.e.n2 (u_1 (u_o [5] [] [4] S 5 (zBE (u_v S 1)) (fun _ _ _=>zA9) (fun Y2 S2 F2=>have I:=F2.i I;(u_f S2 4 (I.c (o_are_marks A)) (u_1 (u_v S2 5)))))) (zAA rfl) rfl) (zCU (zCJ S 3 rfl rfl I.e.n2 (u_1 (u_o [3,5] [3] [5] S 5 (zBE (u_v S 2)) (fun _ _ _=>zA9) (fun Y3 S3 F3=>have I:=F3.i I;(u_f S3 5 (I.c (o_are_steps A)) (u_c (u_v S3 5) (u_1 (u_v S3 3))))))) (zAA rfl) rfl)))))))
theorem o_check_world:DefOk P w K mg base 5 "check_world" 1 m_check_world:=mk A.f5 A.g ["world"] bn1 [] ["is_world"] [0] [] [0] fun X S I hp=>
 (zA3 (zAY (zBD (w_dt_tru (u_f S 0 (I.c (o_is_world A)) (u_c (u_x (u_v S 0) w_de_int) (u_c (u_x (u_v S 0) w_de_int) (u_1 (u_x (u_v S 0) w_de_int))))) (fun _=>rfl))) (zA3 w_ds_no) zAR))
theorem o_check_room:DefOk P w K mg base 1 "check_room" 2 m_check_room:=mk A.f6 A.g ["world", "room"] bn2 [] ["len"] [0,1] [] [0] fun X S I hp=>
 (zA3 (zAY (zBD (w_ct2 (q_le I.r) (q_lt I.r) w_de_int (u_v S 1) (u_n S 0 I.e.n0 (u_1 (u_x (u_v S 0) w_de_int))) (by with_unfolding_all rfl))) (zA3 w_ds_no) zAR))
theorem o_pairs_asked:DefOk P w K mg base 1 "pairs_asked" 5 m_pairs_asked:=mk A.f7 A.g ["world", "one", "other", "side", "there"] bn5 ["against"] [] [0,1,2,3,4] [4] [] fun X S I hp=>
 (zAD (zAY (u_t (q_eq I.r) (u_v S 3) w_de_int) (u_r (u_o [4,5] [4] [] S 5 (zBE (u_x (u_x (u_v S 0) w_de_int) (u_v S 2))) (fun _ _ _=>zA9) (fun Y1 S1 F1=>(w_de_tup (u_c (u_v S1 4) (u_1 (u_v S1 5))))))) zAR) (u_r (u_o [4,5] [4] [] S 5 (zBE (u_x (u_x (u_v S 0) w_de_int) (u_v S 1))) (fun _ _ _=>zA9) (fun Y2 S2 F2=>(w_de_tup (u_c (u_v S2 5) (u_1 (u_v S2 4))))))))
theorem o_is_by_mark:DefOk P w K mg base 1 "is_by_mark" 4 m_is_by_mark:=mk A.f8 A.g ["world", "one", "other", "letter"] bn4 [] [] [0,1,2,3] [] [] fun X S I hp=>
 (u_r (u_e (q_ne I.r) (u_e (q_in I.r) (u_v S 3) (u_x (u_x (u_v S 0) w_de_int) (u_v S 1))) (u_e (q_in I.r) (u_v S 3) (u_x (u_x (u_v S 0) w_de_int) (u_v S 2)))))
theorem o_is_by_step:BsOk P w K mg base 2:=match A.f9 with | ⟨_,_,hm,F⟩=>ok_is_by_step F hm (zCT F bn6) A.g.n2 (o_pairs_asked A) rfl
theorem o_reason_for:RfOk P w K mg base 3:=match A.f10 with | ⟨_,_,hm,F⟩=>ok_reason_for F hm (zCT F bn4) A.g.n3 (o_is_by_mark A) (o_is_by_step A) A.g.h0 rfl rfl
theorem o_rows_next:RnOk P w K mg base 4:=match A.f11 with | ⟨_,_,hm,F⟩=>ok_rows_next F hm (zCT F bn2) A.g.n1 A.g.n0 (o_reason_for A) rfl
theorem o_all_rows:ArOk P w K mg base 5:=match A.f12 with | ⟨_,_,hm,F⟩=>ok_all_rows F hm (zCT F bn1) (o_rows_next A) rfl
theorem o_pairs_behind:DefOk P w K mg base 2 "pairs_behind" 2 m_pairs_behind:=mk A.f13 A.g ["world", "row"] bn2 [] ["pairs_asked"] [0,1] [] [0] fun X S I hp=>
 (u_r (w_de_if (u_t (q_eq I.r) (u_x (u_x (u_v S 1) w_de_int) w_de_int) w_de_str) (zAZ .leaf w_da_nil) (u_f S 0 (I.c (o_pairs_asked A)) (u_c (u_v S 0) (u_c (u_x (u_v S 1) w_de_int) (u_c (u_x (u_v S 1) w_de_int) (u_c (u_x (u_x (u_v S 1) w_de_int) w_de_int) (u_1 (u_x (u_x (u_v S 1) w_de_int) w_de_int)))))))))
theorem o_rows_for:DefOk P w K mg base 6 "rows_for" 3 m_rows_for:=match A.f14 with | ⟨_,_,hm,F⟩=>ok_rows_for F hm (zCT F bn3) (o_all_rows A) (o_pairs_behind A) rfl rfl
theorem o_check_pair:DefOk P w K mg base 2 "check_pair" 3 m_check_pair:=mk A.f15 A.g ["world", "one", "other"] bn3 [] ["check_room"] [0,1,2] [] [0] fun X S I hp=>
 (zAD (zDA (u_f S 0 (I.c (o_check_room A)) (u_c (u_v S 0) (u_1 (u_v S 1)))) rfl) (zA3 (zDA (u_f S 0 (I.c (o_check_room A)) (u_c (u_v S 0) (u_1 (u_v S 2)))) rfl)))
theorem o_unlike:DefOk P w K mg base 7 "unlike" 3 m_unlike:=mk A.f16 A.g ["world", "one", "other"] bn3 [] ["check_world", "check_pair", "rows_for"] [0,1,2] [] [0,1,2] fun X S I hp=>
 (zAD (zDA (u_f S 0 (I.c (o_check_world A)) (u_1 (u_v S 0))) rfl) (zAD (zDA (u_f S 1 (I.c (o_check_pair A)) (u_c (u_v S 0) (u_c (u_v S 1) (u_1 (u_v S 2))))) rfl) (u_r (u_f S 2 (I.c (o_rows_for A)) (u_c (u_v S 0) (u_c (u_v S 1) (u_1 (u_v S 2))))))))
theorem o_is_row_right:IrOk P w K mg base 3:=match A.f17 with | ⟨_,_,hm,F⟩=>ok_is_row_right F hm (zCT F bn3) (o_is_by_mark A) (o_is_by_step A) rfl rfl
theorem o_are_unlike_by:DefOk P w K mg base 6 "are_unlike_by" 2 m_are_unlike_by:=match A.f18 with | ⟨_,_,hm,F⟩=>ok_are_unlike_by F hm (zCT F bn2) (o_check_world A) (o_check_pair A) (o_is_row_right A) rfl rfl rfl
theorem zA5:DefOk P w K mg base 1 "_law_cell_at" 2 m__law_cell_at:=mk A.f19 A.g ["script", "k"] bn2 [] ["len"] [0,1] [] [0] fun X S I hp=>
 (zAD (zAY (u_t (q_lt I.r) (u_v S 1) (u_n S 0 I.e.n0 (u_1 (u_v S 0)))) (u_r (u_x (u_v S 0) (u_v S 1))) zAR) (u_r w_de_int))
theorem zB8:DefOk P w K mg base 1 "_law_whole" 1 m__law_whole:=mk A.f20 A.g ["found"] bn1 [] ["isinstance", "int", "bool"] [0] [] [0,1,2] fun X S I hp=>
 (u_r (zB6 (zCI S 0 1 rfl rfl rfl rfl rfl b_int I.e.n4 I.e.n5 (u_v S 0) (zAA rfl) (zAA rfl) rfl) (zCU (w_de_not (zCI S 0 2 rfl rfl rfl rfl rfl b_bool I.e.n4 I.e.n6 (u_v S 0) (zAA rfl) (zAA rfl) rfl)))))
theorem zBN:DefOk P w K mg base 1 "_law_draw" 3 m__law_draw:=mk A.f21 A.g ["cell", "k", "bound"] bn3 ["stir", "left", "j"] ["range"] [0,1,2,3,4,5] [] [0] fun X S I hp=>
 (zAD (zAY (u_t (q_ge I.r) (u_v S 0) (w_de_pow w_de_int w_de_int)) (zAD (u_s S false 4 (u_v S 0)) (zAD (zCX S 5 rfl rfl hp (w_cr1 S 0 rfl rfl I.e.n1 (u_1 (u_v S 1)) (zAN rfl)) (zA3 (u_s S false 4 (zBJ (u_v S 4) (u_v S 2)))) (fun _=>rfl)) (u_r (zAT (u_v S 4) (u_v S 2))))) zAR) (zAD (u_s S false 3 (zAT (zDB (zAU (zAU (zAT (u_v S 0) w_de_int) (zDB w_de_int (u_v S 1))) w_de_int) w_de_int) w_de_int)) (zAD (u_s S false 3 (zAT (zAU (zAU (zDB (u_v S 3) (u_v S 3)) (zDB w_de_int (u_v S 1))) w_de_int) w_de_int)) (u_r (zAT (zBJ (zAT (zDB (u_v S 3) w_de_int) w_de_int) w_de_int) (u_v S 2))))))
theorem o__law_world:DefOk P w K mg base 2 "_law_world" 3 m__law_world:=mk A.f22 A.g ["script", "at", "limit"] bn3 ["many", "owners", "marks", "steps", "room", "cell", "row", "there", "k"] ["_law_cell_at", "range", "_law_draw", "int"] [0,1,2,3,4,5,6,7,8,9] [3,8] [0,1,2] fun X S I hp=>
 (zAD (u_s S false 3 (zAU w_de_int (zAT (u_f S 0 (I.c (zA5 A)) (u_c (u_v S 0) (u_1 (u_v S 1)))) (u_v S 2)))) (zAD (u_s S true 4 (zAZ .leaf w_da_nil)) (zAD (u_s S true 5 (zAZ .leaf w_da_nil)) (zAD (u_s S true 6 (zAZ .leaf w_da_nil)) (zAD (zCX S 7 rfl rfl hp (w_cr1 S 1 rfl rfl I.e.n1 (u_1 (u_v S 3)) (zAN rfl)) (zAD (u_s S false 8 (u_f S 0 (I.c (zA5 A)) (u_c (u_v S 0) (u_1 (zAU (zAU (u_v S 1) w_de_int) (u_v S 7)))))) (zAD (zBY S 4 rfl rfl (u_f S 2 (I.c (zBN A)) (u_c (u_v S 8) (u_c w_de_int (u_1 w_de_int)))) (zAN rfl) rfl rfl rfl rfl) (zAD (zBY S 5 rfl rfl (u_o [8,11] [8] [2] S 11 (w_cr1 S 1 rfl rfl I.e.n1 (u_1 w_de_int) (zAN rfl)) (fun Y1 S1 F1=>have I:=F1.i I;w_df_one (u_t (q_eq I.r) (u_f S1 2 (I.c (zBN A)) (u_c (u_v S1 8) (u_c (zAU w_de_int (u_v S1 11)) (u_1 w_de_int)))) w_de_int)) (fun Y1 S1 F1=>have I:=F1.i I;(u_x w_de_str (u_v S1 11)))) (zAN rfl) rfl rfl rfl rfl) (zAD (zCO (vs':=[3,8,10]) (cs':=[3,8]) (lo':=[]) (gs':=[2,3]) S false 9 .leaf 10 rfl rfl rfl rfl (by kernel_rfl) (by kernel_rfl) (by kernel_rfl) (w_cr1 S 1 rfl rfl I.e.n1 (u_1 (u_v S 3)) (zAN rfl)) (fun Y2 S2 F2=>have I:=F2.i I;w_df_one (u_t (q_eq I.r) (u_f S2 2 (I.c (zBN A)) (u_c (u_v S2 8) (u_c (zAU w_de_int (u_v S2 10)) (u_1 (zAU w_de_int (w_cb_int S2 3 rfl rfl I.e.n5 (u_1 (u_e (q_gt I.r) (u_v S2 3) w_de_int)) (zAA rfl) rfl)))))) w_de_int)) (fun Y2 S2 F2=>have I:=F2.i I;(u_v S2 10)) (fun _=>rfl)) (zAD (zAY (u_t (q_eq I.r) (u_v S 9) (zAZ .leaf w_da_nil)) (zA3 (u_s S false 9 (zAZ .leaf (u_1 (u_f S 2 (I.c (zBN A)) (u_c (u_v S 8) (u_c (zAU w_de_int (u_v S 3)) (u_1 (u_v S 3))))))))) zAR) (zA3 (zBY S 6 rfl rfl (u_v S 9) (zAN rfl) rfl rfl rfl rfl))))))) (fun _=>rfl)) (u_r (w_de_tup (u_c (w_cm S 4 rfl rfl) (u_c (w_cm S 5 rfl rfl) (u_1 (w_cm S 6 rfl rfl)))))))))))
theorem o__law_twin:DefOk P w K mg base 1 "_law_twin" 1 m__law_twin:=mk A.f23 A.g ["world"] bn1 ["row"] ["list"] [0] [] [0] fun X S I hp=>
 (u_r (w_de_tup (u_c (zD6 S 0 rfl rfl I.e.n7 (u_x (u_v S 0) w_de_int) (zAN rfl)) (u_c (u_o [1] [] [0] S 1 (zBE (u_x (u_v S 0) w_de_int)) (fun _ _ _=>zA9) (fun Y1 S1 F1=>have I:=F1.i I;(zD6 S1 0 rfl rfl I.e.n7 (u_v S1 1) (zAN rfl)))) (u_1 (u_o [1] [] [0] S 1 (zBE (u_x (u_v S 0) w_de_int)) (fun _ _ _=>zA9) (fun Y2 S2 F2=>have I:=F2.i I;(zD6 S2 0 rfl rfl I.e.n7 (u_v S2 1) (zAN rfl)))))))))
theorem o__law_like_world:DefOk P w K mg base 3 "_law_like_world" 3 m__law_like_world:=mk A.f24 A.g ["script", "at", "limit"] bn3 ["world", "cell", "few", "room"] ["_law_world", "_law_cell_at", "len", "range", "_law_draw", "_law_twin"] [0,1,2,3,4,5] [4,5] [0,1,2,3,5] fun X S I hp=>
 (zAD (u_s S false 3 (u_f S 0 (I.c (o__law_world A)) (u_c (u_v S 0) (u_c (u_v S 1) (u_1 (u_v S 2)))))) (zAD (u_s S false 4 (u_f S 1 (I.c (zA5 A)) (u_c (u_v S 0) (u_1 (zAU (zAU (u_v S 1) w_de_int) (u_v S 2)))))) (zAD (zAY (u_t (q_gt I.r) (zAT (u_v S 4) w_de_int) w_de_int) (zAD (u_s S false 5 (zAZ .leaf (u_c (zAZ .leaf (u_1 w_de_str)) (u_c (zAZ .leaf (u_1 w_de_str)) (u_1 (zAZ .leaf (u_1 w_de_str))))))) (zA3 (u_s S false 3 (w_de_tup (u_c (u_x (u_v S 3) w_de_int) (u_c (u_o [4,5,6] [4,5] [4] S 6 (w_cr1 S 3 rfl rfl I.e.n1 (u_1 (u_n S 2 I.e.n0 (u_1 (u_x (u_v S 3) w_de_int)))) (zAN rfl)) (fun _ _ _=>zA9) (fun Y1 S1 F1=>have I:=F1.i I;(u_x (u_v S1 5) (u_f S1 4 (I.c (zBN A)) (u_c (u_v S1 4) (u_c (u_v S1 6) (u_1 w_de_int))))))) (u_1 (u_x (u_v S 3) w_de_int)))))))) zAR) (zAD (zAY (u_t (q_eq I.r) (zAT (u_v S 4) w_de_int) w_de_int) (zA3 (u_s S false 3 (w_de_tup (u_c (u_o [4,6] [4] [4] S 6 (w_cr1 S 3 rfl rfl I.e.n1 (u_1 (u_n S 2 I.e.n0 (u_1 (u_x (u_v S 3) w_de_int)))) (zAN rfl)) (fun _ _ _=>zA9) (fun Y2 S2 F2=>have I:=F2.i I;(zBJ (u_f S2 4 (I.c (zBN A)) (u_c (u_v S2 4) (u_c (zAU w_de_int (u_v S2 6)) (u_1 w_de_int)))) w_de_int))) (u_c (u_x (u_v S 3) w_de_int) (u_1 (u_x (u_v S 3) w_de_int))))))) zAR) (u_r (u_f S 5 (I.c (o__law_twin A)) (u_1 (u_v S 3))))))))
theorem o__law_pair_right:PrOk P w K mg base 1:=match A.f25 with | ⟨_,_,hm,F⟩=>ok__law_pair_right F hm (zCT F bn4) A.g.n8
theorem o__law_alike:AlOk P w K mg base 2:=match A.f26 with | ⟨_,_,hm,F⟩=>ok__law_alike F hm (zCT F bn2) A.g.n0 A.g.n1 A.g.n7 (o__law_pair_right A) rfl
theorem o__law_row_holds:DefOk P w K mg base 1 "_law_row_holds" 3 m__law_row_holds:=mk A.f27 A.g ["world", "told", "row"] bn3 ["rooms", "wanted", "one", "other", "reason", "there", "pair"] ["all"] [0,1,2,3,4,5,6,7] [1,7] [0] fun X S I hp=>
 (zAD (w_cs_unpt S 5 6 7 rfl rfl rfl rfl rfl rfl (u_v S 2) rfl rfl) (zAD (zAY (u_t (q_eq I.r) (u_x (u_v S 7) w_de_int) w_de_str) (u_r (u_e (q_ne I.r) (u_e (q_in I.r) (u_x (u_v S 7) w_de_int) (u_x (u_x (u_v S 0) w_de_int) (u_v S 5))) (u_e (q_in I.r) (u_x (u_v S 7) w_de_int) (u_x (u_x (u_v S 0) w_de_int) (u_v S 6))))) zAR) (zAD (zAY (u_t (zEC I.r) (u_x (u_v S 7) w_de_int) (w_de_tup (u_c w_de_int (u_1 w_de_int)))) (u_r zA4) zAR) (zAD (u_s S false 3 (zAZ .leaf (u_c (u_v S 5) (u_1 (u_v S 6))))) (zAD (zAY (u_t (zEC I.r) (u_x (u_v S 7) w_de_int) (u_x (u_x (u_v S 0) w_de_int) (u_x (u_v S 3) (u_x (u_v S 7) w_de_int)))) (u_r zA4) zAR) (zAD (zCO (vs':=[7,8]) (cs':=[7]) (lo':=[]) (gs':=[]) S false 4 .leaf 8 rfl rfl rfl rfl (by kernel_rfl) (by kernel_rfl) (by kernel_rfl) (zBE (u_x (u_x (u_v S 0) w_de_int) (u_v S 6))) (fun _ _ _=>zA9) (fun Y1 S1 F1=>(w_de_tup (u_c (u_x (u_v S1 7) w_de_int) (u_1 (u_v S1 8))))) (fun _=>rfl)) (zAD (zAY (u_t (q_eq I.r) (u_x (u_v S 7) w_de_int) w_de_int) (zA3 (zCO (vs':=[7,8]) (cs':=[7]) (lo':=[]) (gs':=[]) S false 4 .leaf 8 rfl rfl rfl rfl (by kernel_rfl) (by kernel_rfl) (by kernel_rfl) (zBE (u_x (u_x (u_v S 0) w_de_int) (u_v S 5))) (fun _ _ _=>zA9) (fun Y2 S2 F2=>(w_de_tup (u_c (u_v S2 8) (u_1 (u_x (u_v S2 7) w_de_int))))) (fun _=>rfl))) zAR) (u_r (zCJ S 0 rfl rfl I.e.n2 (u_1 (u_o [1,9] [1] [] S 9 (zBE (u_v S 4)) (fun _ _ _=>zA9) (fun Y3 S3 F3=>have I:=F3.i I;(u_e (q_in I.r) (u_v S3 9) (u_v S3 1))))) (zAA rfl) rfl)))))))))
theorem o__law_hold:DefOk P w K mg base 2 "_law_hold" 2 m__law_hold:=mk A.f28 A.g ["world", "rows"] bn2 ["told", "row"] ["_law_row_holds"] [0,1,2,3] [] [0] fun X S I hp=>
 (zAD (u_s S true 2 (zAZ .leaf w_da_nil)) (zAD (zCX S 3 rfl rfl hp (zBE (u_v S 1)) (zAD (zAY (zBD (w_dt_tru (u_f S 0 (I.c (o__law_row_holds A)) (u_c (u_v S 0) (u_c (u_v S 2) (u_1 (u_v S 3))))) (fun _=>rfl))) (u_r zA4) zAR) (zA3 (zBY S 2 rfl rfl (w_de_tup (u_c (u_x (u_v S 3) w_de_int) (u_1 (u_x (u_v S 3) w_de_int)))) (zAN rfl) rfl rfl rfl rfl))) (fun _=>rfl)) (u_r zA4)))
theorem o__law_formed_rows:DefOk P w K mg base 2 "_law_formed_rows" 1 m__law_formed_rows:=mk A.f29 A.g ["found"] bn1 ["row", "reason"] ["isinstance", "list", "tuple", "len", "_law_whole", "str"] [0,1,2] [] [0,1,2,3,4,5] fun X S I hp=>
 (zAD (zAY (zBD (w_dt_tru (zCI S 0 1 rfl rfl rfl rfl rfl zGL I.e.n4 I.e.n7 (u_v S 0) (zAA rfl) (zAA rfl) rfl) (fun _=>rfl))) (u_r zA4) zAR) (zAD (zCX S 1 rfl rfl hp (zBE (u_v S 0)) (zAD (zAY (w_pw_pt (w_dw_or (zBD (w_dt_tru (zCI S 0 2 rfl rfl rfl rfl rfl b_tuple I.e.n4 I.e.n9 (u_v S 1) (zAA rfl) (zAA rfl) rfl) (fun _=>rfl))) (w_dw_or (u_t (q_ne I.r) (u_n S 3 I.e.n0 (u_1 (u_v S 1))) w_de_int) (w_dw_or (zBD (w_dt_tru (u_f S 4 (I.c (zB8 A)) (u_1 (u_x (u_v S 1) w_de_int))) (fun _=>rfl))) (w_dw_or1 (zBD (w_dt_tru (u_f S 4 (I.c (zB8 A)) (u_1 (u_x (u_v S 1) w_de_int))) (fun _=>rfl)))))))) (u_r zA4) zAR) (zAD (u_s S false 2 (u_x (u_v S 1) w_de_int)) (zAD (zAY (w_pw_pt (w_dw_or (zBD (w_dt_tru (zCI S 0 2 rfl rfl rfl rfl rfl b_tuple I.e.n4 I.e.n9 (u_v S 2) (zAA rfl) (zAA rfl) rfl) (fun _=>rfl))) (w_dw_or1 (u_t (zEC I.r) (u_x (u_v S 2) w_de_int) (w_de_tup (u_c w_de_str (u_1 w_de_str))))))) (u_r zA4) zAR) (zAD (zAY (w_pw_pt (zCW (u_t (q_eq I.r) (u_x (u_v S 2) w_de_int) w_de_str) (zCC (w_pw_pt (w_dw_or (u_t (q_ne I.r) (u_n S 3 I.e.n0 (u_1 (u_v S 2))) w_de_int) (w_dw_or1 (zBD (w_dt_tru (zCI S 0 5 rfl rfl rfl rfl rfl b_str I.e.n4 I.e.n10 (u_x (u_v S 2) w_de_int) (zAA rfl) (zAA rfl) rfl) (fun _=>rfl))))))))) (u_r zA4) zAR) (zA3 (zAY (w_pw_pt (zCW (u_t (q_eq I.r) (u_x (u_v S 2) w_de_int) w_de_str) (zCC (w_pw_pt (w_dw_or (u_t (q_ne I.r) (u_n S 3 I.e.n0 (u_1 (u_v S 2))) w_de_int) (w_dw_or (zBD (w_dt_tru (u_f S 4 (I.c (zB8 A)) (u_1 (u_x (u_v S 2) w_de_int))) (fun _=>rfl))) (w_dw_or1 (zBD (w_dt_tru (u_f S 4 (I.c (zB8 A)) (u_1 (u_x (u_v S 2) w_de_int))) (fun _=>rfl)))))))))) (u_r zA4) zAR)))))) (fun _=>rfl)) (u_r zA4)))
theorem o__law_spoilt:DefOkL P w K mg base 1 "_law_spoilt" [.lst .leaf,.leaf,.leaf] m__law_spoilt:=mkN A.f30 A.g ["rows", "draw", "many"] bn3 rfl ["way", "at", "reason"] ["len", "max"] [0,1,2,3,4,5] [] [0,1] fun X S I hp=>
 (zBX (zEX S false 3 rfl rfl rfl (zAT (u_v S 1) w_de_int)) (zBX (zEX S false 4 rfl rfl rfl (zAT (zBJ (u_v S 1) w_de_int) (w_cb_max S 1 rfl rfl I.e.n11 (u_c w_de_int (u_1 (u_n S 0 I.e.n0 (u_1 (u_v S 0))))) (zAA rfl) rfl))) (zBX (zEX S false 5 rfl rfl rfl (u_x (zAZ .leaf (u_c (w_de_tup (u_c w_de_str (u_1 (u_x w_de_str (zAT (zBJ (u_v S 1) w_de_int) w_de_int))))) (u_1 (w_de_tup (u_c w_de_str (u_c (w_de_sub (zAT (zBJ (u_v S 1) w_de_int) w_de_int) w_de_int) (u_1 (zAT (zBJ (u_v S 1) w_de_int) (zAU (u_v S 2) w_de_int))))))))) (zAT (zBJ (u_v S 1) w_de_int) w_de_int))) (zBX (zD5 (w_pw_pt (zCW (u_t (q_eq I.r) (u_v S 3) w_de_int) (zCC (u_t (q_gt I.r) (u_n S 0 I.e.n0 (u_1 (u_v S 0))) w_de_int)))) (zCV (w_ns_popD S 0 (u_v S 4))) zC9) (zBX (zD5 (w_pw_pt (zCW (u_t (q_eq I.r) (u_v S 3) w_de_int) (zCC (u_t (q_gt I.r) (u_n S 0 I.e.n0 (u_1 (u_v S 0))) w_de_int)))) (zCV (w_ns_insP S 0 (u_v S 4))) zC9) (zBX (zD5 (w_pw_pt (zCW (u_t (q_in I.r) (u_v S 3) (w_de_tup (u_c w_de_int (u_1 w_de_int)))) (zCC (u_t (q_gt I.r) (u_n S 0 I.e.n0 (u_1 (u_v S 0))) w_de_int)))) (zCV (w_ns_setI S 0 rfl rfl (w_de_tup (u_c (u_x (zCP S 0 rfl rfl (u_v S 4) (fun _ _=>rfl)) w_de_int) (u_c (u_x (zCP S 0 rfl rfl (u_v S 4) (fun _ _=>rfl)) w_de_int) (u_1 (u_v S 5))))) (u_v S 4) rfl rfl rfl (fun _=>rfl))) zC9) (zBX (zD5 (u_t (q_eq I.r) (u_v S 3) w_de_int) (zCV (w_ns_append S 0 rfl rfl (w_de_tup (u_c (zAT (zBJ (u_v S 1) w_de_int) (u_v S 2)) (u_c (zAT (zBJ (u_v S 1) w_de_int) (u_v S 2)) (u_1 (u_v S 5))))) (zAN rfl) rfl rfl rfl rfl)) zC9) (zCV (zD5 (w_pw_pt (zCW (u_t (q_eq I.r) (u_v S 3) w_de_int) (zCC (u_t (q_gt I.r) (u_n S 0 I.e.n0 (u_1 (u_v S 0))) w_de_int)))) (zCV (w_ns_setI S 0 rfl rfl (w_de_tup (u_c (u_x (zCP S 0 rfl rfl (u_v S 4) (fun _ _=>rfl)) w_de_int) (u_c (u_x (zCP S 0 rfl rfl (u_v S 4) (fun _ _=>rfl)) w_de_int) (u_1 (u_x (zCP S 0 rfl rfl (u_v S 4) (fun _ _=>rfl)) w_de_int))))) (u_v S 4) rfl rfl rfl (fun _=>rfl))) zC9)))))))))
theorem o_law {fa:Addr} (hfa:mg "law"=some (.ref fa)):∃fd:FuncData,(∀(s:Shared) (v:Value),BindsTo s fd ⟨[v],[]⟩ [("script",v)])/\∀base:Heap,K.In base->base.Ns mainGlobals mg->FnOk P w K mg base CX0 8 fa fd ["script"] (spD K 1 m_law):=mkL A.f31 A.g "script" bn1 hfa ["limit", "world", "many", "cell", "one", "other", "handed", "rows", "turn", "asked", "told", "found"] ["_law_cell_at", "_law_like_world", "len", "_law_twin", "range", "unlike", "_law_alike", "_law_formed_rows", "_law_hold", "list", "_law_spoilt", "are_unlike_by", "isinstance", "bool"] [0,1,2,3,4,5,6,7,8,9,10,11,12] [] [0,1,2,3,4,5,6,7,8,9,10,11,12,13] fun base X S I hp=>
 (zAD (u_s S false 1 (u_x (zAZ .leaf (u_c w_de_int (u_c w_de_int (u_c w_de_int (u_1 w_de_int))))) (zAT (u_f S 0 (I.c (zA5 A)) (u_c (u_v S 0) (u_1 w_de_int))) w_de_int))) (zAD (u_s S false 2 (u_f S 1 (I.c (o__law_like_world A)) (u_c (u_v S 0) (u_c w_de_int (u_1 (u_v S 1)))))) (zAD (u_s S false 3 (u_n S 2 I.e.n0 (u_1 (u_x (u_v S 2) w_de_int)))) (zAD (u_s S false 4 (u_f S 0 (I.c (zA5 A)) (u_c (u_v S 0) (u_1 w_de_int)))) (zAD (u_s S false 5 (zAT (u_v S 4) (u_v S 3))) (zAD (u_s S false 6 (zAT (zBJ (u_v S 4) w_de_int) (u_v S 3))) (zAD (u_s S false 7 (u_f S 3 (I.c (o__law_twin A)) (u_1 (u_v S 2)))) (zAD (u_s S true 8 (zAZ .leaf w_da_nil)) (zAD (zCX S 9 rfl rfl hp (w_cr1 S 4 rfl rfl I.e.n1 (u_1 w_de_int) (zAN rfl)) (zAD (u_s S true 12 (u_f S 5 (I.c (o_unlike A)) (u_c (u_v S 7) (u_c (u_v S 5) (u_1 (u_v S 6)))))) (zAD (zAY (w_pw_pt (w_dw_or (u_t (q_ne I.r) (u_e (q_is I.r) (u_v S 12) w_de_none) (w_ce_alkK S I.r 6 rfl rfl (I.al (o__law_alike A)) 2 false 5 6 rfl rfl rfl rfl rfl rfl)) (w_dw_or1 (u_t (q_ne I.r) (u_v S 7) (u_v S 2))))) (u_r zA4) zAR) (zA3 (zAY (u_t (q_isnot I.r) (u_v S 12) w_de_none) (zAD (zAY (w_pw_pt (w_dw_or (zBD (w_dt_tru (u_f S 7 (I.c (o__law_formed_rows A)) (u_1 (u_v S 12))) (fun _=>rfl))) (w_dw_or (zBD (w_dt_tru (u_f S 8 (I.c (o__law_hold A)) (u_c (u_v S 2) (u_1 (u_v S 12)))) (fun _=>rfl))) (w_dw_or1 (u_t (q_ne I.r) (w_ce_slV (u_x (u_v S 12) (w_ce_neg w_de_int)) w_de_int) (w_de_tup (u_c (u_v S 5) (u_1 (u_v S 6))))))))) (u_r zA4) zAR) (zAD (u_s S true 8 (w_cb_listO S 9 rfl rfl I.e.n7 12 rfl rfl (zAN rfl))) (zA3 (zBY S 12 rfl rfl (w_de_tup (u_c w_de_int (u_c w_de_int (u_1 (w_de_tup (u_c w_de_str (u_1 w_de_str))))))) (zAN rfl) rfl rfl rfl rfl)))) zAR)))) (fun _=>rfl)) (zAD (zCX S 9 rfl rfl hp (w_cr1 S 4 rfl rfl I.e.n1 (u_1 (zAT (u_f S 0 (I.c (zA5 A)) (u_c (u_v S 0) (u_1 w_de_int))) w_de_int)) (zAN rfl)) (zA3 (w_cs_lentI S 8 10 (I.l (o__law_spoilt A)) (u_c (u_f S 0 (I.c (zA5 A)) (u_c (u_v S 0) (u_1 (zAU w_de_int (u_v S 9))))) (u_1 (u_v S 3))))) (fun _=>rfl)) (zAD (u_s S false 10 (w_cb_listO S 9 rfl rfl I.e.n7 8 rfl rfl (zAN rfl))) (zAD (u_s S false 11 (u_f S 11 (I.c (o_are_unlike_by A)) (u_c (u_v S 7) (u_1 (u_v S 10))))) (u_r (zB6 (zCI S 12 13 rfl rfl rfl rfl rfl b_bool I.e.n4 I.e.n6 (u_v S 11) (zAA rfl) (zAA rfl) rfl) (zB6 (u_e (q_eq I.r) (u_v S 11) (u_f S 8 (I.c (o__law_hold A)) (u_c (u_v S 2) (u_1 (u_v S 8))))) (zB6 (u_e (q_eq I.r) (u_v S 10) (u_v S 8)) (zCU (u_e (q_eq I.r) (u_v S 7) (u_v S 2)))))))))))))))))))
end
end KC.Ap.L
open PySem PySem.W PyProof.Rows
def PySem.W.Fast.tw9326123362920405378:=0
def PySem.W.Fast.tw12862744331127631564:=0
def PySem.W.Fast.tw2946608119366012977:=0
def PySem.W.Fast.tw1073231441368584467:=0
def PySem.W.Fast.tw14191945406113072148:=0
def PySem.W.Fast.tw280044664059776820:=0
def PySem.W.Fast.tw5597479478354328597:=0
def PySem.W.Fast.tw3413659911965272153:=0
def PySem.W.Fast.tw2698223733875863705:=0
def PySem.W.Fast.tw2516201041228594973:=0
def PySem.W.Fast.tw3262989669435840030:=0
set_option maxRecDepth 100000 in
set_option maxHeartbeats 0 in
theorem PySem.Challenge.cw_foreseehall_k44_rows_that_show_unlikenes_holds : PySem.Challenge.rw_foreseehall_k44_rows_that_show_unlikenes.Holds := by
 w_on;o_law;k_head;(case hw=>w_witness2)
 k_fill
 refine T.walkG (j:=8) (l:=PySem.Challenge.rw_foreseehall_k44_rows_that_show_unlikenes) KC.Ap.L.law_true ⟨rfl,by decide,by decide,rfl⟩ rfl rfl (fun w h Y=>PySem.W.kIn_of Y) ?F
 case F=>
  intro w mg fa h KX G hmg
  refine' KC.Ap.L.o_law (.mk (.mk (T.gn KX G ?z0) (T.gn KX G ?z1) (T.gn KX G ?z2) (T.gn KX G ?z3) (T.gn KX G ?z4) (T.gn KX G ?z5) (T.gn KX G ?z6) (T.gn KX G ?z7) (T.gn KX G ?z8) (T.gn KX G ?z9) (T.gn KX G ?z10) (T.gn KX G ?z11) (T.gt KX G ?e0 ?q0 ?v0) (T.gi KX G ?e1) (T.gt KX G ?e2 ?q2 ?v2)) (T.ft KX G ?a0 ?l0 ?c0 ?k0) (T.ft KX G ?a1 ?l1 ?c1 ?k1) (T.ft KX G ?a2 ?l2 ?c2 ?k2) (T.ft KX G ?a3 ?l3 ?c3 ?k3) (T.ft KX G ?a4 ?l4 ?c4 ?k4) (T.ft KX G ?a5 ?l5 ?c5 ?k5) (T.ft KX G ?a6 ?l6 ?c6 ?k6) (T.ft KX G ?a7 ?l7 ?c7 ?k7) (T.ft KX G ?a8 ?l8 ?c8 ?k8) (T.ft KX G ?a9 ?l9 ?c9 ?k9) (T.ft KX G ?a10 ?l10 ?c10 ?k10) (T.ft KX G ?a11 ?l11 ?c11 ?k11) (T.ft KX G ?a12 ?l12 ?c12 ?k12) (T.ft KX G ?a13 ?l13 ?c13 ?k13) (T.ft KX G ?a14 ?l14 ?c14 ?k14) (T.ft KX G ?a15 ?l15 ?c15 ?k15) (T.ft KX G ?a16 ?l16 ?c16 ?k16) (T.ft KX G ?a17 ?l17 ?c17 ?k17) (T.ft KX G ?a18 ?l18 ?c18 ?k18) (T.ft KX G ?a19 ?l19 ?c19 ?k19) (T.ft KX G ?a20 ?l20 ?c20 ?k20) (T.ft KX G ?a21 ?l21 ?c21 ?k21) (T.ft KX G ?a22 ?l22 ?c22 ?k22) (T.ft KX G ?a23 ?l23 ?c23 ?k23) (T.ft KX G ?a24 ?l24 ?c24 ?k24) (T.ft KX G ?a25 ?l25 ?c25 ?k25) (T.ft KX G ?a26 ?l26 ?c26 ?k26) (T.ft KX G ?a27 ?l27 ?c27 ?k27) (T.ft KX G ?a28 ?l28 ?c28 ?k28) (T.ft KX G ?a29 ?l29 ?c29 ?k29) (T.ft KX G ?a30 ?l30 ?c30 ?k30) (T.ft KX G ?a31 ?l31 ?c31 ?k31)) hmg
  case a0|l0|c0|k0|a1|l1|c1|k1|a2|l2|c2|k2|a3|l3|c3|k3|a4|l4|c4|k4|a5|l5|c5|k5|a6|l6|c6|k6|a7|l7|c7|k7|a8|l8|c8|k8|a9|l9|c9|k9|a10|l10|c10|k10|a11|l11|c11|k11|a12|l12|c12|k12|a13|l13|c13|k13|a14|l14|c14|k14|a15|l15|c15|k15|a16|l16|c16|k16|a17|l17|c17|k17|a18|l18|c18|k18|a19|l19|c19|k19|a20|l20|c20|k20|a21|l21|c21|k21|a22|l22|c22|k22|a23|l23|c23|k23|a24|l24|c24|k24|a25|l25|c25|k25|a26|l26|c26|k26|a27|l27|c27|k27|a28|l28|c28|k28|a29|l29|c29|k29|a30|l30|c30|k30|a31|l31|c31|k31|z0|z1|z2|z3|z4|z5|z6|z7|z8|z9|z10|z11|e0|q0=>k_is
  case v0=>kernel_rfl
  case e1|e2|q2=>k_is
  case v2=>kernel_rfl
