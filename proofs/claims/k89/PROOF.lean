import PyProof.Rows.All
import Wide.All
import OpenK.AllK
import Wide.FinOn
import PyProof.EqAt
import PyProof.EqKinds
import PyProof.TupleCall
import PyProof.StrBlockH
import PyProof.StrWalks
import PyProof.StrCalls
import PyProof.SetRoads
import PyProof.DictRoadsH
import Lean
import PySem.Challenge.RW_foreseehall_k89_whole_ways_in_least_worl
open List (mem_append_right mem_append_left getElem?_eq_getElem getD_eq_getElem?_getD length_map mem_cons_of_mem getElem?_map length_set append_assoc mem_cons_self map_cons length_append mem_of_getElem? getElem?_set_ne size_toArray length_cons getElem?_set_self set_set getElem?_append_left getElem_mem getElem?_append_right mem_cons nodup_nil not_mem_nil lookup_cons map_map length_take nil_append take_of_length_le flatten_cons all_eq_true getElem?_eq_none contains_iff_mem any_eq_true length_filter_le append_nil length_drop length_singleton getElem_of_mem filter_cons length_dropLast mem_range length_range mem_map length_nil map_append perm_append_comm ext_getElem? pairwise_map map_nil drop_eq_getElem_cons getElem?_take cons_append map_take ext_getElem getElem_map filterMap_cons getElem?_replicate getElem?_toArray drop_eq_nil_of_le find?_cons sum_cons foldl_cons exists_mem_of_ne_nil getElem?_range getElem_range)
set_option Elab.async false
set_option linter.all false
set_option maxRecDepth 100000
set_option maxHeartbeats 4000000
set_option maxRecDepth 10000
abbrev Fg:=PySem.W.Frag
abbrev Lw (i:Nat):PySem.Stmt:=(PySem.Challenge.pw_foreseehall_k89_whole_ways_in_least_worl.main.body)[i]!
theorem LN {α:Type _} {a:α} (s:List α) {t:List α} (h:a∈t):a∈s++t:=List.mem_append_right s h
theorem LO {α:Type _} {a:α} {s:List α} (t:List α) (h:a∈s):a∈s++t:=List.mem_append_left t h
theorem LP {α:Type _} {a:α} {s t:List α} (h:a∈s++t):a∈s\/a∈t:=List.mem_append.mp h
theorem LQ {α:Type _} {a b:α} {t:List α} (h:a∈b::t):a=b\/a∈t:=List.mem_cons.mp h
theorem LR {α:Type _} {l:List α} {i:Nat} (h:i<l.length):l[i]?=some l[i]:=List.getElem?_eq_getElem h
theorem LU {α:Type _} {l:List α} {i:Nat} {a:α}:l.getD i a=l[i]?.getD a:=List.getD_eq_getElem?_getD
theorem LW {α:Type _} (y:α) {a:α} {l:List α} (h:a∈l):a∈y::l:=List.mem_cons_of_mem y h
abbrev LX {α:Type _} {a b:List α}:=(List.nodup_append (l₁:=a) (l₂:=b)).mp
abbrev LY {α:Type _} {a:α} {l:List α} {i:Nat}:=(List.getElem?_eq_some_iff (l:=l) (i:=i) (a:=a)).mp
abbrev LZ:=@PySem.wpAny_bind
abbrev L0:=@PySem.wpAny_pure
abbrev L1:=@PySem.Heap.get?_push_of_some
abbrev L3:=@Nat.le_refl
abbrev L4:=PySem.PyData
namespace L2
open PySem PySem.Spec PyProof.Rows
abbrev cT:=Sum Int Str
def iI:cT->Value->Bool
 | .inl k,v=>Value.isInt k v
 | .inr x,v=>Value.isStrOf x v
def Cm (w:World):cT->Int
 | .inl k=>hashInt k
 | .inr x=>hashStr w x
theorem vP:∀{k:cT} {v:Value},iI k v=true->(∃i t,k=Sum.inl i/\v=Value.int i t)\/(∃x t,k=Sum.inr x/\v=Value.str x t)
 | .inl i,v,h=>by
  obtain ⟨t,e⟩:=Value.isInt_shape (k:=i) (v:=v) h
  exact .inl ⟨i,t,rfl,e⟩
 | .inr x,v,h=>by
  obtain ⟨t,e⟩:=Value.isStrOf_shape (x:=x) (v:=v) h
  exact .inr ⟨x,t,rfl,e⟩
theorem qA (i:Int) (t:Tok):iI (.inl i) (.int i t)=true:=by simp [iI,Value.isInt]
theorem qz (x:Str) (t:Tok):iI (.inr x) (.str x t)=true:=by simp [iI,Value.isStrOf]
theorem Cj (a b:Int):decide ((Sum.inl a:cT)=Sum.inl b)=(a==b):=by
 by_cases e:a=b
 ·subst e;simp
 ·have h:¬(Sum.inl a:cT)=Sum.inl b:=fun q=>e (Sum.inl.inj q)
  rw [decide_eq_false h];exact (beq_eq_false_iff_ne.mpr e).symm
theorem Cf (a b:Str):decide ((Sum.inr a:cT)=Sum.inr b)=decide (a=b):=by
 by_cases e:a=b
 ·subst e;simp
 ·have h:¬(Sum.inr a:cT)=Sum.inr b:=fun q=>e (Sum.inr.inj q)
  rw [decide_eq_false h,decide_eq_false e]
theorem Ci (a:Int) (b:Str):decide ((Sum.inl a:cT)=Sum.inr b)=false:=decide_eq_false (fun q=>nomatch q)
theorem Cg (a:Str) (b:Int):decide ((Sum.inr a:cT)=Sum.inl b)=false:=decide_eq_false (fun q=>nomatch q)
def jE (prog:Program) (w:World):PySem.KeyKind prog w cT where
 is:=iI
 hash:=Cm w
 inj:=fun v a b ha hb=>by
  rcases vP ha with ⟨i,t,rfl,rfl⟩ | ⟨x,t,rfl,rfl⟩
  ·rcases vP hb with ⟨j,u,rfl,e⟩ | ⟨y,u,rfl,e⟩
   ·injection e with e1 _;rw [e1]
   ·exact nomatch e
  ·rcases vP hb with ⟨j,u,rfl,e⟩ | ⟨y,u,rfl,e⟩
   ·exact nomatch e
   ·injection e with e1 _;rw [e1]
 byValue:=fun k v h=>by
  rcases vP h with ⟨i,t,rfl,rfl⟩ | ⟨x,t,rfl,rfl⟩<;>rfl
 pyHash:=fun hv h=>by
  rcases vP hv with ⟨i,t,rfl,rfl⟩ | ⟨x,t,rfl,rfl⟩
  ·exact wpAny_pyHash_int h
  ·exact wpAny_pyHash_str h
 eqBool:=fun hu hv h=>by
  rcases vP hu with ⟨i,t,rfl,rfl⟩ | ⟨x,t,rfl,rfl⟩
  ·rcases vP hv with ⟨j,u,rfl,rfl⟩ | ⟨y,u,rfl,rfl⟩
   ·rw [Cj] at h;exact wpAny_eqBool_int h
   ·rw [Ci] at h;exact SeqAt.EqAt.int_str i t y u _ _ _ _ h
  ·rcases vP hv with ⟨j,u,rfl,rfl⟩ | ⟨y,u,rfl,rfl⟩
   ·rw [Cg] at h;exact SeqAt.EqAt.str_int x t j u _ _ _ _ h
   ·rw [Cf] at h;exact wpAny_eqBool_str h
 «strs»:=fun k x t v h=>by
  rcases vP h with ⟨i,u,rfl,e⟩ | ⟨y,u,rfl,e⟩
  ·exact nomatch e
  ·injection e with e1 _
   subst e1
   cases v<;>rfl
theorem kF (prog:Program) (w:World) (i:Int) (t:Tok):(jE prog w).is (.inl i) (.int i t)=true:=qA i t
theorem kE (prog:Program) (w:World) (x:Str) (t:Tok):(jE prog w).is (.inr x) (.str x t)=true:=qz x t
inductive V where
 | non | bl (b:Bool) | int (i:Int) | str (x:Str) | byt (b:Array UInt8) | flt (b:UInt64) | ref (a:Addr) | ty (n:String)
 deriving DecidableEq
def RelV:V->Value->Prop
 | .non,u=>u=Value.none
 | .bl b,u=>u=Value.bool b
 | .int i,u=>∃t,u=Value.int i t
 | .str x,u=>∃t,u=Value.str x t
 | .byt b,u=>∃t,u=Value.bytes b t
 | .flt b,u=>∃t,u=Value.float b t
 | .ref a,u=>u=Value.ref a
 | .ty n,u=>u=Value.type n
abbrev Vals:List V->List Value->Prop:=Paired RelV
theorem Vals.length {xs:List V} {us:List Value} (r:Vals xs us):xs.length=us.length:=Paired.length r
theorem Vals.get:∀{xs:List V} {us:List Value} {i:Nat} {x:V},Vals xs us->xs[i]?=some x->∃u,us[i]?=some u/\RelV x u
 | _,_,_,_,.nil,e=>by simp at e
 | _,_,0,_,.cons r _,e=>by simp at e;subst e;exact ⟨_,rfl,r⟩
 | _,_,i+1,x,.cons _ t,e=>by
  obtain ⟨u,h1,h2⟩:=Vals.get (i:=i) (x:=x) t (by simpa using e)
  exact ⟨u,by simpa using h1,h2⟩
theorem Vals.set {x:V} {u:Value} (r:RelV x u):∀{xs:List V} {us:List Value} (i:Nat),Vals xs us->Vals (xs.set i x) (us.set i u)
 | _,_,_,.nil=>.nil
 | _,_,0,.cons _ t=>.cons r t
 | _,_,i+1,.cons q t=>.cons q (Vals.set r i t)
theorem Vals.append:∀{xs ys:List V} {us ws:List Value},Vals xs us->Vals ys ws->Vals (xs++ys) (us++ws)
 | _,_,_,_,.nil,s=>s
 | _,_,_,_,.cons r t,s=>.cons r (Vals.append t s)
theorem Vals.take:∀{xs:List V} {us:List Value} (n:Nat),Vals xs us->Vals (xs.take n) (us.take n)
 | _,_,0,_=>.nil
 | _,_,_+1,.nil=>.nil
 | _,_,n+1,.cons r t=>.cons r (Vals.take n t)
theorem Vals.drop:∀{xs:List V} {us:List Value} (n:Nat),Vals xs us->Vals (xs.drop n) (us.drop n)
 | _,_,0,r=>r
 | _,_,_+1,.nil=>.nil
 | _,_,n+1,.cons _ t=>Vals.drop n t
def RelO:Option V->Option Value->Prop
 | some v,some u=>RelV v u
 | none,none=>True
 | _,_=>False
def KV {κ:Type}:List (κ×V)->List (κ×Value)->Prop:=Paired fun (p:κ×V) (q:κ×Value)=>p.1=q.1/\RelV p.2 q.2
def kV:cT->V
 | .inl i=>.int i
 | .inr x=>.str x
inductive HO where
 | lst (xs:List V)
 | tup (xs:List V)
 | dK (kvs:List (cT×V)) | dT (kvs:List (List cT×V))
 | set (S:Int->Bool) (n:Nat)
 | ins (C dx:Addr) (fs:List (Str×V))
 | own (x:Addr)
 | xd (fs:List (Str×V))
 | met (f x:Addr)
 | rng (lo hi:Int)
 | frz (o:Obj) (u:HO)
 | tbl (ps:Array Value)
 | ext (φ:Heap->Prop)
abbrev Hp:=Addr->Option HO
def bb (H:Hp) (a:Addr) (o:HO):Hp:=fun b=>if b=a then some o else H b
theorem dA {H:Hp} {a:Addr} {o:HO}:bb H a o a=some o:=by unfold bb;rw [if_pos rfl]
theorem cw {H:Hp} {a b:Addr} {o:HO} (h:b≠a):bb H a o b=H b:=by unfold bb;rw [if_neg h]
theorem vO {H:Hp} {a b:Addr} {o:HO} (h:H a=some o) (h':H b=none):a≠b:=by
 intro e;subst e;rw [h] at h';cases h'
section
variable (P:Program) (w:World)
def ObjOk (H:Hp) (h:Heap) (a:Addr):HO->Prop
 | .lst xs=>xs.length<=sizeLine/\∃(its:List Value) (n:Nat),Vals xs its/\h.get? a=some { cls:=.type "list",data:=.seq its.toArray n }
 | .tup xs=>xs.length<=sizeLine/\∃its:List Value,Vals xs its/\IsTup h a its.toArray
 | .dK kvs=>kvs.length<=sizeLine/\(a==sysModules)=false/\∃vs,KV kvs vs/\h.DictOf (jE P w) a vs
 | .dT kvs=>kvs.length<=sizeLine/\(a==sysModules)=false/\∃xs:List (List cT×Addr×Value),
   Paired (fun (p:List cT×V) (q:List cT×Addr×Value)=>p.1=q.1/\H q.2.1=some (.tup (p.1.map kV))/\RelV p.2 q.2.2) kvs xs /\
   ∃o es ep,h.get? a=some o/\o.ExactDict/\o.data=.dict es ep/\es.toList=xs.map (entryOfKey (tupleKind (jE P w)))/\(xs.map (·.1)).Nodup
 | .set S n=>h.SetOf (intKind P w) a S n
 | .ins C dx fs=>H dx=some (.own a)/\fs.length<=1000/\dx≠a/\h.get? a=some (PySem.W.instObj C dx) /\
   ∃mA,h.Ns1 dx mA/\(∀f,RelO (fs.lookup f) (mA f))/\PySem.Within mA (fs.map (·.1))
 | .own _=>∃o,h.get? a=some o
 | .xd fs=>∃mA,h.Ns1 a mA/\∀f,RelO (fs.lookup f) (mA f)
 | .rng lo hi=>∃t u v,h.get? a=some { cls:=.type "range",data:=.fields #[.int lo t,.int hi u,.int 1 v] }
 | .frz o u=>h.get? a=some o/\ObjOk H h a u
 | .tbl ps=>h.get? a=some { cls:=.none,data:=.fields ps }
 | .met f x=>h.get? a=some (PySem.W.methodObj (.ref f) (.ref x))
 | .ext φ=>φ h/\(∃o,h.get? a=some o)/\∀h1 h2:Heap,φ h1->(∀o,h1.get? a=some o->h2.get? a=some o)->φ h2
def HOk (H:Hp) (h:Heap):Prop:=∀a o,H a=some o->ObjOk P w H h a o
end
section
variable {P:Program} {w:World} {H H':Hp} {h h':Heap} {a:Addr} {o:HO}
theorem ObjOk.lt (x:ObjOk P w H h a o):a<h.objs.size:=by
 cases o with
 | lst xs=>obtain ⟨_,_,_,_,e⟩:=x;exact Heap.lt_size e
 | tup xs=>obtain ⟨_,_,_,p⟩:=x;exact p.lt
 | dK kvs=>obtain ⟨_,_,_,_,o,_,_,e,_⟩:=x;exact Heap.lt_size e
 | dT kvs=>obtain ⟨_,_,_,_,o,_,_,e,_⟩:=x;exact Heap.lt_size e
 | set S n=>obtain ⟨o,_,_,_,e,_⟩:=x;exact Heap.lt_size e
 | ins C dx fs=>obtain ⟨_,_,_,e,_⟩:=x;exact Heap.lt_size e
 | own y=>obtain ⟨_,e⟩:=x;exact Heap.lt_size e
 | xd fs=>obtain ⟨_,⟨_,_,_,e,_⟩,_⟩:=x;exact Heap.lt_size e
 | rng lo hi=>obtain ⟨_,_,_,e⟩:=x;exact Heap.lt_size e
 | frz ob u=>obtain ⟨e,_⟩:=x;exact Heap.lt_size e
 | tbl ps=>exact Heap.lt_size (show h.get? a=some _ from x)
 | met f y=>exact Heap.lt_size (show h.get? a=some _ from x)
 | ext φ=>obtain ⟨_,⟨_,e⟩,_⟩:=x;exact Heap.lt_size e
theorem Paired.mapP {α β:Type} {F G:α->β->Prop}:∀{l₁:List α} {l₂:List β},Paired F l₁ l₂->(∀a b,F a b->G a b)->Paired G l₁ l₂
 | _,_,.nil,_=>.nil
 | _,_,.cons r t,f=>.cons (f _ _ r) (Paired.mapP t f)
theorem ObjOk.stay (x:ObjOk P w H h a o) (k:∀b u,(b=a\/H b=some (.own a))->h.get? b=some u->h'.get? b=some u)
  (ho:∀b,H b=some (.own a)->H' b=some (.own a)) (ht:∀b xs,H b=some (.tup xs)->H' b=some (.tup xs)):ObjOk P w H' h' a o:=by
 induction o with
 | lst xs=>obtain ⟨z,its,n,r,e⟩:=x;exact ⟨z,its,n,r,k _ _ (.inl rfl) e⟩
 | tup xs=>obtain ⟨z,its,r,ob,e,c⟩:=x;exact ⟨z,its,r,ob,k _ _ (.inl rfl) e,c⟩
 | dK kvs=>obtain ⟨z,y,vs,r,ob,es,ep,e,c⟩:=x;exact ⟨z,y,vs,r,ob,es,ep,k _ _ (.inl rfl) e,c⟩
 | dT kvs=>
  obtain ⟨z,y,xs,r,ob,es,ep,e,c⟩:=x;exact ⟨z,y,xs,Paired.mapP r fun p q z=>⟨z.1,ht _ _ z.2.1,z.2.2⟩,ob,es,ep,k _ _ (.inl rfl) e,c⟩
 | set S n=>obtain ⟨ob,es,ep,t,e,c⟩:=x;exact ⟨ob,es,ep,t,k _ _ (.inl rfl) e,c⟩
 | ins C dx fs=>
  obtain ⟨d,z,ne,e,mA,⟨od,es,ep,e2,c⟩,r⟩:=x;exact ⟨ho _ d,z,ne,k _ _ (.inl rfl) e,mA,⟨od,es,ep,k _ _ (.inr d) e2,c⟩,r⟩
 | own y=>obtain ⟨ob,e⟩:=x;exact ⟨ob,k _ _ (.inl rfl) e⟩
 | xd fs=>obtain ⟨mA,⟨od,es,ep,e,c⟩,r⟩:=x;exact ⟨mA,⟨od,es,ep,k _ _ (.inl rfl) e,c⟩,r⟩
 | rng lo hi=>obtain ⟨t,u,v,e⟩:=x;exact ⟨t,u,v,k _ _ (.inl rfl) e⟩
 | frz ob u ih=>obtain ⟨e,q⟩:=x;exact ⟨k _ _ (.inl rfl) e,ih q⟩
 | tbl ps=>
  have e:h.get? a=some { cls:=.none,data:=.fields ps }:=x
  show h'.get? a=some { cls:=.none,data:=.fields ps }
  exact k a _ (.inl rfl) e
 | met f y=>
  have e:h.get? a=some (PySem.W.methodObj (.ref f) (.ref y)):=x
  show h'.get? a=some (PySem.W.methodObj (.ref f) (.ref y))
  exact k a _ (.inl rfl) e
 | ext φ=>obtain ⟨p,⟨o,e⟩,st⟩:=x;exact ⟨st _ _ p fun o q=>k _ _ (.inl rfl) q,⟨o,k _ _ (.inl rfl) e⟩,st⟩
theorem HOk.lt (x:HOk P w H h) (e:H a=some o):a<h.objs.size:=(x a o e).lt
theorem HOk.fresh (x:HOk P w H h) (e:h.objs.size<=a):H a=none:=by
 cases q:H a with
 | none=>rfl
 | some u=>exact absurd (Nat.lt_of_lt_of_le (x.lt q) e) (Nat.lt_irrefl _)
theorem HOk.kept (x:HOk P w H h) (k:∀b u,h.get? b=some u->h'.get? b=some u):HOk P w H h':=fun a o e=>
 (x a o e).stay (fun b u _ q=>k b u q) (fun _ q=>q) fun _ _ q=>q
theorem HOk.laid (x:HOk P w H h) (k:∀b u,h.get? b=some u->h'.get? b=some u) (hp:h.objs.size<=a) (new:ObjOk P w (bb H a o) h' a o):HOk P w (bb H a o) h':=fun b u e=>by
 have hn:=x.fresh hp
 by_cases hb:b=a
 ·subst hb;rw [dA] at e;cases e;exact new
 ·rw [cw hb] at e
  exact (x b u e).stay (fun c v _ q=>k c v q) (fun c q=>by rw [cw (vO q hn)];exact q) fun c xs q=>by rw [cw (vO q hn)];exact q
end
def Rd (H:Hp) (a:Addr) (u:HO):Prop:=H a=some u\/∃o,H a=some (.frz o u)
theorem Rd.of {H:Hp} {a:Addr} {u:HO} (h:H a=some u):Rd H a u:=.inl h
theorem Rd.ok {P:Program} {w:World} {H:Hp} {h:Heap} {a:Addr} {u:HO} (r:Rd H a u) (x:HOk P w H h):ObjOk P w H h a u:=by
 rcases r with r | ⟨o,r⟩
 ·exact x a u r
 ·obtain ⟨_,q⟩:=x a _ r
  exact q
def FK:Option HO->Prop
 | some (.lst _)=>True
 | some (.dK _)=>True
 | some (.dT _)=>True
 | some (.set _ _)=>True
 | some (.ins _ _ _)=>True
 | some (.ext _)=>True
 | _=>False
section
variable {P:Program} {w:World} {H:Hp} {h h':Heap} {x e:Addr} {o':HO}
theorem HOk.write (ok:HOk P w H h) (mu:FK (H x)) (he:e=x\/H e=some (.own x)) (k:∀b u,b≠e->h.get? b=some u->h'.get? b=some u) (heo:∃u,h'.get? e=some u)
  (new:ObjOk P w (bb H x o') h' x o'):HOk P w (bb H x o') h':=fun b u q=>by
 have nown:∀c y,H c=some (.own y)->c≠x:=fun c y r z=>by subst z;rw [r] at mu;exact mu
 have ntup:∀c xs,H c=some (.tup xs)->c≠x:=fun c xs r z=>by subst z;rw [r] at mu;exact mu
 by_cases hb:b=x
 ·subst hb;rw [dA] at q;cases q;exact new
 ·rw [cw hb] at q
  by_cases hbe:b=e
  ·have q':H b=some (.own x):=by
    rcases he with z | z
    ·exact absurd (hbe.trans z) hb
    ·rw [hbe];exact z
   rw [q] at q';cases q'
   obtain ⟨v,hv⟩:=heo;exact ⟨v,by rw [hbe];exact hv⟩
  ·refine (ok b u q).stay (fun c v hc r=>k c v ?_ r) (fun c r=>by rw [cw (nown c b r)];exact r) fun c xs r=>by rw [cw (ntup c xs r)];exact r
   rcases hc with rfl | hc
   ·exact hbe
   ·rintro rfl
    rcases he with z | z
    ·exact nown c b hc z
    ·rw [hc] at z;cases z;exact hb rfl
end
structure Un (fs ex:List Addr) (H H':Hp) (h h':Heap):Prop where
 keep:∀b o,h.get? b=some o->H b=none->b∉fs->b∉ex->h'.get? b=some o
 slot:∀b o,h.get? b=some o->H b=none->b∈fs->b∉ex->∃sl,h'.get? b=some { o with slots:=sl }
 free:∀b o,h.get? b=some o->H b=none->b∉ex->H' b=none
 there:∀b o,h.get? b=some o->b∉ex->∃o',h'.get? b=some o'
 tups:∀b xs,H b=some (.tup xs)->H' b=some (.tup xs)
 frzs:∀b o u,H b=some (.frz o u)->H' b=some (.frz o u)
 tbls:∀b ps,H b=some (.tbl ps)->∃more,H' b=some (.tbl (ps++more))
section
variable {fs fs' ex ex':List Addr} {H H1 H2:Hp} {h h1 h2 h':Heap} {a x e:Addr} {o:HO}
theorem Un.any (u:Un fs ex H H1 h h1) {b:Addr} {ob:Obj} (q:h.get? b=some ob) (n:H b=none) (hx:b∉ex):∃sl,h1.get? b=some { ob with slots:=sl }:=by
 by_cases hb:b∈fs
 ·exact u.slot b ob q n hb hx
 ·exact ⟨ob.slots,u.keep b ob q n hb hx⟩
theorem Un.kept (k:∀b u,h.get? b=some u->h'.get? b=some u):Un fs ex H H h h':=
 ⟨fun b ob q _ _ _=>k b ob q,fun b ob q _ _ _=>⟨ob.slots,k b ob q⟩,fun _ _ _ n _=>n,fun b ob q _=>⟨ob,k b ob q⟩,fun _ _ q=>q,fun _ _ _ q=>q,fun _ ps q=>⟨#[],by rw [q];simp⟩⟩
theorem Un.refl:Un fs ex H H h h:=Un.kept fun _ _ q=>q
theorem Un.laid (k:∀b u,h.get? b=some u->h'.get? b=some u) (hp:h.objs.size<=a) (hn:H a=none):Un fs ex H (bb H a o) h h' where
 keep:=fun b u q _ _ _=>k b u q
 slot:=fun b u q _ _ _=>⟨u.slots,k b u q⟩
 free:=fun b u q n _=>by rw [cw (Nat.ne_of_lt (Nat.lt_of_lt_of_le (Heap.lt_size q) hp))];exact n
 there:=fun b u q _=>⟨u,k b u q⟩
 tups:=fun b xs q=>by rw [cw (vO q hn)];exact q
 frzs:=fun b u xs q=>by rw [cw (vO q hn)];exact q
 tbls:=fun b ps q=>⟨#[],by rw [cw (vO q hn),q];simp⟩
theorem Un.write (mu:FK (H x)) (he:e=x\/H e=some (.own x)) (k:∀b u,b≠e->h.get? b=some u->h'.get? b=some u) (heo:∃u,h'.get? e=some u):Un fs ex H (bb H x o) h h':=by
 have hx:∀b,H b=none->b≠x:=fun b n z=>by subst z;rw [n] at mu;exact mu
 have hb:∀b,H b=none->b≠e:=fun b n z=>by
  subst z;rcases he with r | r
  ·exact hx b n r
  ·rw [n] at r;cases r
 have hm:∀b u,H b=some u->¬FK (some u)->b≠x:=fun b u q nm z=>by subst z;rw [q] at mu;exact nm mu
 refine ⟨fun b u q n _ _=>k b u (hb b n) q,fun b u q n _ _=>⟨u.slots,k b u (hb b n) q⟩,fun b u q n _=>by rw [cw (hx b n)];exact n,fun b u q _=>?_,
  fun b xs q=>by rw [cw (hm b _ q fun z=>z)];exact q,fun b u xs q=>by rw [cw (hm b _ q fun z=>z)];exact q,fun b ps q=>⟨#[],by rw [cw (hm b _ q fun z=>z),q];simp⟩⟩
 by_cases hbe:b=e
 ·subst hbe;exact heo
 ·exact ⟨u,k b u hbe q⟩
end
def G8 (h:Heap) (H:Hp):List Addr:=(List.range h.objs.size).filter fun a=>(H a).isSome
def jn (h:Heap) (H:Hp):Heap:=PySem.W.hideAll h (G8 h H)
theorem qD (h:Heap) (H:Hp):(jn h H).objs.size=h.objs.size:=PySem.W.hideAll_size _ _
theorem uV {h:Heap} {H:Hp} {b:Addr} {o:Obj} (e:h.get? b=some o) (n:H b=none):(jn h H).get? b=some o:=
 PySem.W.hideAll_get _ e fun hm=>by
  have q:(H b).isSome=true:=(List.mem_filter.mp hm).2
  rw [n] at q;simp at q
theorem xR {h:Heap} {H:Hp} {b:Addr} {o:Obj} (e:(jn h H).get? b=some o):h.get? b=some o/\H b=none:=by
 have e':h.get? b=some o:=PySem.W.of_hideAll (G8 h H) e
 refine ⟨e',?_⟩
 cases q:H b with
 | none=>rfl
 | some x=>
  have hm:b∈G8 h H:=List.mem_filter.mpr ⟨List.mem_range.mpr (Heap.lt_size e'),by simp [q]⟩
  have z:(jn h H).get? b=none:=PySem.W.hideAll_none (G8 h H) hm
  rw [z] at e;cases e
def yT (g h:Heap) (L:Addr):List (Addr×Obj):=(List.range h.objs.size).filterMap fun a=>if a=L\/(g.get? a).isSome=true then none else (h.get? a).map fun o=>(a,o)
def rest (g h:Heap) (L d:Addr):List (Addr×Obj):=(yT g h L).filter fun p=>decide (p.1≠d)
structure Mod (K:Fg) (mg:Str->Option Value) (base:Heap):Prop where
 kin:K.In base
 glob:base.Ns mainGlobals mg
 blt:∃mb,base.Ns builtinsNs mb/\∀x:Str,x ≠ "__name__"->mb x=bootBuiltins x
 nolimit:base.NoLimit
structure Cx where
 prog:Program
 w:World
 K:Fg
 mg:Str->Option Value
 base:Heap
 A:Around
 N:List Str
 s₀:Shared
 H₀:Hp
 env:Env
 outer:List Env
 stack:List Env
 ex:List Addr
 fn:Str->Bool
 calm:Bool
 pn:List (Addr×Obj)
 xe:Value->Shared->Prop
def u7 (l:List Env):List Addr:=l.filterMap (·.frame)
abbrev Cx.fs (X:Cx):List Addr:=u7 X.outer
def CY (sc:Scope) (x:Str):Prop:=sc.names.lookup x=some .local\/sc.names.lookup x=some .cell\/sc.names.lookup x=some .free
def Loc (sc:Scope) (x:Str):Prop:=sc.names.lookup x=some .local\/sc.names.lookup x=some .cell
def Look (env:Env) (h:Heap) (m:Str->Option Value) (x:Str) (u:Value):Prop:=
 (env.kindOf x=some .local/\m x=some u)\/((env.kindOf x=some .cell\/env.kindOf x=some .free)/\∃c,env.cells.lookup x=some c/\h.IsCell c (some u))
structure Cx.Ok (X:Cx):Prop where
 mod:Mod X.K X.mg X.base
 kind:X.env.scope.kind=.function
 glob:X.env.globals=mainGlobals
 blt:X.env.builtins=builtinsNs
 above:X.s₀.heap.objs.size<=X.env.locals
 inj:∀x y c,X.env.cells.lookup x=some c->X.env.cells.lookup y=some c->x=y
 has:∀x,(X.env.kindOf x=some .cell\/X.env.kindOf x=some .free)->∃c,X.env.cells.lookup x=some c
 cab:∀x c,X.fn x=true->X.env.cells.lookup x=some c->X.s₀.heap.objs.size<=c
 hd:X.calm=true->X.A.handled=none
 frames:X.A.frames=some X.stack
 stk:X.stack=X.outer\/(X.stack=X.env::X.outer/\X.env.frame=some X.env.locals)
 exf:∀b∈X.ex,b≠X.env.locals/\∀x c,X.env.cells.lookup x=some c->c≠b
 bs:∀b o,X.base.get? b=some o->X.s₀.heap.get? b=some o/\X.H₀ b=none
 bsz:X.base.objs.size<=X.s₀.heap.objs.size
 noex:∀b o,X.base.get? b=some o->b∉X.ex
 exfs:∀b∈X.ex,b∉X.fs
 funs:X.s₀.heap.FunFrames X.base X.outer
 frf:∀b∈X.fs,X.H₀ b=none
structure Inv (X:Cx) (pins:List (Addr×Obj)) (σ:List (Option V)) (H:Hp) (s:Shared):Prop where
 ok:X.Ok
 os:s.os=X.s₀.os
 bare:AllBare s.gens
 base:Un X.fs X.ex X.H₀ H X.s₀.heap s.heap
 loc:∃m,s.heap.Ns X.env.locals m/\∀(i:Nat) (x:Str) (v:V),X.N[i]?=some x->σ[i]?=some (some v)->CY X.env.scope x->∃u,RelV v u/\Look X.env s.heap m x u
 cell:∀x c,X.env.cells.lookup x=some c->∃v,s.heap.IsCell c v
 free:H X.env.locals=none
 freeC:∀x c,X.env.cells.lookup x=some c->H c=none
 pin:∀p∈X.pn++pins,s.heap.get? p.1=some p.2/\H p.1=none/\p.1≠X.env.locals/\p.1∉X.fs/\∀v,p.2.data≠.cell v
 hok:HOk X.prog X.w H s.heap
 len:σ.length=X.N.length
section
variable {X:Cx} {pins:List (Addr×Obj)} {σ:List (Option V)} {H H':Hp} {s:Shared} {h':Heap}
theorem Cx.Ok.nofr (ok:X.Ok) {b:Addr} {o:Obj} (e:X.base.get? b=some o):b∉X.fs:=fun hb=>by
 have:=(ok.funs.mem hb).1
 rw [e] at this;cases this
theorem Inv.bs (I:Inv X pins σ H s):∀b o,X.base.get? b=some o->s.heap.get? b=some o/\H b=none:=fun b o e=>
 ⟨I.base.keep b o (I.ok.bs b o e).1 (I.ok.bs b o e).2 (I.ok.nofr e) (I.ok.noex b o e),I.base.free b o (I.ok.bs b o e).1 (I.ok.bs b o e).2 (I.ok.noex b o e)⟩
theorem Inv.bk (I:Inv X pins σ H s):∀b o,X.base.get? b=some o->s.heap.get? b=some o:=fun b o e=>(I.bs b o e).1
theorem Inv.mod (I:Inv X pins σ H s):Mod X.K X.mg X.base:=I.ok.mod
theorem Inv.kIn (I:Inv X pins σ H s):X.K.In s.heap:=I.ok.mod.kin.keeps I.bk
theorem Inv.lt (I:Inv X pins σ H s):X.env.locals<s.heap.objs.size:=let ⟨_,hn,_⟩:=I.loc;hn.lt
theorem Inv.sz (I:Inv X pins σ H s):X.s₀.heap.objs.size<=s.heap.objs.size:=Nat.le_trans I.ok.above (Nat.le_of_lt I.lt)
theorem Inv.nofs (I:Inv X pins σ H s) {a:Addr} (h:s.heap.objs.size<=a):a∉X.fs:=fun hb=>by
 obtain ⟨_,o,ho,_⟩:=I.ok.funs.mem hb;exact absurd (Nat.lt_of_lt_of_le (Heap.lt_size ho) (Nat.le_trans I.sz h)) (Nat.lt_irrefl _)
theorem Inv.cne (I:Inv X pins σ H s):∀x c,X.env.cells.lookup x=some c->c≠X.env.locals:=fun x c e z=>by
 obtain ⟨v,o,ho,hd⟩:=I.cell x c e;obtain ⟨m,⟨o',es,ep,ho',hd',_⟩,_⟩:=I.loc;rw [z,ho'] at ho;cases ho;rw [hd'] at hd;cases hd
theorem Inv.funs (I:Inv X pins σ H s):s.heap.FunFrames X.base X.outer:=by
 have all:∀(l:List Env),(∀b∈u7 l,b∈X.fs)->X.s₀.heap.FunFrames X.base l->s.heap.FunFrames X.base l:=by
  intro l;induction l with
  | nil=>intro _ _;trivial
  | cons env r ih=>
   intro hs hl;obtain ⟨hk,⟨L,o,hf,hn,ho,hd⟩,hr⟩:=hl;have hL:L∈X.fs:=hs L (by unfold u7;rw [filterMap_cons,hf];exact mem_cons_self)
   obtain ⟨sl,e⟩:=I.base.slot L o ho (I.ok.frf L hL) hL fun z=>I.ok.exfs L z hL
   exact ⟨hk,⟨L,_,hf,hn,e,hd⟩,ih (fun b hb=>hs b (by unfold u7;rw [filterMap_cons,hf];exact LW _ hb)) hr⟩
 exact all X.outer (fun _ hb=>hb) I.ok.funs
theorem Inv.stack (I:Inv X pins σ H s):s.heap.FunFrames X.base X.stack:=by
 rcases I.ok.stk with e | ⟨e,hf⟩
 ·rw [e];exact I.funs
 ·rw [e]
  obtain ⟨m,hn,_⟩:=I.loc;refine .cons (by rw [I.ok.kind];decide) hf hn ?_ I.funs
  exact Heap.get?_none_of_le (Nat.le_trans I.ok.bsz I.ok.above)
theorem Inv.stkSub (I:Inv X pins σ H s):∀b∈u7 X.stack,b∈X.env.locals::X.fs:=fun b hb=>by
 rcases I.ok.stk with e | ⟨e,hf⟩
 ·rw [e] at hb;exact LW _ hb
 ·rw [e] at hb
  unfold u7 at hb;rw [filterMap_cons,hf] at hb;exact hb
theorem Inv.stkFree (I:Inv X pins σ H s):∀b∈u7 X.stack,H b=none:=fun b hb=>by
 rcases LQ (I.stkSub b hb) with e | hb
 ·rw [e];exact I.free
 ·obtain ⟨_,o,ho,_⟩:=I.ok.funs.mem hb
  exact I.base.free b o ho (I.ok.frf b hb) fun z=>I.ok.exfs b z hb
theorem Inv.step {g':Array GenState} {t':Nat} {d':Drawn} {ch:List Addr} (I:Inv X pins σ H s)
  (hch:∀b∈ch,(b∈X.ex\/X.s₀.heap.objs.size<=b)/\b≠X.env.locals/\(∀x c,X.env.cells.lookup x=some c->c≠b)/\∀p∈X.pn++pins,p.1≠b)
  (keep:∀b o,b≠X.env.locals->b∉X.fs->b∉ch->s.heap.get? b=some o->H b=none->h'.get? b=some o)
  (slot:∀b o,b≠X.env.locals->b∈X.fs->b∉ch->s.heap.get? b=some o->H b=none->∃sl,h'.get? b=some { o with slots:=sl }) (free:∀b o,b∉ch->s.heap.get? b=some o->H b=none->H' b=none)
  (there:∀b o,b∉ch->s.heap.get? b=some o->∃o',h'.get? b=some o')
  (tups:∀b xs,H b=some (.tup xs)->H' b=some (.tup xs)) (frzs:∀b o u,H b=some (.frz o u)->H' b=some (.frz o u)) (tbls:∀b ps,H b=some (.tbl ps)->∃more,H' b=some (.tbl (ps++more)))
  (ns:∀m,s.heap.Ns X.env.locals m->h'.Ns X.env.locals m) (hok:HOk X.prog X.w H' h') (hg:AllBare g') :
  Inv X pins σ H' { s with heap:=h',gens:=g',drawn:=d',toks:=t' }:=by
 have neL:∀b o,X.s₀.heap.get? b=some o->b≠X.env.locals:=fun b o e=>Nat.ne_of_lt (Nat.lt_of_lt_of_le (Heap.lt_size e) I.ok.above)
 have neC:∀b o,X.s₀.heap.get? b=some o->b∉X.ex->b∉ch:=fun b o e hx hb=>by
  rcases (hch b hb).1 with z | z
  ·exact hx z
  ·exact absurd (Nat.lt_of_lt_of_le (Heap.lt_size e) z) (Nat.lt_irrefl _)
 have cellK:∀x c,X.env.cells.lookup x=some c->∀v,s.heap.IsCell c v->h'.IsCell c v:=fun x c e v ⟨o,ho,hd⟩=>by
  have nch:c∉ch:=fun z=>(hch c z).2.2.1 x c e rfl
  by_cases hc:c∈X.fs
  ·obtain ⟨sl,q⟩:=slot c o (I.cne x c e) hc nch ho (I.freeC x c e)
   exact ⟨_,q,hd⟩
  ·exact ⟨o,keep c o (I.cne x c e) hc nch ho (I.freeC x c e),hd⟩
 refine ⟨I.ok,I.os,hg,⟨fun b o e n hb hx=>?_,fun b o e n hb hx=>?_,fun b o e n hx=>?_,fun b o e hx=>?_,fun b xs e=>tups b xs (I.base.tups b xs e),fun b o xs e=>frzs b o xs (I.base.frzs b o xs e),fun b ps e=>?_⟩,?_,fun x c e=>?_,?_,fun x c e=>?_,fun p hp=>?_,hok,I.len⟩
 ·exact keep b o (neL b o e) hb (neC b o e hx) (I.base.keep b o e n hb hx) (I.base.free b o e n hx)
 ·obtain ⟨sl,e1⟩:=I.base.slot b o e n hb hx
  obtain ⟨sl',e2⟩:=slot b _ (neL b o e) hb (neC b o e hx) e1 (I.base.free b o e n hx);exact ⟨sl',e2⟩
 ·obtain ⟨o',e1⟩:=I.base.there b o e hx
  exact free b o' (neC b o e hx) e1 (I.base.free b o e n hx)
 ·obtain ⟨o',e1⟩:=I.base.there b o e hx
  exact there b o' (neC b o e hx) e1
 ·obtain ⟨m1,e1⟩:=I.base.tbls b ps e
  obtain ⟨m2,e2⟩:=tbls b _ e1;exact ⟨m1++m2,by rw [e2,Array.append_assoc]⟩
 ·obtain ⟨m,hn,hl⟩:=I.loc
  refine ⟨m,ns m hn,fun i x v e1 e2 e3=>?_⟩
  obtain ⟨u,r,l⟩:=hl i x v e1 e2 e3;refine ⟨u,r,?_⟩
  rcases l with l | ⟨k,c,e,z⟩
  ·exact .inl l
  ·exact .inr ⟨k,c,e,cellK x c e _ z⟩
 ·obtain ⟨v,z⟩:=I.cell x c e
  exact ⟨v,cellK x c e v z⟩
 ·obtain ⟨m,⟨o,_,_,ho,_⟩,_⟩:=I.loc
  exact free _ o (fun z=>(hch _ z).2.1 rfl) ho I.free
 ·obtain ⟨v,o,ho,hd⟩:=I.cell x c e
  exact free c o (fun z=>(hch c z).2.2.1 x c e rfl) ho (I.freeC x c e)
 ·obtain ⟨e,n,ne,nf,d⟩:=I.pin p hp
  have nch:p.1∉ch:=fun z=>(hch p.1 z).2.2.2 p hp rfl
  exact ⟨keep p.1 p.2 ne nf nch e n,free p.1 p.2 nch e n,ne,nf,d⟩
theorem Inv.un {t':Nat} (I:Inv X pins σ H s) (u:Un X.fs [] H H' s.heap h') (hok:HOk X.prog X.w H' h'):Inv X pins σ H' { s with heap:=h',toks:=t' }:=by
 obtain ⟨m,⟨o,es,ep,ho,r⟩,_⟩:=id I.loc;obtain ⟨sl,hL⟩:=u.any ho I.free (by simp)
 exact I.step (g':=s.gens) (d':=s.drawn) (ch:=[]) (fun _ z=>nomatch z) (fun b o _ hb _ e n=>u.keep b o e n hb (by simp)) (fun b o _ hb _ e n=>u.slot b o e n hb (by simp)) (fun b o _ e n=>u.free b o e n (by simp)) (fun b o _ e=>u.there b o e (by simp)) u.tups u.frzs u.tbls (fun m' hm=>by
  obtain ⟨o',es',ep',ho',r'⟩:=hm;rw [ho] at ho';cases ho'
  exact ⟨_,es',ep',hL,r'⟩) hok I.bare
theorem Inv.call {g':Array GenState} {t':Nat} {d':Drawn} {ch:List Addr} (I:Inv X pins σ H s) (u:Un (u7 X.stack) ch H H' s.heap h') (hok:HOk X.prog X.w H' h') (hg:AllBare g')
  (hch:∀b∈ch,(b∈X.ex\/X.s₀.heap.objs.size<=b)/\b≠X.env.locals/\(∀x c,X.env.cells.lookup x=some c->c≠b)/\∀p∈X.pn++pins,p.1≠b) :
  Inv X pins σ H' { s with heap:=h',gens:=g',drawn:=d',toks:=t' }:=by
 obtain ⟨m,⟨o,es,ep,ho,r⟩,_⟩:=id I.loc;obtain ⟨sl,hL⟩:=u.any ho I.free fun z=>(hch _ z).2.1 rfl
 exact I.step (ch:=ch) hch (fun b o hL hb hc e n=>u.keep b o e n (fun z=>(LQ (I.stkSub b z)).elim hL hb) hc) (fun b o _ _ hc e n=>u.any e n hc) (fun b o hc e n=>u.free b o e n hc) (fun b o hc e=>u.there b o e hc) u.tups u.frzs u.tbls (fun m' hm=>by
  obtain ⟨o',es',ep',ho',r'⟩:=hm;rw [ho] at ho';cases ho'
  exact ⟨_,es',ep',hL,r'⟩) hok hg
theorem Inv.turned {t':Nat} {it:Addr} (I:Inv X pins σ H s) (k:∀b o,b≠it->s.heap.get? b=some o->h'.get? b=some o) (hn:H it=none) (hL:it≠X.env.locals)
  (h1:it∈X.ex\/X.s₀.heap.objs.size<=it) (h2:∀x c,X.env.cells.lookup x=some c->c≠it) (h3:∀p∈X.pn++pins,p.1≠it):Inv X pins σ H { s with heap:=h',toks:=t' }:=by
 have nit:∀b u,H b=some u->b≠it:=fun b u e z=>by rw [z,hn] at e;cases e
 refine I.step (g':=s.gens) (d':=s.drawn) (ch:=[it]) (fun b hb=>?_) (fun b o _ _ hc e _=>k b o (fun z=>hc (by simp [z])) e) (fun b o _ _ hc e _=>⟨o.slots,k b o (fun z=>hc (by simp [z])) e⟩) (fun _ _ _ _ n=>n)
  (fun b o hc e=>⟨o,k b o (fun z=>hc (by simp [z])) e⟩) (fun _ _ e=>e) (fun _ _ _ e=>e) (fun b ps e=>⟨#[],by rw [e];simp⟩) (fun m hm=>?_) (fun b u e=>?_) I.bare
 ·have e:b=it:=by simpa using hb
  subst e;exact ⟨h1,hL,h2,h3⟩
 ·obtain ⟨o,es,ep,ho,r⟩:=hm
  exact ⟨o,es,ep,k _ o (Ne.symm hL) ho,r⟩
 ·refine (I.hok b u e).stay (fun c v hc q=>k c v ?_ q) (fun _ q=>q) fun _ _ q=>q
  rcases hc with z | z
  ·rw [z];exact nit b u e
  ·exact nit c _ z
theorem Inv.tok (I:Inv X pins σ H s) (t:Nat):Inv X pins σ H { s with toks:=t }:=I.un (h':=s.heap) (t':=t) Un.refl I.hok
theorem Inv.kept {t':Nat} (I:Inv X pins σ H s) (k:∀b u,s.heap.get? b=some u->h'.get? b=some u):Inv X pins σ H { s with heap:=h',toks:=t' }:=I.un (Un.kept k) (I.hok.kept k)
theorem Inv.laid {a:Addr} {o:HO} {t':Nat} (I:Inv X pins σ H s) (k:∀b u,s.heap.get? b=some u->h'.get? b=some u) (hp:s.heap.objs.size<=a) (new:ObjOk X.prog X.w (bb H a o) h' a o) :
  Inv X pins σ (bb H a o) { s with heap:=h',toks:=t' }:=I.un (Un.laid k hp (I.hok.fresh hp)) (I.hok.laid k hp new)
theorem Inv.write {x e:Addr} {o:HO} {t':Nat} (I:Inv X pins σ H s) (mu:FK (H x)) (he:e=x\/H e=some (.own x)) (k:∀b u,b≠e->s.heap.get? b=some u->h'.get? b=some u) (heo:∃u,h'.get? e=some u)
  (new:ObjOk X.prog X.w (bb H x o) h' x o):Inv X pins σ (bb H x o) { s with heap:=h',toks:=t' }:=I.un (Un.write mu he k heo) (I.hok.write mu he k heo new)
theorem Inv.weak {σ':List (Option V)} (I:Inv X pins σ H s) (hl:σ'.length=σ.length) (w:∀(i:Nat) v,σ'[i]?=some (some v)->σ[i]?=some (some v)):Inv X pins σ' H s:=
 ⟨I.ok,I.os,I.bare,I.base,let ⟨m,hn,hl'⟩:=I.loc;⟨m,hn,fun i x v e1 e2 e3=>hl' i x v e1 (w i v e2) e3⟩,I.cell,I.free,I.freeC,I.pin,I.hok,hl.trans I.len⟩
theorem Inv.pins_of {pins':List (Addr×Obj)} (I:Inv X pins σ H s) (h:∀p∈pins',s.heap.get? p.1=some p.2/\H p.1=none/\p.1≠X.env.locals/\p.1∉X.fs/\∀v,p.2.data≠.cell v):Inv X pins' σ H s:=
 ⟨I.ok,I.os,I.bare,I.base,I.loc,I.cell,I.free,I.freeC,fun p hp=>(LP hp).elim (fun z=>I.pin p (LO _ z)) (h p),I.hok,I.len⟩
theorem kB {N:List Str} (hN:N.Nodup) {i j:Nat} {x:Str} (a:N[i]?=some x) (b:N[j]?=some x):i=j:=by
 obtain ⟨h1,e1⟩:=LY a
 obtain ⟨h2,e2⟩:=LY b
 exact (List.getElem_inj hN).mp (e1.trans e2.symm)
theorem iA {M:Model} {A:Around} {E:Value->Shared->Prop} {i:Nat} {x:Str} {v:V} {u:Value} {Q:Unit->Shared->Prop} (I:Inv X pins σ H s) (hN:X.N.Nodup) (hi:X.N[i]?=some x) (hx:Loc X.env.scope x) (r:RelV v u)
  (h:∀s',Inv X pins (σ.set i (some v)) H s'->(∃a,Heap.SameBut a s.heap s'.heap/\(a=X.env.locals\/X.env.cells.lookup x=some a))->Q () s') (hf:X.fn x=true\/X.env.scope.names.lookup x=some .local:=by first | exact .inl rfl | exact .inr rfl | assumption):wpAny M A (storeName X.env x u) Q E s:=by
 obtain ⟨m,hn,hl⟩:=id I.loc;have hcls:(X.env.scope.kind==.class||(X.env.scope.kind==.module&&X.env.locals != X.env.globals))=false:=by rw [I.ok.kind];rfl
 have hiσ:i<σ.length:=by rw [I.len];exact (LY hi).1
 have cne:=I.cne
 have tracked:∀{a:Addr} {h':Heap},(∃o,s.heap.get? a=some o/\H a=none)->Heap.SameBut a s.heap h'->HOk X.prog X.w H h':=fun {a h'} ha hs b ob e=>by
  obtain ⟨_,_,hfree⟩:=ha;refine (I.hok b ob e).stay (fun c w' hc q=>(hs.2 c ?_).trans q) (fun _ q=>q) fun _ _ q=>q
  rintro rfl
  rcases hc with rfl | hc
  ·rw [hfree] at e;cases e
  ·rw [hfree] at hc;cases hc
 rcases hx with hk | hk
 ·refine wpAny_storeName_local hk hn (fun h' hn' hs=>?_) hcls
  obtain ⟨oL,_,_,hoL,_⟩:=id hn;refine h _ ⟨I.ok,I.os,I.bare,⟨fun b o e n hb hx=>?_,fun b o e n hb hx=>?_,I.base.free,fun b o e hx=>?_,I.base.tups,I.base.frzs,I.base.tbls⟩,⟨_,hn',fun j y v' e1 e2 e3=>?_⟩,fun y c e=>?_,I.free,I.freeC,fun p hp=>?_,tracked ⟨oL,hoL,I.free⟩ hs,by simpa using I.len⟩ ⟨_,hs,.inl rfl⟩
  ·exact (hs.2 b (Nat.ne_of_lt (Nat.lt_of_lt_of_le (Heap.lt_size e) I.ok.above))).trans (I.base.keep b o e n hb hx)
  ·obtain ⟨sl,e1⟩:=I.base.slot b o e n hb hx
   exact ⟨sl,(hs.2 b (Nat.ne_of_lt (Nat.lt_of_lt_of_le (Heap.lt_size e) I.ok.above))).trans e1⟩
  ·obtain ⟨o',e1⟩:=I.base.there b o e hx
   exact ⟨o',(hs.2 b (Nat.ne_of_lt (Nat.lt_of_lt_of_le (Heap.lt_size e) I.ok.above))).trans e1⟩
  ·by_cases hj:j=i
   ·subst hj
    rw [hi] at e1;cases e1;rw [getElem?_set_self hiσ] at e2
    cases e2;exact ⟨u,r,.inl ⟨hk,by simp⟩⟩
   ·rw [getElem?_set_ne (Ne.symm hj)] at e2
    obtain ⟨u',r',q⟩:=hl j y v' e1 e2 e3
    refine ⟨u',r',?_⟩
    rcases q with ⟨k,e⟩ | ⟨k,c,e,z⟩
    ·refine .inl ⟨k,?_⟩
     have:y≠x:=fun e=>hj (kB hN e1 (e▸hi))
     simp [this,e]
    ·exact .inr ⟨k,c,e,z.sameBut hs (cne y c e)⟩
  ·obtain ⟨w',z⟩:=I.cell y c e
   exact ⟨w',z.sameBut hs (cne y c e)⟩
  ·obtain ⟨e,n,ne,nf,d⟩:=I.pin p hp
   exact ⟨(hs.2 p.1 ne).trans e,n,ne,nf,d⟩
 ·have hfn:X.fn x=true:=by
   rcases hf with z | z
   ·exact z
   ·rw [z] at hk;cases hk
  obtain ⟨c,hc⟩:=I.ok.has x (.inl hk);obtain ⟨w',z⟩:=I.cell x c hc;refine wpAny_storeName_cell I.ok.kind hk hc z (fun h' hc' hs=>?_)
  obtain ⟨oc,hoc,hocd⟩:=id z;refine h { s with heap:=h' } ⟨I.ok,I.os,I.bare,⟨fun b o e n hb hx=>?_,fun b o e n hb hx=>?_,I.base.free,fun b o e hx=>?_,I.base.tups,I.base.frzs,I.base.tbls⟩,⟨m,hn.sameBut hs (Ne.symm (cne x c hc)),fun j y v' e1 e2 e3=>?_⟩,fun y c' e=>?_,I.free,I.freeC,fun p hp=>?_,tracked ⟨oc,hoc,I.freeC x c hc⟩ hs,by simpa using I.len⟩ ⟨c,hs,.inr hc⟩
  ·exact (hs.2 b (Nat.ne_of_lt (Nat.lt_of_lt_of_le (Heap.lt_size e) (I.ok.cab x c hfn hc)))).trans (I.base.keep b o e n hb hx)
  ·obtain ⟨sl,e1⟩:=I.base.slot b o e n hb hx
   exact ⟨sl,(hs.2 b (Nat.ne_of_lt (Nat.lt_of_lt_of_le (Heap.lt_size e) (I.ok.cab x c hfn hc)))).trans e1⟩
  ·obtain ⟨o',e1⟩:=I.base.there b o e hx
   exact ⟨o',(hs.2 b (Nat.ne_of_lt (Nat.lt_of_lt_of_le (Heap.lt_size e) (I.ok.cab x c hfn hc)))).trans e1⟩
  ·by_cases hj:j=i
   ·subst hj
    rw [hi] at e1;cases e1;rw [getElem?_set_self hiσ] at e2
    cases e2;exact ⟨u,r,.inr ⟨.inl hk,c,hc,hc'⟩⟩
   ·rw [getElem?_set_ne (Ne.symm hj)] at e2
    obtain ⟨u',r',q⟩:=hl j y v' e1 e2 e3
    refine ⟨u',r',?_⟩
    rcases q with q | ⟨k,c',e,z'⟩
    ·exact .inl q
    ·refine .inr ⟨k,c',e,z'.sameBut hs ?_⟩
     rintro rfl
     exact hj (kB hN e1 (I.ok.inj _ _ _ e hc▸hi))
  ·by_cases hcc:c'=c
   ·subst hcc;exact ⟨_,hc'⟩
   ·obtain ⟨w2,z2⟩:=I.cell y c' e
    exact ⟨w2,z2.sameBut hs hcc⟩
  ·obtain ⟨e,n,ne,nf,d⟩:=I.pin p hp
   refine ⟨(hs.2 p.1 ?_).trans e,n,ne,nf,d⟩
   intro q;rw [q,hoc] at e;have q':oc=p.2:=Option.some.inj e
   exact d w' (by rw [<-q'];exact hocd)
theorem DY {M:Model} {A:Around} {E:Value->Shared->Prop} {i:Nat} {x:Str} {v:V} {u:Value} {Q:Unit->Shared->Prop} (I:Inv X pins σ H s) (hN:X.N.Nodup) (hi:X.N[i]?=some x) (hx:Loc X.env.scope x) (r:RelV v u)
  (h:∀s',Inv X pins (σ.set i (some v)) H s'->Q () s') (hf:X.fn x=true\/X.env.scope.names.lookup x=some .local:=by first | exact .inl rfl | exact .inr rfl | assumption):wpAny M A (storeName X.env x u) Q E s:=
 iA I hN hi hx r (fun s' I' _=>h s' I') hf
theorem Inv.call' {s':Shared} {ch:List Addr} (I:Inv X pins σ H s) (ho:s'.os=s.os) (u:Un (u7 X.stack) ch H H' s.heap s'.heap) (hok:HOk X.prog X.w H' s'.heap) (hg:AllBare s'.gens)
  (hch:∀b∈ch,(b∈X.ex\/X.s₀.heap.objs.size<=b)/\b≠X.env.locals/\(∀x c,X.env.cells.lookup x=some c->c≠b)/\∀p∈X.pn++pins,p.1≠b):Inv X pins σ H' s':=by
 obtain ⟨h',g',d',t',o'⟩:=s'
 have e:o'=s.os:=ho
 subst e;exact I.call (g':=g') (t':=t') (d':=d') u hok hg hch
end
abbrev XK:=Value->Option Addr->Hp->Prop
abbrev St:=List (Option V)
abbrev VK:=V->Hp->Prop
abbrev TE:=St->Hp->VK->Prop
abbrev TT:=St->Hp->(Bool->Hp->Prop)->Prop
abbrev TA:=St->Hp->(List V->Hp->Prop)->Prop
structure cQ where
 nx:St->Hp->Prop
 rt:VK
 bk:St->Hp->Prop:=fun _ _=>False
 ct:St->Hp->Prop:=fun _ _=>False
abbrev TS:=cQ->St->Hp->Prop
def EP (X:Cx) (pins:List (Addr×Obj)) (σ:St) (Q:VK) (u:Value) (s':Shared):Prop:=∃v H',Inv X pins σ H' s'/\RelV v u/\Q v H'
def TP (X:Cx) (pins:List (Addr×Obj)) (σ:St) (Q:Bool->Hp->Prop) (b:Bool) (s':Shared):Prop:=∃H',Inv X pins σ H' s'/\Q b H'
def AP (X:Cx) (pins:List (Addr×Obj)) (σ:St) (Q:List V->Hp->Prop) (us:List Value) (s':Shared):Prop:=∃vs H',Inv X pins σ H' s'/\Vals vs us/\Q vs H'
def SP (X:Cx) (pins:List (Addr×Obj)) (D:cQ) (f:Flow) (s':Shared):Prop:=
 match f with
 | .next=>∃σ' H',Inv X pins σ' H' s'/\D.nx σ' H'
 | .brk=>∃σ' H',Inv X pins σ' H' s'/\D.bk σ' H'
 | .cont=>∃σ' H',Inv X pins σ' H' s'/\D.ct σ' H'
 | .ret u=>∃v σ' H',Inv X pins σ' H' s'/\RelV v u/\D.rt v H'
def PE (X:Cx) (e:Expr) (t:TE):Prop:=
 ∀(pins:List (Addr×Obj)) (s:Shared) (σ:St) (H:Hp) (Q:VK),Inv X pins σ H s->t σ H Q->wpAny (model X.prog X.w) X.A (eval e X.env) (EP X pins σ Q) X.xe s
def PT (X:Cx) (e:Expr) (t:TT):Prop:=
 ∀(pins:List (Addr×Obj)) (s:Shared) (σ:St) (H:Hp) (Q:Bool->Hp->Prop),Inv X pins σ H s->t σ H Q->wpAny (model X.prog X.w) X.A (isTrue e X.env (eval e X.env)) (TP X pins σ Q) X.xe s
def PW (X:Cx) (e:Expr) (t:TT):Prop:=
 ∀(whole:Sem Value) (pins:List (Addr×Obj)) (s:Shared) (σ:St) (H:Hp) (Q:Bool->Hp->Prop),Inv X pins σ H s->t σ H Q->wpAny (model X.prog X.w) X.A (isTrue e X.env whole) (TP X pins σ Q) X.xe s
theorem PW.pt {X:Cx} {e:Expr} {t:TT} (h:PW X e t):PT X e t:=h _
def PA (X:Cx) (es:List Expr) (t:TA):Prop:=
 ∀(pos:Pos) (pins:List (Addr×Obj)) (s:Shared) (σ:St) (H:Hp) (Q:List V->Hp->Prop),Inv X pins σ H s->t σ H Q->wpAny (model X.prog X.w) X.A (spliced (backTo pos (starEach es X.env))) (AP X pins σ Q) X.xe s
def PS (X:Cx) (st:Stmt) (t:TS):Prop:=
 ∀(pins:List (Addr×Obj)) (s:Shared) (σ:St) (H:Hp) (D:cQ),Inv X pins σ H s->t D σ H->wpAny (model X.prog X.w) X.A (exec st X.env) (SP X pins D) X.xe s
def PSs (X:Cx) (st:List Stmt) (t:TS):Prop:=
 ∀(pins:List (Addr×Obj)) (s:Shared) (σ:St) (H:Hp) (D:cQ),Inv X pins σ H s->t D σ H->wpAny (model X.prog X.w) X.A (execs st X.env) (SP X pins D) X.xe s
theorem bc {α:Type} {t:Sem α} {Q Q':α->Shared->Prop} {M:Model} {A:Around} {E:Value->Shared->Prop} {s:Shared} (h:wpAny M A t Q E s) (hQ:∀a s,Q a s->Q' a s):wpAny M A t Q' E s:=wpAny_mono h hQ fun _ _ x=>x
section
variable {X:Cx}
def bI (i:Nat):TE:=fun σ H Q=>∃v,σ[i]?=some (some v)/\Q v H
def tC (v:V):TE:=fun _ H Q=>Q v H
theorem y4 {i:Nat} {x:Str} {pos:Pos} (hN:X.N[i]?=some x) (hv:CY X.env.scope x) (hd:(x==("__debug__":Str))=false:=by decide) (hcd:(x==("__classdict__":Str))=false:=by decide):PE X (.Name x pos) (bI i):=by
 intro pins s σ H Q I h;obtain ⟨v,e,h⟩:=h;obtain ⟨m,hn,hl⟩:=I.loc;obtain ⟨u,r,l⟩:=hl i x v hN e hv;have fin:EP X pins σ Q u s:=⟨v,H,I,r,h⟩
 rcases l with ⟨hk,hm⟩ | ⟨hk,c,hc,hcell⟩
 ·exact wpAny_Name (wpAny_loadName_local I.ok.kind hk hn hm fin) hd
 ·rcases hk with hk | hk
  ·exact wpAny_Name (wpAny_loadName_cell I.ok.kind hk hc hcell fin) hd
  ·exact wpAny_Name (wpAny_loadName_free I.ok.kind hk hc hcell fin hcd) hd
theorem ud {i j pos}:PE X (.Constant (.int i) j pos) (tC (.int i)):=fun _ _ _ H _ I h=>wpAny_Constant_int ⟨.int i,H,I.tok _,⟨_,rfl⟩,h⟩
theorem ET {b j pos}:PE X (.Constant (.bool b) j pos) (tC (.bl b)):=fun _ _ _ H _ I h=>Constant_bool ⟨.bl b,H,I,rfl,h⟩
theorem BQ {j pos}:PE X (.Constant .none j pos) (tC .non):=fun _ _ _ H _ I h=>Constant_none ⟨.non,H,I,rfl,h⟩
theorem ub {x j pos}:PE X (.Constant (.str x) j pos) (tC (.str x)):=fun _ _ _ H _ I h=>Calls.Constant_str ⟨.str x,H,I.tok _,⟨_,rfl⟩,h⟩
def Gl (X:Cx) (x:Str):Prop:=X.env.kindOf x=some .globalImplicit
theorem F8 {E:Value->Shared->Prop} {pins:List (Addr×Obj)} {s:Shared} {σ:St} {H:Hp} {x:Str} {u:Value} {pos:Pos} {Q:Value->Shared->Prop} (I:Inv X pins σ H s) (hg:Gl X x) (hm:X.mg x=some u) (h:Q u s)
  (hd:(x==("__debug__":Str))=false:=by decide):wpAny (model X.prog X.w) X.A (eval (.Name x pos) X.env) Q E s:=
 Calls.Name_function_global I.ok.kind hg (Calls.loadGlobal_global (by rw [I.ok.glob];exact I.mod.glob.keeps I.bk) hm h) hd
theorem vI {E:Value->Shared->Prop} {pins:List (Addr×Obj)} {s:Shared} {σ:St} {H:Hp} {x:Str} {u:Value} {pos:Pos} {Q:Value->Shared->Prop} (I:Inv X pins σ H s) (hg:Gl X x) (hm:X.mg x=none) (hv:bootBuiltins x=some u) (h:Q u s)
  (hn:x ≠ "__name__":=by decide) (hd:(x==("__debug__":Str))=false:=by decide):wpAny (model X.prog X.w) X.A (eval (.Name x pos) X.env) Q E s:=by
 obtain ⟨mb,h1,h2⟩:=I.mod.blt;exact Calls.Name_function_global I.ok.kind hg (Calls.loadGlobal_builtin (by rw [I.ok.glob];exact I.mod.glob.keeps I.bk) hm (by rw [I.ok.blt];exact h1.keeps I.bk) ((h2 x hn).trans hv) h) hd
theorem xH {x:Str} {v:V} {u:Value} {pos:Pos} (hg:Gl X x) (hm:X.mg x=some u) (r:RelV v u) (hd:(x==("__debug__":Str))=false:=by decide):PE X (.Name x pos) (tC v):=
 fun _ _ _ H _ I h=>F8 I hg hm ⟨v,H,I,r,h⟩ hd
theorem xJ {x:Str} {v:V} {u:Value} {pos:Pos} (hg:Gl X x) (hm:X.mg x=none) (hv:bootBuiltins x=some u) (r:RelV v u) (hn:x ≠ "__name__":=by decide) (hd:(x==("__debug__":Str))=false:=by decide):PE X (.Name x pos) (tC v):=
 fun _ _ _ H _ I h=>vI I hg hm hv ⟨v,H,I,r,h⟩ hn hd
variable {a b:Expr} {ta tb:TE} {pos:Pos}
def PC (X:Cx) (op:CmpOp) (a b:Expr) (t:TE):Prop:=
 ∀(pins:List (Addr×Obj)) (s:Shared) (σ:St) (H:Hp) (Q:VK),Inv X pins σ H s->t σ H Q ->
  wpAny (model X.prog X.w) X.A (eval a X.env) (fun v s₁=>wpAny (model X.prog X.w) X.A (eval b X.env) (fun u s₂=>wpAny (model X.prog X.w) X.A (compareOp op v u) (EP X pins σ Q) X.xe s₂) X.xe s₁) X.xe s
def tB (t:TE):TT:=fun σ H Q=>t σ H fun x H1=>∃c,x=.bl c/\Q c H1
theorem BR {op:CmpOp} {t:TE} (h:PC X op a b t) (h1:behindInMarks op b=false:=by first | exact nobehind _ (by decide) (by decide) | rfl):PE X (.Compare a [op] [b] pos) t:=fun pins s σ H Q I hw=>wpAny_Compare1 (h pins s σ H Q I hw) h1
theorem BJ {op:CmpOp} {t:TE} (h:PC X op a b t) (h1:behindInMarks op b=false:=by first | exact nobehind _ (by decide) (by decide) | rfl):PT X (.Compare a [op] [b] pos) (tB t):=by
 intro pins s σ H Q I hw;refine wpAny_isTrue_Compare1 (bc (h pins s σ H _ I hw) fun v s1 h1=>bc h1 fun u s2 h2=>bc h2 fun c s3 ⟨x,H1,I1,r1,q1⟩=>?_) h1
 obtain ⟨d,rfl,q⟩:=q1
 cases r1;exact wpAny_truthy_bool ⟨H1,I1,q⟩
variable {tA tB':TT} {rest:List Expr}
def Et (t u:TT):TT:=fun σ H Q=>t σ H fun c H1=>if c=true then u σ H1 Q else Q false H1
def K1 (t u:TT):TT:=fun σ H Q=>t σ H fun c H1=>if c=true then Q true H1 else u σ H1 Q
def En (t:TT):TT:=fun σ H Q=>t σ H fun c H1=>Q (!c) H1
theorem xy (ha:PT X a tA):PW X (.BoolOp .And [a] pos) tA:=by
 intro wh pins s σ H Q I h;refine isTrue_and (bc (ha pins s σ H Q I h) fun c s1 e=>?_)
 cases c with
 | true=>exact isTrue_and_nil e
 | false=>exact e
theorem BG (ha:PT X a tA):PW X (.BoolOp .Or [a] pos) tA:=by
 intro wh pins s σ H Q I h;refine isTrue_or (bc (ha pins s σ H Q I h) fun c s1 e=>?_)
 cases c with
 | false=>exact isTrue_or_nil e
 | true=>exact e
theorem BH (ha:PT X a tA) (hb:PW X (.BoolOp .And (b::rest) pos) tB'):PW X (.BoolOp .And (a::b::rest) pos) (Et tA tB'):=by
 intro wh pins s σ H Q I h;refine isTrue_and (bc (ha pins s σ H _ I h) fun c s1 ⟨H1,I1,q1⟩=>?_)
 cases c with
 | true=>exact hb wh pins s1 σ H1 Q I1 q1
 | false=>exact ⟨H1,I1,q1⟩
theorem EN (ha:PT X a tA) (hb:PW X (.BoolOp .Or (b::rest) pos) tB'):PW X (.BoolOp .Or (a::b::rest) pos) (K1 tA tB'):=by
 intro wh pins s σ H Q I h;refine isTrue_or (bc (ha pins s σ H _ I h) fun c s1 ⟨H1,I1,q1⟩=>?_)
 cases c with
 | true=>exact ⟨H1,I1,q1⟩
 | false=>exact hb wh pins s1 σ H1 Q I1 q1
theorem BI (ha:PT X a tA):PT X (.UnaryOp .Not a pos) (En tA):=by
 intro pins s σ H Q I h;exact isTrue_not (ha pins s σ H (fun c H1=>Q (!c) H1) I h)
def zu (ta tb:TE):TE:=fun σ H Q=>ta σ H fun x H1=>∃c,x=.bl c/\if c=true then tb σ H1 Q else Q (.bl false) H1
def zt (ta:TE):TE:=fun σ H Q=>ta σ H fun x H1=>∃c,x=.bl c/\Q (.bl (!c)) H1
theorem pe_one {op} {t:TE} (h:PE X a t):PE X (.BoolOp op [a] pos) t:=fun pins s σ H Q I hw=>BoolOp_one (h pins s σ H Q I hw)
theorem BU (ha:PE X a ta) (hb:PE X (.BoolOp .And (b::rest) pos) tb):PE X (.BoolOp .And (a::b::rest) pos) (zu ta tb):=by
 intro pins s σ H Q I h;refine BoolOp_and (bc (ha pins s σ H _ I h) fun v s1 ⟨x,H1,I1,r1,q1⟩=>?_)
 obtain ⟨c,rfl,q1⟩:=q1
 cases r1;refine wpAny_truthy_bool ?_
 cases c with
 | true=>exact hb pins s1 σ H1 Q I1 q1
 | false=>exact ⟨.bl false,H1,I1,rfl,q1⟩
theorem BP (ha:PE X a ta):PE X (.UnaryOp .Not a pos) (zt ta):=by
 intro pins s σ H Q I h;refine UnaryOp_ (bc (ha pins s σ H _ I h) fun v s1 ⟨x,H1,I1,r1,q1⟩=>?_)
 obtain ⟨c,rfl,q1⟩:=q1
 cases r1;exact not_of (wpAny_truthy_bool ⟨.bl (!c),H1,I1,rfl,q1⟩)
def K4 (t:TT) (ta tb:TE):TE:=fun σ H Q=>t σ H fun c H1=>if c=true then ta σ H1 Q else tb σ H1 Q
theorem ue {c:Expr} (hc:PT X c tA) (ha:PE X a ta) (hb:PE X b tb):PE X (.IfExp c a b pos) (K4 tA ta tb):=by
 intro pins s σ H Q I h;refine wpAny_IfExp (bc (hc pins s σ H _ I h) fun d s1 ⟨H1,I1,q1⟩=>?_)
 cases d with
 | true=>exact ha pins s1 σ H1 Q I1 q1
 | false=>exact hb pins s1 σ H1 Q I1 q1
end
def SqL (K:Fg) (H:Hp) (a:Addr) (xs:List V):Prop:=
 Rd H a (.lst xs) \/
  ∃(o:Obj) (its:Array Value) (n:Nat),K.lookup a=some o/\o.cls=.type "list"/\o.dict=none/\o.data=.seq its n/\its.size<=sizeLine/\Vals xs its.toList
def SqT (K:Fg) (H:Hp) (a:Addr) (xs:List V):Prop:=
 Rd H a (.tup xs) \/
  ∃(o:Obj) (its:Array Value) (n:Nat),K.lookup a=some o/\o.cls=.type "tuple"/\o.data=.seq its n/\its.size<=sizeLine/\Vals xs its.toList
def KA:Value->Option V
 | .none=>some .non
 | .bool b=>some (.bl b)
 | .int i _=>some (.int i)
 | .str x _=>some (.str x)
 | .bytes b _=>some (.byt b)
 | .float b _=>some (.flt b)
 | .ref a=>some (.ref a)
 | .type n=>some (.ty n)
 | _=>none
theorem RelV.abs {x:V} {u:Value} (r:RelV x u):KA u=some x:=by
 cases x with
 | non=>cases r;rfl
 | bl _=>cases r;rfl
 | int _=>obtain ⟨t,rfl⟩:=r;rfl
 | str _=>obtain ⟨t,rfl⟩:=r;rfl
 | byt _=>obtain ⟨t,rfl⟩:=r;rfl
 | flt _=>obtain ⟨t,rfl⟩:=r;rfl
 | ref _=>cases r;rfl
 | ty _=>cases r;rfl
theorem RelV.inj {x y:V} {u:Value} (r:RelV x u) (q:RelV y u):x=y:=Option.some.inj (r.abs.symm.trans q.abs)
theorem Vals.inj:∀{xs ys:List V} {us:List Value},Vals xs us->Vals ys us->xs=ys
 | _,_,_,.nil,.nil=>rfl
 | _,_,_,.cons r t,.cons r' t'=>by rw [r.inj r',Vals.inj t t']
section
variable {X:Cx} {pins:List (Addr×Obj)} {σ:St} {H:Hp} {s:Shared} {a:Addr} {xs ys:List V}
theorem SqL.of {K:Fg} (h:H a=some (.lst xs)):SqL K H a xs:=.inl (.inl h)
theorem SqT.of {K:Fg} (h:H a=some (.tup xs)):SqT K H a xs:=.inl (.inl h)
theorem Inv.list (I:Inv X pins σ H s) (h:SqL X.K H a xs):∃its:List Value,Vals xs its/\PlainL s.heap a its.toArray/\xs.length<=sizeLine:=by
 rcases h with h | ⟨o,its,n,hk,hc,hd,hs,hz,r⟩
 ·obtain ⟨z,its,n,r,e⟩:=h.ok I.hok
  exact ⟨its,r,⟨_,n,e,rfl,rfl,rfl⟩,z⟩
 ·refine ⟨its.toList,r,⟨o,n,I.kIn a o hk,hc,hd,by simpa using hs⟩,?_⟩
  have e:=r.length
  simp only [Array.length_toList] at e
  omega
theorem Inv.tuple (I:Inv X pins σ H s) (h:SqT X.K H a xs):∃its:List Value,Vals xs its/\IsTup s.heap a its.toArray/\xs.length<=sizeLine:=by
 rcases h with h | ⟨o,its,n,hk,hc,hs,hz,r⟩
 ·obtain ⟨z,its,r,p⟩:=h.ok I.hok
  exact ⟨its,r,p,z⟩
 ·refine ⟨its.toList,r,⟨o,I.kIn a o hk,hc,n,by simpa using hs⟩,?_⟩
  have e:=r.length
  simp only [Array.length_toList] at e
  omega
theorem Inv.list_inj (I:Inv X pins σ H s) (h:SqL X.K H a xs) (h':SqL X.K H a ys):xs=ys:=by
 obtain ⟨its,r,⟨o,n,e,_,_,d⟩,_⟩:=I.list h;obtain ⟨its',r',⟨o',n',e',_,_,d'⟩,_⟩:=I.list h'
 rw [e] at e';cases e'
 rw [d] at d';injection d' with d1 _
 have:its=its':=by simpa using congrArg Array.toList d1
 subst this;exact r.inj r'
theorem Inv.tuple_inj (I:Inv X pins σ H s) (h:SqT X.K H a xs) (h':SqT X.K H a ys):xs=ys:=by
 obtain ⟨its,r,⟨o,e,_,n,d⟩,_⟩:=I.tuple h;obtain ⟨its',r',⟨o',e',_,n',d'⟩,_⟩:=I.tuple h'
 rw [e] at e';cases e'
 rw [d] at d';injection d' with d1 _
 have:its=its':=by simpa using congrArg Array.toList d1
 subst this;exact r.inj r'
end
abbrev Cx.wish (X:Cx) (E:Value->Shared->Prop):Cx:={ X with xe:=E }
abbrev Cx.nox (X:Cx):Cx:=X.wish fun _ _=>False
theorem Cx.Ok.wish {X:Cx} (ok:X.Ok) (E:Value->Shared->Prop):(X.wish E).Ok:=
 ⟨ok.mod,ok.kind,ok.glob,ok.blt,ok.above,ok.inj,ok.has,ok.cab,ok.hd,ok.frames,ok.stk,ok.exf,ok.bs,ok.bsz,ok.noex,ok.exfs,ok.funs,ok.frf⟩
theorem Cx.Ok.unwish {X:Cx} {E:Value->Shared->Prop} (ok:(X.wish E).Ok):X.Ok:=
 ⟨ok.mod,ok.kind,ok.glob,ok.blt,ok.above,ok.inj,ok.has,ok.cab,ok.hd,ok.frames,ok.stk,ok.exf,ok.bs,ok.bsz,ok.noex,ok.exfs,ok.funs,ok.frf⟩
section
variable {X:Cx} {pins:List (Addr×Obj)} {σ:St} {H:Hp} {s:Shared} {E:Value->Shared->Prop}
theorem Inv.wish (I:Inv X pins σ H s) (E:Value->Shared->Prop):Inv (X.wish E) pins σ H s:=⟨I.ok.wish E,I.os,I.bare,I.base,I.loc,I.cell,I.free,I.freeC,I.pin,I.hok,I.len⟩
theorem Inv.unwish (I:Inv (X.wish E) pins σ H s):Inv X pins σ H s:=⟨I.ok.unwish,I.os,I.bare,I.base,I.loc,I.cell,I.free,I.freeC,I.pin,I.hok,I.len⟩
theorem SP.unwish {D:cQ} {f:Flow} {s':Shared} (h:SP (X.wish E) pins D f s'):SP X pins D f s':=by
 cases f with
 | next=>obtain ⟨σ',H',I,q⟩:=h;exact ⟨σ',H',I.unwish,q⟩
 | brk=>obtain ⟨σ',H',I,q⟩:=h;exact ⟨σ',H',I.unwish,q⟩
 | cont=>obtain ⟨σ',H',I,q⟩:=h;exact ⟨σ',H',I.unwish,q⟩
 | ret u=>obtain ⟨v,σ',H',I,r,q⟩:=h;exact ⟨v,σ',H',I.unwish,r,q⟩
theorem PSs.nox {st:List Stmt} {t:TS} (h:PSs X.nox st t):PSs X st t:=fun pins s σ H D I hw=>
 wpAny_mono (h pins s σ H D (I.wish _) hw) (fun _ _ q=>q.unwish) fun _ _ z=>False.elim z
end
section
variable {X:Cx} {st:Stmt} {rest:List Stmt} {t u:TS} {e:Expr} {te:TE} {pos:Pos}
def sC:TS:=fun D σ H=>D.nx σ H
def wJ (t u:TS):TS:=fun D σ H=>t { D with nx:=u D } σ H
theorem ox:PSs X [] sC:=fun _ _ σ H _ I h=>wpAny_execs_nil ⟨σ,H,I,h⟩
theorem IK (h1:PS X st t) (h2:PSs X rest u):PSs X (st::rest) (wJ t u):=by
 intro pins s σ H D I h;refine wpAny_execs_cons (bc (h1 pins s σ H { D with nx:=u D } I h) fun f s1 q=>?_)
 cases f with
 | next=>
  obtain ⟨σ',H',I',q⟩:=q;exact h2 pins s1 σ' H' D I' q
 | ret v=>exact q
 | brk=>exact q
 | cont=>exact q
theorem Gb (h1:PS X st t):PSs X [st] t:=by
 intro pins s σ H D I h;refine wpAny_execs_cons (bc (h1 pins s σ H D I h) fun f s1 q=>?_)
 cases f with
 | next=>exact wpAny_execs_nil q
 | ret v=>exact q
 | brk=>exact q
 | cont=>exact q
theorem Inv.quiet {pins:List (Addr×Obj)} {σ:St} {H:Hp} {s:Shared} (I:Inv X pins σ H s):interactive X.env=false:=by simp [interactive,I.ok.kind]
def jX (te:TE):TS:=fun D σ H=>te σ H fun _ H1=>D.nx σ H1
theorem Ga (he:PE X e te) (hs:swapsWith e none pos.line X.env=pure false:=by rfl):PS X (.Expr e pos) (jX te):=by
 intro pins s σ H D I h;exact wpAny_Expr_any (bc (he pins s σ H _ I h) fun v s1 ⟨x,H1,I1,r1,q1⟩=>⟨σ,H1,I1,q1⟩) I.quiet hs
def AG (te:TE):TS:=fun D σ H=>te σ H D.rt
theorem tU (he:PE X e te):PS X (.Return (some e) pos) (AG te):=by
 intro pins s σ H D I h;exact wpAny_Return_some (bc (he pins s σ H _ I h) fun v s1 ⟨x,H1,I1,r1,q1⟩=>⟨x,σ,H1,I1,r1,q1⟩)
def AK (c:TT) (t u:TS):TS:=fun D σ H=>c σ H fun b H1=>if b=true then t D σ H1 else u D σ H1
theorem zB {c:Expr} {a b:List Stmt} {tc:TT} (hc:PT X c tc) (ha:PSs X a t) (hb:PSs X b u):PS X (.If c a b pos) (AK tc t u):=by
 intro pins s σ H D I h;refine wpAny_If (bc (hc pins s σ H _ I h) fun d s1 ⟨H1,I1,q1⟩=>?_)
 cases d with
 | true=>exact ha pins s1 σ H1 D I1 q1
 | false=>exact hb pins s1 σ H1 D I1 q1
end
abbrev TG:=V->St->Hp->(St->Hp->Prop)->Prop
abbrev zS:=List V->St->Hp->(St->Hp->Prop)->Prop
def PG (X:Cx) (target:Expr) (t:TG):Prop:=
 ∀(pins:List (Addr×Obj)) (s:Shared) (σ:St) (H:Hp) (v:V) (u:Value) (Q:St->Hp->Prop),Inv X pins σ H s->RelV v u->t v σ H Q ->
  wpAny (model X.prog X.w) X.A (assign target X.env u) (fun _ s'=>∃σ' H',Inv X pins σ' H' s'/\Q σ' H') X.xe s
def HC (X:Cx) (ts:List Expr) (t:zS):Prop:=
 ∀(pins:List (Addr×Obj)) (s:Shared) (σ:St) (H:Hp) (vs:List V) (us:List Value) (Q:St->Hp->Prop),Inv X pins σ H s->Vals vs us->t vs σ H Q ->
  wpAny (model X.prog X.w) X.A (assignInOrder ((assignEach ts X.env).map (·.2)) us) (fun _ s'=>∃σ' H',Inv X pins σ' H' s'/\Q σ' H') X.xe s
abbrev C0:=V->V->V->Hp->(Hp->Prop)->Prop
def FF (X:Cx) (t:C0):Prop:=
 ∀(pins:List (Addr×Obj)) (s:Shared) (σ:St) (H:Hp) (o i v:V) (ov iv u:Value) (Q:Hp->Prop),Inv X pins σ H s->RelV o ov->RelV i iv->RelV v u->t o i v H Q ->
  wpAny (model X.prog X.w) X.A (setItem ov iv u) (fun _ s'=>∃H',Inv X pins σ H' s'/\Q H') X.xe s
abbrev HB:=V->V->Hp->VK->Prop
def Ls (X:Cx) (op:Operator) (t:HB):Prop:=
 ∀(pins:List (Addr×Obj)) (s:Shared) (σ:St) (H:Hp) (x y:V) (v u:Value) (Q:VK),Inv X pins σ H s->RelV x v->RelV y u->t x y H Q ->
  wpAny (model X.prog X.w) X.A (inplaceOp op v u) (EP X pins σ Q) X.xe s
section
variable {X:Cx} {pos:Pos}
def bJ (i:Nat):TG:=fun v σ H Q=>Q (σ.set i (some v)) H
theorem rL {i:Nat} {x:Str} (hN:X.N.Nodup) (hi:X.N[i]?=some x) (hx:Loc X.env.scope x) (hf:X.fn x=true\/X.env.scope.names.lookup x=some .local:=by first | exact .inl rfl | exact .inr rfl | assumption):PG X (.Name x pos) (bJ i):=by
 intro pins s σ H v u Q I r h;exact wpAny_assign_Name (DY I hN hi hx r (fun s' I'=>⟨_,H,I',h⟩) hf)
def yq:zS:=fun vs σ H Q=>vs=[]/\Q σ H
def iO (t:TG) (u:zS):zS:=fun vs σ H Q=>∃v r,vs=v::r/\t v σ H fun σ' H'=>u r σ' H' Q
theorem Ie:HC X [] yq:=by
 intro pins s σ H vs us Q I r h;obtain ⟨e,h⟩:=h;subst e
 cases r;exact assignInOrder_nil ⟨σ,H,I,h⟩
theorem Dn {e:Expr} {es:List Expr} {t:TG} {u:zS} (h1:PG X e t) (h2:HC X es u)
  (hs:(assignEach (e::es) X.env).map (·.2)=assign e X.env::(assignEach es X.env).map (·.2):=by rfl):HC X (e::es) (iO t u):=by
 intro pins s σ H vs us Q I r h;obtain ⟨v,vr,e1,h⟩:=h;subst e1
 cases r with
 | cons r rr=>
  rw [hs];refine assignInOrder_cons (bc (h1 pins s σ H _ _ _ I r h) fun _ s1 ⟨σ1,H1,I1,q1⟩=>?_)
  exact h2 pins s1 σ1 H1 _ _ Q I1 rr q1
def yo (K:Fg) (n:Nat) (t:zS):TG:=fun v σ H Q=>∃a xs,v=.ref a/\SqT K H a xs/\xs.length=n/\t xs σ H Q
theorem Iu {es:List Expr} {k:Nat} {t:zS} {n:Nat} (hc:X.calm=true) (h:HC X es t)
  (hn:(assignEach es X.env).length=n:=by rfl) (hst:(assignEach es X.env).findIdx? (·.1)=none:=by rfl):PG X (.Tuple es k pos) (yo X.K n t):=by
 intro pins s σ H v u Q I r hw;obtain ⟨a,xs,e1,hq,hl,hw⟩:=hw;subst e1
 cases r;obtain ⟨its,rv,ht,hz⟩:=I.tuple hq;refine assign_Tuple_tuple (I.ok.hd hc) ht (by simp [hn,<-hl,rv.length]) hst fun h' hx=>?_
 have I1:Inv X pins σ H { s with heap:=h' }:=I.kept (t':=s.toks) fun b o e=>hx b o (Nat.ne_of_lt (Heap.lt_size e)) e
 exact h pins _ σ H xs _ Q I1 (by simpa using rv) hw
def gSub (to ti:TE) (t:C0):TG:=fun v σ H Q=>to σ H fun o H1=>ti σ H1 fun i H2=>t o i v H2 fun H3=>Q σ H3
theorem BM {o i:Expr} {to ti:TE} {t:C0} (ho:PE X o to) (hi:PE X i ti) (hs:FF X t)
  (ha:∀v,assign (.Subscript o i pos) X.env v=(do
   let ov <-holding [v] (eval o X.env)
   let iv <-holding [v,ov] (eval i X.env)
   standAt pos
   holding [v,ov,iv] (setItem ov iv v)
   release [v,ov,iv] []):=by intro _;rfl):PG X (.Subscript o i pos) (gSub to ti t):=by
 intro pins s σ H v u Q I r h;rw [ha];refine LZ (wpAny_holding (bc (ho pins s σ H _ I h) fun ov s1 ⟨x,H1,I1,r1,q1⟩=>?_))
 refine LZ (wpAny_holding (bc (hi pins s1 σ H1 _ I1 q1) fun iv s2 ⟨y,H2,I2,r2,q2⟩=>?_))
 refine LZ (wpAny_standAt (LZ (wpAny_holding (bc (hs pins s2 σ H2 x y v ov iv u _ I2 r1 r2 r q2) fun _ s3 ⟨H3,I3,q3⟩=>?_))))
 exact wpAny_release ⟨σ,H3,I3,q3⟩
def jZ (te:TE) (g:TG):TS:=fun D σ H=>te σ H fun x H1=>g x σ H1 D.nx
theorem tW {tg e:Expr} {te:TE} {g:TG} (he:PE X e te) (hg:PG X tg g) (hs:swapsWithSole [tg] e pos.line X.env=pure false:=by rfl) (hw:swappedStores [tg] e X.env=pure none:=by rfl)
  (h1:(assignEach [tg] X.env).map (·.2)=[assign tg X.env]:=by rfl):PS X (.Assign [tg] e pos) (jZ te g):=by
 intro pins s σ H D I h;refine wpAny_Assign_stores (bc (he pins s σ H _ I h) fun v s1 ⟨x,H1,I1,r1,q1⟩=>?_) hs hw
 rw [h1];exact bc (hg pins s1 σ H1 x v _ I1 r1 q1) fun _ s2 q=>q
theorem Iw {i:Nat} {x:Str} {e:Expr} {te:TE} {pos':Pos} (hN:X.N.Nodup) (hi:X.N[i]?=some x) (hx:Loc X.env.scope x) (he:PE X e te) (hs:swapsWith e (some (.Name x pos')) pos.line X.env=pure false:=by rfl) (hf:X.fn x=true\/X.env.scope.names.lookup x=some .local:=by first | exact .inl rfl | exact .inr rfl | assumption) :
  PS X (.Assign [.Name x pos'] e pos) (jZ te (bJ i)):=by
 intro pins s σ H D I h;refine wpAny_Assign_Name (bc (he pins s σ H _ I h) fun v s1 ⟨y,H1,I1,r1,q1⟩=>?_) hs
 exact DY I1 hN hi hx r1 (fun s2 I2=>⟨_,H1,I2,q1⟩) hf
def Es (i:Nat) (te:TE) (ti:HB):TS:=fun D σ H=>∃x,σ[i]?=some (some x)/\te σ H fun y H1=>ti x y H1 fun z H2=>D.nx (σ.set i (some z)) H2
theorem BK {i:Nat} {x:Str} {e:Expr} {te:TE} {op:Operator} {ti:HB} {pos':Pos} (hN:X.N.Nodup) (hi:X.N[i]?=some x) (hx:Loc X.env.scope x) (he:PE X e te) (ho:Ls X op ti) (hf:X.fn x=true\/X.env.scope.names.lookup x=some .local:=by first | exact .inl rfl | exact .inr rfl | assumption) :
  PS X (.AugAssign (.Name x pos') op e pos) (Es i te ti):=by
 intro pins s σ H D I h;obtain ⟨v,e1,h⟩:=h;obtain ⟨m,hn,hl⟩:=I.loc;have vis:CY X.env.scope x:=by rcases hx with k | k;exact .inl k;exact .inr (.inl k)
 obtain ⟨u,r,l⟩:=hl i x v hi e1 vis;refine wpAny_AugAssign_Name ?_
 have go:wpAny (model X.prog X.w) X.A (eval e X.env) (fun w s₂=>wpAny (model X.prog X.w) X.A (inplaceOp op u w) (fun r s₃=>wpAny (model X.prog X.w) X.A (storeName X.env x r) (fun _=>SP X pins D .next) X.xe s₃) X.xe s₂) X.xe s:=by
  refine bc (he pins s σ H _ I h) fun w s1 ⟨y,H1,I1,r1,q1⟩=>?_
  refine bc (ho pins s1 σ H1 v y u w _ I1 r r1 q1) fun z s2 ⟨zv,H2,I2,r2,q2⟩=>?_
  exact DY I2 hN hi hx r2 (fun s3 I3=>⟨_,H2,I3,q2⟩) hf
 rcases l with ⟨hk,hm⟩ | ⟨hk,c,hc,hcell⟩
 ·exact wpAny_loadName_local I.ok.kind hk hn hm go
 ·rcases hk with hk | hk
  ·exact wpAny_loadName_cell I.ok.kind hk hc hcell go
  ·rcases hx with k | k
   ·have:X.env.scope.names.lookup x=some .free:=hk
    rw [k] at this;cases this
   ·have:X.env.scope.names.lookup x=some .free:=hk
    rw [k] at this;cases this
def Ln (f:Int->Int->Int):HB:=fun x y H Q=>∃i j,x=.int i/\y=.int j/\Q (.int (f i j)) H
theorem Cr:Ls X .Add (Ln fun i j=>i+j):=by
 intro pins s σ H x y v u Q I r1 r2 h;obtain ⟨i,j,e1,e2,q⟩:=h;subst e1;subst e2;obtain ⟨t,rfl⟩:=r1;obtain ⟨t',rfl⟩:=r2;exact iadd_int ⟨.int _,H,I.tok _,⟨_,rfl⟩,q⟩
end
section
variable {X:Cx} {pos:Pos}
def sy (c:TT) (tb:TS):TS:=fun D σ H=>∃W:Nat->St->Hp->Prop,(∃m,W m σ H)/\∀m σ H,W m σ H ->
 c σ H fun b H1=>if b=true then ∃N:St->Hp->Prop,(∀σ' H',N σ' H'->∃m',m'<m/\W m' σ' H')/\tb { D with nx:=N,ct:=N,bk:=D.nx } σ H1 else D.nx σ H1
theorem tR {c:Expr} {body:List Stmt} {tc:TT} {tb:TS} (hp:PassesOwn (model X.prog X.w) X.A X.env X.xe) (hc:PT X c tc) (hb:PSs X body tb):PS X (.While c body [] pos) (sy tc tb):=by
 intro pins s σ H D I h;obtain ⟨W,⟨m0,w0⟩,turn⟩:=h;refine wpAny_While (codeAny_whileLoop (fun n s'=>∃σ' H',Inv X pins σ' H' s'/\W n σ' H') ?_ m0 ⟨σ,H,I,w0⟩)
 rintro n s1 ⟨σ1,H1,I1,w1⟩
 refine wpAny_passesOwn hp (bc (hc pins s1 σ1 H1 _ I1 (turn n σ1 H1 w1)) fun b s2 ⟨H2,I2,q2⟩=>?_)
 cases b with
 | true=>
  obtain ⟨N,hN,q2⟩:=q2;rw [if_pos rfl];refine wpAny_passesOwn hp (bc (hb pins s2 σ1 H2 _ I2 q2) fun f s3 q3=>?_)
  cases f with
  | next=>
   obtain ⟨σ3,H3,I3,n3⟩:=q3;obtain ⟨m',hm,w3⟩:=hN σ3 H3 n3;exact ⟨m',hm,σ3,H3,I3,w3⟩
  | cont=>
   obtain ⟨σ3,H3,I3,n3⟩:=q3;obtain ⟨m',hm,w3⟩:=hN σ3 H3 n3;exact ⟨m',hm,σ3,H3,I3,w3⟩
  | brk=>exact q3
  | ret v=>exact q3
 | false=>
  rw [if_neg Bool.false_ne_true];exact wpAny_execs_nil ⟨σ1,H2,I2,q2⟩
end
structure It where
 go:Nat->Hp->Prop
 yld:Nat->Hp->V->Hp->Prop
 stop:Nat->Hp->Prop
def ig (X:Cx) (pins:List (Addr×Obj)) (H:Hp) (b:Addr):Prop:=
 H b=none/\b≠X.env.locals/\b∉X.fs/\(b∈X.ex\/X.s₀.heap.objs.size<=b)/\(∀x c,X.env.cells.lookup x=some c->c≠b)/\∀p∈X.pn++pins,p.1≠b
theorem Inv.fpOk {X:Cx} {pins:List (Addr×Obj)} {σ:St} {H H':Hp} {s:Shared} {b:Addr} (I:Inv X pins σ H s) (hb:s.heap.objs.size<=b) (hn:H' b=none):ig X pins H' b:=by
 refine ⟨hn,Nat.ne_of_gt (Nat.lt_of_lt_of_le I.lt hb),I.nofs hb,.inr (Nat.le_trans I.sz hb),fun x c e z=>?_,fun p hp z=>?_⟩
 ·obtain ⟨v,q⟩:=I.cell x c e
  exact absurd (Nat.lt_of_lt_of_le q.lt (by rw [z];exact hb)) (Nat.lt_irrefl _)
 ·exact absurd (Nat.lt_of_lt_of_le (Heap.lt_size (I.pin p hp).1) (by rw [z];exact hb)) (Nat.lt_irrefl _)
structure rq (P:Program) (w:World) (K:Fg) (tg:Expr) (J:It) (fp:List Addr) (it:Addr) (tn:Nat->Heap->Prop):Prop where
 mem:it∈fp
 obj:∀i h,tn i h->∀b∈fp,∃o,h.get? b=some o/\∀v,o.data≠.cell v
 keep:∀i h h',tn i h->(∀b∈fp,∀o,h.get? b=some o->h'.get? b=some o)->tn i h'
 item:∀(X:Cx),X.prog=P->X.w=w->X.K=K->X.calm=true->∀(i:Nat) (pins:List (Addr×Obj)) (s:Shared) (σ:St) (H:Hp) (E:Value->Shared->Prop),Inv X pins σ H s->(∀b∈fp,ig X pins H b)->tn i s.heap->J.go i H ->
  wpAny (model P w) X.A (pyNext (.ref it)) (fun r s1=>∃u,r=some u /\
   wpAny (model P w) X.A (letOwnedTupleGo tg (.ref it) u) (fun _ s2=>∃x H',Inv X pins σ H' s2/\RelV x u/\J.yld i H x H'/\tn (i+1) s2.heap/\∀b∈fp,H' b=none) E s1) E s
 done:∀(X:Cx),X.prog=P->X.w=w->X.K=K->X.calm=true->∀(i:Nat) (pins:List (Addr×Obj)) (s:Shared) (σ:St) (H:Hp) (E:Value->Shared->Prop),Inv X pins σ H s->(∀b∈fp,ig X pins H b)->tn i s.heap->J.stop i H ->
  wpAny (model P w) X.A (pyNext (.ref it)) (fun r s1=>r=none/\Inv X pins σ H s1) E s
 self:∀(A:Around) (i:Nat) (s:Shared) (Q:Value->Shared->Prop) (E:Value->Shared->Prop),tn i s.heap->Q (.ref it) s->wpAny (model P w) A (pyIter (.ref it)) Q E s
abbrev TI:=St->Hp->(It->Hp->Prop)->Prop
def Lu (X:Cx) (pins:List (Addr×Obj)) (σ:St) (tg:Expr) (R:It->Hp->Prop) (itv:Value) (s2:Shared):Prop:=
 ∃(it:Addr) (fp:List Addr) (tn:Nat->Heap->Prop) (J:It) (H':Hp),itv=.ref it/\Inv X pins σ H' s2/\rq X.prog X.w X.K tg J fp it tn/\tn 0 s2.heap/\(∀b∈fp,ig X pins H' b)/\R J H'
def PI (X:Cx) (tg iter:Expr) (wi:TI):Prop:=
 ∀(pins:List (Addr×Obj)) (s:Shared) (σ:St) (H:Hp) (R:It->Hp->Prop),Inv X pins σ H s->wi σ H R ->
  wpAny (model X.prog X.w) X.A (eval iter X.env) (fun v s1=>wpAny (model X.prog X.w) X.A (pyIter v) (Lu X pins σ tg R) X.xe s1) X.xe s
theorem oU {M:Model} {A:Around} {E:Value->Shared->Prop} {s:Shared} {tg:Expr} {it:Addr} {u:Value} {o:Obj} {n:String} {vs:Array Value} {Q:Unit->Shared->Prop} (ho:s.heap.get? it=some o) (hc:o.cls=.type n) (hd:o.data=.fields vs)
  (hn:["enumerate", "zip", "dict_itemiterator", "dict_reverseitemiterator", "odict_iterator", "itertools.zip_longest", "itertools.pairwise"].contains n=false) (hQ:Q () s):wpAny M A (letOwnedTupleGo tg (.ref it) u) Q E s:=by
 unfold letOwnedTupleGo
 cases tg<;>first
  | exact L0 hQ
  | (cases u<;>first
      | exact L0 hQ
      | (refine LZ (wpAny_load ho ?_)
         rw [hc,hd];show wpAny M A (if (["enumerate", "zip", "dict_itemiterator", "dict_reverseitemiterator", "odict_iterator", "itertools.zip_longest", "itertools.pairwise"].contains n&&vs[0]?==some (rawInt _))=true then _ else _) Q E s
         rw [if_neg (by intro h;rw [hn,Bool.false_and] at h;cases h)]
         exact L0 hQ))
def HG (K:Fg) (a:Addr):It:=
 ⟨fun i H=>∃xs x,SqL K H a xs/\xs[i]?=some x,fun i H x H'=>H'=H/\∀xs,SqL K H a xs->xs[i]?=some x,fun i H=>∃xs,SqL K H a xs/\xs.length<=i⟩
def HE (K:Fg) (a:Addr):It:=
 ⟨fun i H=>∃xs x,SqT K H a xs/\xs[i]?=some x,fun i H x H'=>H'=H/\∀xs,SqT K H a xs->xs[i]?=some x,fun i H=>∃xs,SqT K H a xs/\xs.length<=i⟩
def C4 (lo:Int) (n:Nat):It:=⟨fun i _=>i<n,fun i H x H'=>H'=H/\x=.int (lo+i),fun i _=>n<=i⟩
theorem pL {P:Program} {w:World} {K:Fg} {tg:Expr} (a it:Addr):rq P w K tg (HG K a) [it] it (fun i h=>h.IsListIter it a i) where
 mem:=by simp
 obj:=fun i h st b hb=>by
  have e:b=it:=by simpa using hb
  subst e;obtain ⟨o,e,c,d⟩:=st;exact ⟨o,e,fun v z=>by rw [d] at z;cases z⟩
 keep:=fun i h h' st k=>st.at fun o e=>k it (by simp) o e
 item:=by
  intro X hP hw hK hc i pins s σ H E I hf st hg;subst hP hw hK;obtain ⟨xs,x,hq,hx⟩:=hg;obtain ⟨its,rv,p,hz⟩:=I.list hq;obtain ⟨u,hu,ru⟩:=rv.get hx;obtain ⟨f0,f1,f2,f3,f4,f5⟩:=hf it (by simp)
  refine wpAny_pyNext_list_item st p.isList (x:=u) (by simpa using hu) fun h' st' sb=>?_
  have I1:Inv X pins σ H { s with heap:=h' }:=I.turned (t':=s.toks) (fun b o hb e=>(sb.2 b hb).trans e) f0 f1 f3 f4 f5
  obtain ⟨o,e,c,d⟩:=id st'
  exact ⟨u,rfl,oU (s:={ s with heap:=h' }) e c d (by decide) ⟨x,H,I1,ru,⟨rfl,fun ys hy=>by rw [I.list_inj hy hq];exact hx⟩,st',fun b hb=>(hf b hb).1⟩⟩
 done:=by
  intro X hP hw hK hc i pins s σ H E I hf st hg;subst hP hw hK;obtain ⟨xs,hq,hx⟩:=hg;obtain ⟨its,rv,p,hz⟩:=I.list hq;obtain ⟨f0,f1,f2,f3,f4,f5⟩:=hf it (by simp)
  have hl:=rv.length
  exact wpAny_pyNext_list_end (I.ok.hd hc) st p.isList (by simp;omega) fun h' eb=>⟨rfl,I.turned (t':=s.toks) (fun b o hb e=>eb b o hb e) f0 f1 f3 f4 f5⟩
 self:=fun _ _ _ _ _ st h=>wpAny_pyIter_listiter st h
theorem ma {P:Program} {w:World} {K:Fg} {tg:Expr} (a it:Addr):rq P w K tg (HE K a) [it] it (fun i h=>h.IsTupleIter it a i) where
 mem:=by simp
 obj:=fun i h st b hb=>by
  have e:b=it:=by simpa using hb
  subst e;obtain ⟨o,e,c,d⟩:=st;exact ⟨o,e,fun v z=>by rw [d] at z;cases z⟩
 keep:=fun i h h' st k=>st.at fun o e=>k it (by simp) o e
 item:=by
  intro X hP hw hK hc i pins s σ H E I hf st hg;subst hP hw hK;obtain ⟨xs,x,hq,hx⟩:=hg;obtain ⟨its,rv,p,hz⟩:=I.tuple hq;obtain ⟨u,hu,ru⟩:=rv.get hx;obtain ⟨f0,f1,f2,f3,f4,f5⟩:=hf it (by simp)
  refine wpAny_pyNext_tuple_item st (show s.heap.IsTuple a its.toArray from p) (x:=u) (by simpa using hu) fun h' st' sb=>?_
  have I1:Inv X pins σ H { s with heap:=h' }:=I.turned (t':=s.toks) (fun b o hb e=>(sb.2 b hb).trans e) f0 f1 f3 f4 f5
  obtain ⟨o,e,c,d⟩:=id st'
  exact ⟨u,rfl,oU (s:={ s with heap:=h' }) e c d (by decide) ⟨x,H,I1,ru,⟨rfl,fun ys hy=>by rw [I.tuple_inj hy hq];exact hx⟩,st',fun b hb=>(hf b hb).1⟩⟩
 done:=by
  intro X hP hw hK hc i pins s σ H E I hf st hg;subst hP hw hK;obtain ⟨xs,hq,hx⟩:=hg;obtain ⟨its,rv,p,hz⟩:=I.tuple hq;obtain ⟨f0,f1,f2,f3,f4,f5⟩:=hf it (by simp)
  have hl:=rv.length
  exact wpAny_pyNext_tuple_end (I.ok.hd hc) st (show s.heap.IsTuple a its.toArray from p) (by simp;omega) fun h' eb=>⟨rfl,I.turned (t':=s.toks) (fun b o hb e=>eb b o hb e) f0 f1 f3 f4 f5⟩
 self:=fun _ _ _ _ _ st h=>wpAny_pyIter_tupleiter st h
theorem md {P:Program} {w:World} {K:Fg} {tg:Expr} (it:Addr) (lo:Int) (n:Nat):rq P w K tg (C4 lo n) [it] it (fun i h=>IsRangeIter h it (lo+(i:Nat)*1) ((n:Int)-(i:Nat)) 1) where
 mem:=by simp
 obj:=fun i h st b hb=>by
  have e:b=it:=by simpa using hb
  subst e;exact ⟨_,st,fun v z=>by
   have z':Data.fields _=Data.cell v:=z
   cases z'⟩
 keep:=fun i h h' st k=>k it (by simp) _ st
 item:=by
  intro X hP hw hK hc i pins s σ H E I hf st hg;subst hP hw hK;obtain ⟨f0,f1,f2,f3,f4,f5⟩:=hf it (by simp)
  have W:=Walks.range (prog:=X.prog) (w:=X.w) (I.ok.hd hc) it lo 1 n
  refine W.item i s _ _ hg st fun v h' tk hv st' kk=>?_
  obtain ⟨t,rfl⟩:=hv;have I1:Inv X pins σ H { s with heap:=h',toks:=tk }:=I.turned (fun b o hb e=>kk b o (by simpa using hb) e) f0 f1 f3 f4 f5
  refine ⟨_,rfl,oU (s:={ s with heap:=h',toks:=tk }) (n := "range_iterator") st' rfl rfl (by decide) ⟨.int (lo+i),H,I1,⟨t,?_⟩,⟨rfl,rfl⟩,st',fun b hb=>(hf b hb).1⟩⟩
  rw [Int.mul_one]
 done:=by
  intro X hP hw hK hc i pins s σ H E I hf st hg;subst hP hw hK;obtain ⟨f0,f1,f2,f3,f4,f5⟩:=hf it (by simp)
  exact wpAny_pyNext_range_end (I.ok.hd hc) st (by have:n<=i:=hg;omega) fun h' eb=>⟨rfl,I.turned (t':=s.toks) (fun b o hb e=>eb b o hb e) f0 f1 f3 f4 f5⟩
 self:=fun _ _ _ _ _ st h=>wpAny_pyIter_rangeiter st h
section
variable {X:Cx} {tg:Expr}
def iM (K:Fg) (tl:TE):TI:=fun σ H R=>tl σ H fun x H1=>∃a,x=.ref a/\(∃xs,SqL K H1 a xs)/\R (HG K a) H1
def Fe (K:Fg) (tl:TE):TI:=fun σ H R=>tl σ H fun x H1=>∃a,x=.ref a/\(∃xs,SqT K H1 a xs)/\R (HE K a) H1
theorem Ig {l:Expr} {tl:TE} (hl:PE X l tl):PI X tg l (iM X.K tl):=by
 intro pins s σ H R I h;refine bc (hl pins s σ H _ I h) fun v s1 ⟨x,H1,I1,r1,q1⟩=>?_
 obtain ⟨a,e,⟨xs,hq⟩,q⟩:=q1;subst e
 cases r1;obtain ⟨its,rv,p,hz⟩:=I1.list hq;refine wpAny_pyIter_list p.isList ?_
 refine ⟨s1.heap.objs.size,[s1.heap.objs.size],_,_,H1,rfl,I1.kept (t':=s1.toks) fun b o e=>L1 _ e,pL a _,⟨_,Heap.get?_push_size _ rfl,rfl,rfl⟩,fun b hb=>?_,q⟩
 have e:b=s1.heap.objs.size:=by simpa using hb
 subst e;exact I1.fpOk (L3 _) (I1.hok.fresh (L3 _))
theorem BL {l:Expr} {tl:TE} (hl:PE X l tl):PI X tg l (Fe X.K tl):=by
 intro pins s σ H R I h;refine bc (hl pins s σ H _ I h) fun v s1 ⟨x,H1,I1,r1,q1⟩=>?_
 obtain ⟨a,e,⟨xs,hq⟩,q⟩:=q1;subst e
 cases r1;obtain ⟨its,rv,p,hz⟩:=I1.tuple hq;refine wpAny_pyIter_tuple (show s1.heap.IsTuple a its.toArray from p) ?_
 refine ⟨s1.heap.objs.size,[s1.heap.objs.size],_,_,H1,rfl,I1.kept (t':=s1.toks) fun b o e=>L1 _ e,ma a _,⟨_,Heap.get?_push_size _ rfl,rfl,rfl⟩,fun b hb=>?_,q⟩
 have e:b=s1.heap.objs.size:=by simpa using hb
 subst e;exact I1.fpOk (L3 _) (I1.hok.fresh (L3 _))
theorem kh {pins:List (Addr×Obj)} {σ:St} {H:Hp} {s:Shared} {R:It->Hp->Prop} {E:Value->Shared->Prop} {lo hi:Int} {t u v:Tok} {tk:Nat} (I:Inv X pins σ H s) (h1:-(2 ^ 62)<=lo) (h2:lo<2 ^ 62) (h3:-(2 ^ 62)<=hi) (h4:hi<2 ^ 62)
  (q:R (C4 lo (hi-lo).toNat) H):wpAny (model X.prog X.w) X.A (pyIter (.ref s.heap.objs.size)) (Lu X pins σ tg R) E { s with heap:=s.heap.push { cls:=.type "range",data:=.fields #[.int lo t,.int hi u,.int 1 v] },toks:=tk }:=by
 refine wpAny_pyIter_range (IsRange.new ..) (small_one h1 h2 h3 h4) ?_
 have I1:Inv X pins σ H { s with heap:=s.heap.push { cls:=.type "range",data:=.fields #[.int lo t,.int hi u,.int 1 v] },toks:=tk }:=I.kept fun b o e=>L1 _ e
 refine ⟨(s.heap.push { cls:=.type "range",data:=.fields #[.int lo t,.int hi u,.int 1 v] }).objs.size,[(s.heap.push { cls:=.type "range",data:=.fields #[.int lo t,.int hi u,.int 1 v] }).objs.size],_,_,H,rfl,
  I1.kept (t':=tk) fun b o e=>L1 _ e,md _ lo (hi-lo).toNat,?_,fun b hb=>?_,q⟩
 ·have e1:lo+((0:Nat):Int)*1=lo:=by simp
  have e2:(((hi-lo).toNat:Nat):Int)-((0:Nat):Int)=Builtin.Range.rangeSize lo hi 1:=by rw [rangeSize_one];split<;>omega
  show IsRangeIter _ _ (lo+((0:Nat):Int)*1) ((((hi-lo).toNat:Nat):Int)-((0:Nat):Int)) 1
  rw [e1,e2];exact Heap.get?_push_size _ rfl
 ·have e:b=(s.heap.push { cls:=.type "range",data:=.fields #[.int lo t,.int hi u,.int 1 v] }).objs.size:=by simpa using hb
  subst e;exact I1.fpOk (L3 _) (I1.hok.fresh (L3 _))
def zK (ta:TA):TI:=fun σ H R=>ta σ H fun vs H1=>∃j:Int,vs=[.int j]/\-(2 ^ 62)<=j/\j<2 ^ 62/\R (C4 0 j.toNat) H1
def zJ (ta:TA):TI:=fun σ H R=>ta σ H fun vs H1=>∃i j:Int,vs=[.int i,.int j]/\(-(2 ^ 62)<=i/\i<2 ^ 62/\-(2 ^ 62)<=j/\j<2 ^ 62)/\R (C4 i (j-i).toNat) H1
theorem qf {a:Expr} {ta:TA} {p pos:Pos} (hg:Gl X "range") (hm:X.mg "range"=none) (ha:PA X [a] ta) (hs:starEach [a] X.env=[(false,eval a X.env)]:=by rfl):PI X tg (.Call (.Name "range" p) [a] [] pos) (zK ta):=by
 intro pins s σ H R I h;refine Call_ (vI I hg hm boot_range (PyProof.Rows.callWith_type1 (bc (ha pos pins s σ H _ I h) fun us s1 ⟨vs,H1,I1,r1,q1⟩=>?_) hs rfl))
 obtain ⟨j,e,q1,q2,q⟩:=q1;subst e
 cases r1 with
 | cons r rr=>
  cases rr;obtain ⟨t,rfl⟩:=r;exact call_range_1 (kh I1 (by omega) (by omega) q1 q2 (by simpa using q))
theorem qe {a b:Expr} {ta:TA} {p pos:Pos} (hg:Gl X "range") (hm:X.mg "range"=none) (ha:PA X [a,b] ta) (hs:starEach [a,b] X.env=[(false,eval a X.env),(false,eval b X.env)]:=by rfl) (hs2:starEach [b] X.env=[(false,eval b X.env)]:=by rfl) :
  PI X tg (.Call (.Name "range" p) [a,b] [] pos) (zJ ta):=by
 intro pins s σ H R I h;refine Call_ (vI I hg hm boot_range (PyProof.Rows.callWith_type1 (bc (ha pos pins s σ H _ I h) fun us s1 ⟨vs,H1,I1,r1,q1⟩=>?_) (by rw [hs,hs2]) (by rw [hs2];rfl)))
 obtain ⟨i,j,e,⟨q1,q2,q3,q4⟩,q⟩:=q1;subst e
 cases r1 with
 | cons r rr=>
  cases rr with
  | cons r' rr=>
   cases rr;obtain ⟨t,rfl⟩:=r;obtain ⟨t',rfl⟩:=r'
   exact call_range_2 (kh I1 q1 q2 q3 q4 q)
def wL (wi:TI) (g:TG) (tb:TS):TS:=fun D σ H=>wi σ H fun J H1=>∃W:Nat->Nat->St->Hp->Prop,(∃m,W 0 m σ H1)/\∀i m σ H,W i m σ H ->
 (J.stop i H/\D.nx σ H)\/(J.go i H/\∃N:St->Hp->Prop,(∀σ' H',N σ' H'->∃m',m'<m/\W (i+1) m' σ' H')/\∀x H',J.yld i H x H'->g x σ H' fun σ2 H2=>tb { D with nx:=N,ct:=N,bk:=D.nx } σ2 H2)
def DK (fp:List Addr) (h:Heap):List (Addr×Obj):=fp.filterMap fun b=>(h.get? b).map fun o=>(b,o)
theorem GO {fp:List Addr} {h:Heap} {b:Addr} {o:Obj} (hb:b∈fp) (e:h.get? b=some o):(b,o)∈DK fp h:=List.mem_filterMap.mpr ⟨b,hb,by rw [e];rfl⟩
theorem qm {fp:List Addr} {h:Heap} {p:Addr×Obj} (hp:p∈DK fp h):p.1∈fp/\h.get? p.1=some p.2:=by
 obtain ⟨b,hb,e⟩:=List.mem_filterMap.mp hp
 cases q:h.get? b with
 | none=>rw [q] at e;cases e
 | some o=>
  rw [q] at e;have e':(b,o)=p:=Option.some.inj e
  subst e'
  exact ⟨hb,q⟩
theorem Inv.pinned {pins:List (Addr×Obj)} {σ:St} {H:Hp} {s:Shared} {fp:List Addr} (I:Inv X pins σ H s) (hf:∀b∈fp,ig X pins H b) (ho:∀b∈fp,∃o,s.heap.get? b=some o/\∀v,o.data≠.cell v):Inv X (pins++DK fp s.heap) σ H s:=
 I.pins_of fun p hp=>(LP hp).elim (fun z=>I.pin p (LN _ z)) fun z=>by
  obtain ⟨hb,e⟩:=qm z;obtain ⟨f0,f1,f2,_⟩:=hf p.1 hb;obtain ⟨o,e',d⟩:=ho p.1 hb;rw [e] at e';cases e'
  exact ⟨e,f0,f1,f2,d⟩
theorem Inv.unpinned {pins pl:List (Addr×Obj)} {σ:St} {H:Hp} {s:Shared} (I:Inv X (pins++pl) σ H s):Inv X pins σ H s:=I.pins_of fun p hp=>I.pin p (LN _ (LO _ hp))
theorem Iv {iter:Expr} {body:List Stmt} {wi:TI} {g:TG} {tb:TS} {pos:Pos} (hp:PassesOwn (model X.prog X.w) X.A X.env X.xe) (hc:X.calm=true) (hi:PI X tg iter wi) (hg:PG X tg g) (hb:PSs X body tb)
  (hs:∀x,foldedSetIterable iter X.env x=pure x:=by intro _;rfl):PS X (.For tg iter body [] pos) (wL wi g tb):=by
 intro pins s σ H D I h;refine wpAny_For (bc (hi pins s σ H _ I h) fun v s1 h1=>bc h1 fun itv s2 h2=>?_) hs
 obtain ⟨it,fp,tn,J,H2,e,I2,T,st2,f2,W,⟨m0,w0⟩,turn⟩:=h2;subst e;have stat:∀{H':Hp},(∀b∈fp,H' b=none)->∀b∈fp,ig X pins H' b:=fun hn b hb=>⟨hn b hb,(f2 b hb).2⟩
 refine codeAny_forLoop_any (fun n s'=>∃i σ' H',Inv X pins σ' H' s'/\tn i s'.heap/\(∀b∈fp,H' b=none)/\W i n σ' H') ?_ m0 ⟨0,σ,H2,I2,st2,fun b hb=>(f2 b hb).1,w0⟩
 rintro n s3 ⟨i,σ3,H3,I3,st3,fr3,w3⟩
 rcases turn i n σ3 H3 w3 with ⟨stop,qn⟩ | ⟨go,N,hN,step⟩
 ·refine wpAny_passesOwn hp (bc (T.done X rfl rfl rfl hc i pins s3 σ3 H3 X.xe I3 (stat fr3) st3 stop) fun r s4 ⟨hr,I4⟩=>?_)
  subst hr;exact wpAny_execs_nil ⟨σ3,H3,I4,qn⟩
 ·refine wpAny_passesOwn hp (bc (T.item X rfl rfl rfl hc i pins s3 σ3 H3 X.xe I3 (stat fr3) st3 go) fun r s4 ⟨u,hr,h4⟩=>?_)
  subst hr;refine wpAny_passesOwn hp (bc h4 fun _ s5 ⟨x,H5,I5,r5,y5,st5,fr5⟩=>?_)
  have I5':=I5.pinned (stat fr5) (T.obj _ _ st5)
  refine wpAny_passesOwn hp (bc (hg _ s5 σ3 H5 x u _ I5' r5 (step x H5 y5)) fun _ s6 ⟨σ6,H6,I6,q6⟩=>?_)
  refine wpAny_passesOwn hp (bc (hb _ s6 σ6 H6 _ I6 q6) fun f s7 q7=>?_)
  have again:∀{σ7:St} {H7:Hp},Inv X (pins++DK fp s5.heap) σ7 H7 s7->N σ7 H7->∃m,m<n/\∃i σ' H',Inv X pins σ' H' s7/\tn i s7.heap/\(∀b∈fp,H' b=none)/\W i m σ' H':=fun {σ7 H7} I7 n7=>by
   obtain ⟨m',hm,w7⟩:=hN σ7 H7 n7;refine ⟨m',hm,i+1,σ7,H7,I7.unpinned,T.keep _ _ _ st5 fun b hb o e=>(I7.pin (b,o) (LN _ (LN _ (GO hb e)))).1,fun b hb=>?_,w7⟩
   obtain ⟨o,e,d⟩:=T.obj _ _ st5 b hb;exact (I7.pin (b,o) (LN _ (LN _ (GO hb e)))).2.1
  cases f with
  | next=>obtain ⟨σ7,H7,I7,n7⟩:=q7;exact again I7 n7
  | cont=>obtain ⟨σ7,H7,I7,n7⟩:=q7;exact again I7 n7
  | brk=>obtain ⟨σ7,H7,I7,q7⟩:=q7;exact ⟨σ7,H7,I7.unpinned,q7⟩
  | ret v=>obtain ⟨x7,σ7,H7,I7,r7,q7⟩:=q7;exact ⟨x7,σ7,H7,I7.unpinned,r7,q7⟩
end
abbrev R2:=V->V->Hp->VK->Prop
def OpR (X:Cx) (f:Value->Value->Sem Value) (r:R2):Prop:=
 ∀(pins:List (Addr×Obj)) (s:Shared) (σ:St) (H:Hp) (x y:V) (v u:Value) (Q:VK),Inv X pins σ H s->RelV x v->RelV y u->r x y H Q ->
  wpAny (model X.prog X.w) X.A (f v u) (EP X pins σ Q) X.xe s
def Lr (X:Cx) (f:Value->Sem Value) (r:V->Hp->VK->Prop):Prop:=
 ∀(pins:List (Addr×Obj)) (s:Shared) (σ:St) (H:Hp) (x:V) (v:Value) (Q:VK),Inv X pins σ H s->RelV x v->r x H Q ->
  wpAny (model X.prog X.w) X.A (f v) (EP X pins σ Q) X.xe s
def CallR (X:Cx) (f:Value) (r:List V->Hp->VK->Prop):Prop:=
 ∀(pins:List (Addr×Obj)) (s:Shared) (σ:St) (H:Hp) (xs:List V) (us:List Value) (Q:VK),Inv X pins σ H s->Vals xs us->r xs H Q ->
  wpAny (model X.prog X.w) X.A (call f us) (EP X pins σ Q) X.xe s
def KB (X:Cx) (r:V->Hp->(Bool->Hp->Prop)->Prop):Prop:=
 ∀(pins:List (Addr×Obj)) (s:Shared) (σ:St) (H:Hp) (x:V) (v:Value) (Q:Bool->Hp->Prop),Inv X pins σ H s->RelV x v->r x H Q ->
  wpAny (model X.prog X.w) X.A (truthy v) (TP X pins σ Q) X.xe s
def wK (r:R2) (ta tb:TE):TE:=fun σ H Q=>ta σ H fun x H1=>tb σ H1 fun y H2=>r x y H2 Q
def KY (r:V->Hp->VK->Prop) (ta:TE):TE:=fun σ H Q=>ta σ H fun x H1=>r x H1 Q
def rI (C:Int->Int->Prop) (g:Int->Int->V):R2:=fun x y H Q=>∃i j,x=.int i/\y=.int j/\C i j/\Q (g i j) H
def oo (g:Int->Int->V):R2:=fun x y H Q=>∃i j,x=.int i/\y=.int j/\Q (g i j) H
section
variable {X:Cx} {a b c:Expr} {ta tb tc:TE} {pos:Pos}
theorem CW (ha:PE X a ta) (hb:PE X b tb) {pins:List (Addr×Obj)} {s:Shared} {σ:St} {H:Hp} {R:V->V->Hp->Prop} (I:Inv X pins σ H s)
  (h:ta σ H fun x H1=>tb σ H1 fun y H2=>R x y H2) {Q:Value->Shared->Prop} {f:Value->Value->Sem Value}
  (hf:∀v u s2 x y H2,Inv X pins σ H2 s2->RelV x v->RelV y u->R x y H2->wpAny (model X.prog X.w) X.A (f v u) Q X.xe s2) :
  wpAny (model X.prog X.w) X.A (eval a X.env) (fun v s₁=>wpAny (model X.prog X.w) X.A (eval b X.env) (fun u s₂=>wpAny (model X.prog X.w) X.A (f v u) Q X.xe s₂) X.xe s₁) X.xe s:=by
 refine bc (ha pins s σ H _ I h) fun v s1 ⟨x,H1,I1,r1,q1⟩=>?_
 refine bc (hb pins s1 σ H1 _ I1 q1) fun u s2 ⟨y,H2,I2,r2,q2⟩=>?_
 exact hf v u s2 x y H2 I2 r1 r2 q2
theorem eJ {op:Operator} {r:R2} (ho:OpR X (binaryOp op) r) (ha:PE X a ta) (hb:PE X b tb):PE X (.BinOp a op b pos) (wK r ta tb):=by
 intro pins s σ H Q I h;exact wpAny_BinOp (CW ha hb I h fun v u s2 x y H2 I2 rx ry q=>ho pins s2 σ H2 x y v u Q I2 rx ry q)
theorem zC {op:UnaryOp} {r:V->Hp->VK->Prop} (ho:Lr X (unaryOp op) r) (ha:PE X a ta):PE X (.UnaryOp op a pos) (KY r ta):=by
 intro pins s σ H Q I h;exact UnaryOp_ (bc (ha pins s σ H _ I h) fun v s1 ⟨x,H1,I1,r1,q1⟩=>ho pins s1 σ H1 x v Q I1 r1 q1)
theorem Ho {f:Value->Value->Sem Value} {C:Int->Int->Prop} {g:Int->Int->Int}
  (rule:∀(i j:Int) (t u:Tok) (s:Shared) (Q:Value->Shared->Prop) (E:Value->Shared->Prop),C i j->Q (.int (g i j) s.toks) { s with toks:=s.toks+1 }->wpAny (model X.prog X.w) X.A (f (.int i t) (.int j u)) Q E s) :
  OpR X f (rI C fun i j=>.int (g i j)):=by
 intro pins s σ H x y v u Q I rx ry h;obtain ⟨i,j,rfl,rfl,hc,q⟩:=h;obtain ⟨t,rfl⟩:=rx;obtain ⟨t',rfl⟩:=ry;exact rule i j t t' s _ _ hc ⟨.int (g i j),H,I.tok _,⟨_,rfl⟩,q⟩
theorem EW {f:Value->Value->Sem Value} {g:Int->Int->Int}
  (rule:∀(i j:Int) (t u:Tok) (s:Shared) (Q:Value->Shared->Prop) (E:Value->Shared->Prop),Q (.int (g i j) s.toks) { s with toks:=s.toks+1 }->wpAny (model X.prog X.w) X.A (f (.int i t) (.int j u)) Q E s) :
  OpR X f (oo fun i j=>.int (g i j)):=by
 intro pins s σ H x y v u Q I rx ry h;obtain ⟨i,j,rfl,rfl,q⟩:=h;obtain ⟨t,rfl⟩:=rx;obtain ⟨t',rfl⟩:=ry;exact rule i j t t' s _ _ ⟨.int (g i j),H,I.tok _,⟨_,rfl⟩,q⟩
theorem xP {f:Value->Value->Sem Value} {g:Int->Int->Bool}
  (rule:∀(i j:Int) (t u:Tok) (s:Shared) (Q:Value->Shared->Prop) (E:Value->Shared->Prop),Q (.bool (g i j)) s->wpAny (model X.prog X.w) X.A (f (.int i t) (.int j u)) Q E s) :
  OpR X f (oo fun i j=>.bl (g i j)):=by
 intro pins s σ H x y v u Q I rx ry h;obtain ⟨i,j,rfl,rfl,q⟩:=h;obtain ⟨t,rfl⟩:=rx;obtain ⟨t',rfl⟩:=ry;exact rule i j t t' s _ _ ⟨.bl (g i j),H,I,rfl,q⟩
def KR (i j:Int):Prop:=0<j/\j<1073741824
def KP (i j:Int):Prop:=0<=j/\j<=1000000/\i.natAbs<2 ^ 64
def CMul (i j:Int):Prop:=(-(2 ^ 64)<i/\i<2 ^ 64)\/(-(2 ^ 64)<j/\j<2 ^ 64)
theorem CMul.ok {i j:Int} (h:CMul i j):IntMulOk i j:=by
 rcases h with ⟨h1,h2⟩ | ⟨h1,h2⟩
 ·exact .of_left (intBits_le_64 h1 h2)
 ·exact .of_right (intBits_le_64 h1 h2)
theorem B5:OpR X (binaryOp .Add) (oo fun i j=>.int (i+j)):=EW fun _ _ _ _ _ _ _ q=>add_int q
theorem BW:OpR X (binaryOp .Sub) (oo fun i j=>.int (i-j)):=EW fun _ _ _ _ _ _ _ q=>sub_int q
theorem BZ:OpR X (binaryOp .Mult) (rI CMul fun i j=>.int (i*j)):=Ho fun _ _ _ _ _ _ _ hc q=>mul_int q hc.ok
theorem xO:OpR X (binaryOp .FloorDiv) (rI KR fun i j=>.int (i / j)):=Ho fun i j _ _ _ _ _ hc q=>by
 have h1:(0:Int)<j:=hc.1
 have h2:j<1073741824:=hc.2
 exact floordiv_int (by omega) (by rw [Int.fdiv_eq_ediv_of_nonneg i (by omega)];exact q) (.inl (PyProof.noPylong_small (by omega)))
theorem B0:OpR X (binaryOp .Mod) (rI (fun _ j=>0<j) fun i j=>.int (i % j)):=Ho fun i j _ _ _ _ _ hc q=>by
 have h1:(0:Int)<j:=hc
 exact mod_int' (by omega) (by rw [Int.fmod_eq_emod_of_nonneg i (by omega)];exact q)
theorem BX:OpR X (binaryOp .Pow) (rI KP fun i j=>.int (i ^ j.toNat)):=Ho fun _ _ _ _ _ _ _ hc q=>pow_int_small hc.1 hc.2.1 hc.2.2 q
end
def scal:V->V->Bool
 | .non,.non=>true | .non,.int _=>true | .int _,.non=>true | .non,.bl _=>true | .bl _,.non=>true | .non,.str _=>true | .str _,.non=>true
 | .int _,.int _=>true | .bl _,.bl _=>true | .str _,.str _=>true | .byt _,.byt _=>true
 | .int _,.str _=>true | .str _,.int _=>true | .bl _,.str _=>true | .str _,.bl _=>true
 | _,_=>false
section
variable {X:Cx} {a b c:Expr} {ta tb tc:TE} {pos:Pos}
theorem Da {pins:List (Addr×Obj)} {σ:St} {H:Hp} {s:Shared} {Q:VK} {k k':Bool} (I:Inv X pins σ H s) (q:Q (.bl k) H) (e:k=k'):EP X pins σ Q (.bool k') s:=by
 subst e;exact ⟨.bl k,H,I,rfl,q⟩
theorem op_lt:OpR X (compareOp .Lt) (oo fun i j=>.bl (decide (i<j))):=xP fun _ _ _ _ _ _ _ q=>lt_int q
theorem EU:OpR X (compareOp .LtE) (oo fun i j=>.bl (decide (i<=j))):=xP fun _ _ _ _ _ _ _ q=>le_int q
theorem EV:OpR X (compareOp .Gt) (oo fun i j=>.bl (decide (j<i))):=xP fun _ _ _ _ _ _ _ q=>gt_int q
theorem op_ge:OpR X (compareOp .GtE) (oo fun i j=>.bl (decide (j<=i))):=xP fun _ _ _ _ _ _ _ q=>ge_int q
theorem qh:OpR X (compareOp .Lt) (fun x y H Q=>∃i j,x=.str i/\y=.str j/\Q (.bl (decide (i.cps.toList<j.cps.toList))) H):=by
 intro pins s σ H x y v u Q I rx ry h;obtain ⟨i,j,rfl,rfl,q⟩:=h;obtain ⟨t,rfl⟩:=rx;obtain ⟨t',rfl⟩:=ry;exact lt_str (Da I q rfl)
theorem qi:OpR X (compareOp .In) (fun x y H Q=>∃i j,x=.str i/\y=.str j/\Q (.bl (!(Builtin.Str.occurrences j i 0 j.length 1).isEmpty)) H):=by
 intro pins s σ H x y v u Q I rx ry h;obtain ⟨i,j,rfl,rfl,q⟩:=h;obtain ⟨t,rfl⟩:=rx;obtain ⟨t',rfl⟩:=ry;exact in_str (Da I q rfl)
theorem B1:OpR X (compareOp .Is) (fun x y H Q=>y=.non/\Q (.bl (decide (x=.non))) H):=by
 intro pins s σ H x y v u Q I rx ry h;obtain ⟨rfl,q⟩:=h
 cases ry;refine is_none_gen (Da I q ?_)
 cases x<;>first
  | (cases rx;rfl)
  | (obtain ⟨t,rfl⟩:=rx;rfl)
theorem xM:OpR X (compareOp .IsNot) (fun x y H Q=>y=.non/\Q (.bl (!decide (x=.non))) H):=by
 intro pins s σ H x y v u Q I rx ry h;obtain ⟨rfl,q⟩:=h
 cases ry;refine isnot_none_gen (Da I q ?_)
 cases x<;>first
  | (cases rx;rfl)
  | (obtain ⟨t,rfl⟩:=rx;rfl)
theorem OpR.or {f:Value->Value->Sem Value} {r r':R2} (h:OpR X f r) (h':OpR X f r'):OpR X f (fun x y H Q=>r x y H Q\/r' x y H Q):=by
 intro pins s σ H x y v u Q I rx ry q;rcases q with q | q
 ·exact h pins s σ H x y v u Q I rx ry q
 ·exact h' pins s σ H x y v u Q I rx ry q
theorem xI {op:CmpOp} {r:R2} (ho:OpR X (compareOp op) r) (ha:PE X a ta) (hb:PE X b tb) (hm:behindInMarks op b=false):PE X (.Compare a [op] [b] pos) (wK r ta tb):=by
 intro pins s σ H Q I h;exact wpAny_Compare1 (CW ha hb I h fun v u s2 x y H2 I2 rx ry q=>ho pins s2 σ H2 x y v u Q I2 rx ry q) hm
def zp (t:TE):TT:=fun σ H Q=>t σ H fun x H'=>∃k,x=.bl k/\Q k H'
theorem xB {op:CmpOp} {r:R2} (ho:OpR X (compareOp op) r) (ha:PE X a ta) (hb:PE X b tb) (hm:behindInMarks op b=false):PT X (.Compare a [op] [b] pos) (zp (wK r ta tb)):=by
 intro pins s σ H Q I h;refine wpAny_isTrue_Compare1 (bc (ha pins s σ H _ I h) fun v s1 ⟨x,H1,I1,r1,q1⟩=>bc (hb pins s1 σ H1 _ I1 q1) fun u s2 ⟨y,H2,I2,r2,q2⟩=>
  bc (ho pins s2 σ H2 x y v u _ I2 r1 r2 q2) fun c s3 ⟨z,H3,I3,r3,k,e,q3⟩=>?_) hm
 subst e
 cases r3;exact wpAny_truthy_bool ⟨H3,I3,q3⟩
def sE (r r':R2) (ta tb tc:TE):TE:=fun σ H Q=>ta σ H fun x H1=>tb σ H1 fun y H2=>r x y H2 fun z H3=>∃k,z=.bl k /\
 (if k=true then tc σ H3 fun w' H4=>r' y w' H4 Q else Q (.bl false) H3)
theorem uh {op op':CmpOp} {r r':R2} (ho:OpR X (compareOp op) r) (ho':OpR X (compareOp op') r') (ha:PE X a ta) (hb:PE X b tb) (hc:PE X c tc)
  (hm:lastMarks [op,op'] [b,c]=false:=by with_unfolding_all rfl):PE X (.Compare a [op,op'] [b,c] pos) (sE r r' ta tb tc):=by
 intro pins s σ H Q I h;refine Compare_chain (bc (ha pins s σ H _ I h) fun v s1 ⟨x,H1,I1,r1,q1⟩=>chain_link (bc (hb pins s1 σ H1 _ I1 q1) fun u s2 ⟨y,H2,I2,r2,q2⟩=>
  bc (ho pins s2 σ H2 x y v u _ I2 r1 r2 q2) fun d s3 ⟨z,H3,I3,r3,k,e,q3⟩=>?_)) hm
 subst e
 cases r3;refine wpAny_truthy_bool ?_
 cases k with
 | false=>exact ite_ff ⟨.bl false,H3,I3,rfl,q3⟩
 | true=>exact ite_tt (chain_last (bc (hc pins s3 σ H3 _ I3 q3) fun w' s4 ⟨z',H4,I4,r4,q4⟩=>ho' pins s4 σ H4 y z' u w' Q I4 r2 r4 q4))
def CZ (K:Fg) (x:V) (H:Hp) (k:Bool):Prop:=
 match x with
 | .non=>k=false
 | .bl b=>k=b
 | .int i=>k=(i != 0)
 | .str y=>y.length<=sizeLine/\k=((y.length:Int) != 0)
 | .byt y=>y.size<=sizeLine/\k=((y.size:Int) != 0)
 | .ref p=>(∃xs,SqL K H p xs/\k=!xs.isEmpty)\/(∃xs,SqT K H p xs/\k=!xs.isEmpty)\/∃kvs,H p=some (.dK kvs)/\k=!kvs.isEmpty
 | _=>False
theorem mR {κ:Type} {kvs:List (κ×V)} {vs:List (κ×Value)} (r:KV kvs vs):(!vs.isEmpty)=!kvs.isEmpty:=by
 cases r<;>rfl
theorem gg {xs:List V} {its:List Value} (r:Vals xs its):(!its.toArray.isEmpty)=!xs.isEmpty:=by
 cases r<;>simp
theorem Aa:(sizeLine:Nat)<2 ^ 63:=by rw [sizeLine_eq];decide
theorem AE:KB X (fun x H Q=>∃k,CZ X.K x H k/\Q k H):=by
 intro pins s σ H x v Q I rx h;obtain ⟨k,e,q⟩:=h;have hl:=Aa
 have hs:sizeLine=16777216:=sizeLine_eq
 cases x with
 | non=>
  cases rx;have e':k=false:=e
  subst e'
  exact truthy_none ⟨H,I,q⟩
 | bl b=>
  cases rx;have e':k=b:=e
  subst e'
  exact wpAny_truthy_bool ⟨H,I,q⟩
 | int i=>
  obtain ⟨t,rfl⟩:=rx;have e':k=(i != 0):=e
  subst e'
  exact PySem.P.truthy_int ⟨H,I,q⟩
 | str y=>
  obtain ⟨t,rfl⟩:=rx;obtain ⟨hy,e'⟩:y.length<=sizeLine/\k=((y.length:Int) != 0):=e
  subst e'
  exact PySem.P.truthy_str (by omega) ⟨H,I.tok _,q⟩
 | byt y=>
  obtain ⟨t,rfl⟩:=rx;obtain ⟨hy,e'⟩:y.size<=sizeLine/\k=((y.size:Int) != 0):=e
  subst e'
  exact PySem.W.truthy_bytes (by omega) ⟨H,I.tok _,q⟩
 | ref p=>
  cases rx;have e':(∃xs,SqL X.K H p xs/\k=!xs.isEmpty)\/(∃xs,SqT X.K H p xs/\k=!xs.isEmpty)\/∃kvs,H p=some (.dK kvs)/\k=!kvs.isEmpty:=e
  rcases e' with ⟨xs,hx,e'⟩ | ⟨xs,hx,e'⟩ | ⟨kvs,hx,e'⟩
  ·subst e'
   obtain ⟨its,r,pl,hz⟩:=I.list hx;have hlen:=r.length
   exact wpAny_truthy_list pl.isList (by simp only [size_toArray];omega) ⟨H,I.tok _,by rw [gg r];exact q⟩
  ·subst e'
   obtain ⟨its,r,pl,hz⟩:=I.tuple hx;have hlen:=r.length
   exact truthy_tuple pl (by simp only [size_toArray];omega) ⟨H,I.tok _,by rw [gg r];exact q⟩
  ·subst e'
   obtain ⟨hz,hS,vs,r,m⟩:kvs.length<=sizeLine/\(p==sysModules)=false/\∃vs,KV kvs vs/\s.heap.DictOf (jE X.prog X.w) p vs:=I.hok p _ hx
   have hlen:kvs.length=vs.length:=Paired.length r
   exact wpAny_truthy_dict hS m (by omega) ⟨H,I.tok _,by rw [mR r];exact q⟩
 | _=>exact (show False from e).elim
theorem tQ (ha:PE X a ta) (he:∀whole,isTrue a X.env whole=(do let v <-whole;standAt a.pos;holding [v] (truthy v))) :
  PT X a (fun σ H Q=>ta σ H fun x H'=>∃k,CZ X.K x H' k/\Q k H'):=by
 intro pins s σ H Q I h;exact isTrue_plain (bc (ha pins s σ H _ I h) fun v s1 ⟨x,H1,I1,r1,q1⟩=>AE pins s1 σ H1 x v Q I1 r1 q1) (he _)
theorem vals1 {x:V} {us:List Value} (r:Vals [x] us):∃u,us=[u]/\RelV x u:=by
 cases r with
 | cons r1 r2=>cases r2;exact ⟨_,rfl,r1⟩
theorem rg:CallR X (.type "int") (fun xs H Q=>(∃i,xs=[.int i]/\Q (.int i) H)\/∃k,xs=[.bl k]/\Q (.int (if k then 1 else 0)) H):=by
 intro pins s σ H xs us Q I r h;rcases h with ⟨i,rfl,q⟩ | ⟨k,rfl,q⟩
 ·obtain ⟨u,rfl,t,rfl⟩:=vals1 r
  exact call_int_int ⟨.int i,H,I,⟨_,rfl⟩,q⟩
 ·obtain ⟨u,rfl,r1⟩:=vals1 r
  cases r1;exact call_int_bool ⟨.int (if k then 1 else 0),H,I.tok _,⟨_,rfl⟩,q⟩
end
structure ObjM (h:Heap) (x dx C:Addr) (mA:Str->Option Value):Prop where
 obj:h.get? x=some (PySem.W.instObj C dx)
 ns:h.Ns1 dx mA
 ne:dx≠x
theorem qy {h:Heap} {dx:Addr} {mA:Str->Option Value} (n:h.Ns1 dx mA):∃od,h.get? dx=some od/\∀name,PySem.W.lookIn name od=some (mA name):=by
 obtain ⟨o,es,ep,ho,hd,hk,_,hm⟩:=n;refine ⟨o,ho,fun name=>?_⟩
 have e:=hm name
 unfold nsFind findBy at e;rw [<-Array.find?_toList] at e;unfold PySem.W.lookIn;rw [hd];dsimp only;split
 ·rename_i y q
  rw [q] at e;exact congrArg some e
 ·rename_i q
  rw [q] at e;have a:es.toList.any (·.refKey)=false:=by
   rw [List.any_eq_false];intro y hy;obtain ⟨z,t,hkey⟩:=hk y (Array.mem_toList_iff.mp hy);simp [DictEntry.refKey,hkey]
  have a':¬es.toList.any (·.refKey)=true:=by rw [a];exact Bool.false_ne_true
  rw [if_neg a'];exact congrArg some e
theorem ObjM.look {h:Heap} {x dx C:Addr} {mA:Str->Option Value} (I:ObjM h x dx C mA):∃od,PySem.W.InstAt h x (PySem.W.instObj C dx) C (some od)/\∀name,PySem.W.lookIn name od=some (mA name):=
 let ⟨od,ho,hl⟩:=qy I.ns
 ⟨od,⟨I.obj,rfl,rfl,ho⟩,hl⟩
theorem RelO.some_of {v:V} {o:Option Value} (r:RelO (some v) o):∃u,o=some u/\RelV v u:=by
 cases o with
 | none=>exact (show False from r).elim
 | some u=>exact ⟨u,rfl,r⟩
section
variable {P:Program} {w:World} {H H':Hp} {h h':Heap} {a C dx:Addr} {fs fs':List (Str×V)}
theorem yf (hok:HOk P w H h) (e:H a=some (.ins C dx fs)):∃mA,ObjM h a dx C mA/\(∀f,RelO (fs.lookup f) (mA f))/\PySem.Within mA (fs.map (·.1))/\fs.length<=1000/\H dx=some (.own a):=by
 obtain ⟨d,z,ne,ob,mA,n,r,q⟩:=(show ObjOk P w H h a (.ins C dx fs) from hok a _ e);exact ⟨mA,⟨ob,n,ne⟩,r,q,z,d⟩
end
structure Cls (K:Fg) (C:Addr):Prop where
 pg:PySem.W.plainGet K C Str.empty=true
 hd:PySem.W.hasDictIn K C=true
 po:PySem.W.plainOver K C=true
 sa:PySem.W.findIn K (.ref C) "__setattr__"=some (some (.builtin "object.__setattr__"))
theorem Cls.get {K:Fg} {C:Addr} (c:Cls K C) (f:Str):PySem.W.plainGet K C f=true:=c.pg
structure Con (K:Fg) (C:Addr) (f:Str) (v:V) (u:Value):Prop where
 at_:PySem.W.findIn K (.ref C) f=some (some u)
 rel:RelV v u
 get:PySem.W.specialIn K u "__get__"=some none
 cp:PySem.W.copiedNames.contains f=false
structure LH (K:Fg) (C:Addr) (m:Str) (f:Addr):Prop where
 at_:PySem.W.findIn K (.ref C) m=some (some (.ref f))
 fn:PySem.W.isFn K (.ref f)=true
 kp:PySem.W.keepIn K (.ref f)=true
section
variable {X:Cx} {pins:List (Addr×Obj)} {σ:St} {H:Hp} {s:Shared} {A:Around} {E:Value->Shared->Prop} {Q:Value->Shared->Prop} {c:Value} {b:Bool}
inductive fC (K:Fg) (H:Hp):V->Value->Prop where
 | non:fC K H .non (.type "NoneType")
 | bl (x:Bool):fC K H (.bl x) (.type "bool")
 | int (i:Int):fC K H (.int i) (.type "int")
 | str (x:Str):fC K H (.str x) (.type "str")
 | flt (x:UInt64):fC K H (.flt x) (.type "float")
 | lst {a:Addr} {xs:List V} (e:H a=some (.lst xs)):fC K H (.ref a) (.type "list")
 | frz {a:Addr} {o:Obj} {xs:List V} (e:H a=some (.frz o (.lst xs))):fC K H (.ref a) (.type "list")
 | tup {a:Addr} {xs:List V} (e:H a=some (.tup xs)):fC K H (.ref a) (.type "tuple")
 | dK {a:Addr} {kvs:List (cT×V)} (e:H a=some (.dK kvs)):fC K H (.ref a) (.type "dict")
 | dT {a:Addr} {kvs:List (List cT×V)} (e:H a=some (.dT kvs)):fC K H (.ref a) (.type "dict")
 | ins {a C dx:Addr} {fs:List (Str×V)} (e:H a=some (.ins C dx fs)) (cl:Cls K C) (ha:PySem.W.findIn K (.ref C) "__class__"=some (some (.builtin "object.__class__")))
   (hn:PySem.W.specialIn K (.builtin "object.__class__") "__get__"=some (some (.builtin "getset_descriptor.__get__"))) (htk:PySem.W.takesIn K (.builtin "object.__class__")=some true)
   (hm:PySem.W.mroIn K C (.type "object")=some true):fC K H (.ref a) (.ref C)
theorem An {x:V} {u t:Value} (I:Inv X pins σ H s) (rx:RelV x u) (ty:fC X.K H x t) (e:PySem.W.kitOne X.K t c=some b) (h:∀tk,Q (.bool b) { s with toks:=tk }) :
  wpAny (model X.prog X.w) A (call (.builtin "isinstance") [u,c]) Q E s:=by
 cases ty with
 | non=>cases (show u=Value.none from rx);exact PySem.W.kia_one PySem.W.kitx_none I.kIn True.intro e nofun h
 | bl y=>cases (show u=Value.bool y from rx);exact PySem.W.kia_one PySem.W.kitx_bool I.kIn True.intro e nofun h
 | int i=>obtain ⟨t,q⟩:=(show ∃t,u=Value.int i t from rx);cases q;exact PySem.W.kia_one PySem.W.kitx_int I.kIn True.intro e nofun h
 | str y=>obtain ⟨t,q⟩:=(show ∃t,u=Value.str y t from rx);cases q;exact PySem.W.kia_one PySem.W.kitx_str I.kIn True.intro e nofun h
 | flt y=>obtain ⟨t,q⟩:=(show ∃t,u=Value.float y t from rx);cases q;exact PySem.W.kia_one PySem.W.kitx_float I.kIn True.intro e nofun h
 | @lst a xs ea=>
  cases (show u=Value.ref a from rx)
  obtain ⟨_,_,n,_,h1⟩:=(show ObjOk X.prog X.w H s.heap a (.lst xs) from I.hok a _ ea);exact PySem.W.kia_one PySem.W.kitx_list I.kIn ⟨_,h1,rfl⟩ e nofun h
 | @frz a ob xs ea=>
  cases (show u=Value.ref a from rx)
  obtain ⟨_,_,_,n,_,h1⟩:=(show ObjOk X.prog X.w H s.heap a (.frz ob (.lst xs)) from I.hok a _ ea);exact PySem.W.kia_one PySem.W.kitx_list I.kIn ⟨_,h1,rfl⟩ e nofun h
 | @tup a xs ea=>
  cases (show u=Value.ref a from rx)
  obtain ⟨_,_,_,p⟩:=(show ObjOk X.prog X.w H s.heap a (.tup xs) from I.hok a _ ea);obtain ⟨o,h1,h2,_⟩:=p;exact PySem.W.kia_one PySem.W.kitx_tuple I.kIn ⟨o,h1,h2⟩ e nofun h
 | @dK a kvs ea=>
  cases (show u=Value.ref a from rx)
  obtain ⟨_,_,vs,_,p⟩:=(show ObjOk X.prog X.w H s.heap a (.dK kvs) from I.hok a _ ea);obtain ⟨o,es,ep,h1,h2,_⟩:=p;exact PySem.W.kia_one PySem.W.kitx_dict I.kIn ⟨o,h1,h2.1⟩ e nofun h
 | @dT a kvs ea=>
  cases (show u=Value.ref a from rx)
  obtain ⟨_,_,xs,_,o,es,ep,h1,h2,_⟩:=(show ObjOk X.prog X.w H s.heap a (.dT kvs) from I.hok a _ ea);exact PySem.W.kia_one PySem.W.kitx_dict I.kIn ⟨o,h1,h2.1⟩ e nofun h
 | @ins a C dx fs ea cl ha hn htk hm=>
  cases (show u=Value.ref a from rx)
  obtain ⟨mA,O,_⟩:=yf I.hok ea;obtain ⟨od,J,_⟩:=O.look;exact PySem.W.kia_one (PySem.W.kitx_own (cl.get _) cl.hd ha hn htk hm) I.kIn J e nofun h
end
structure Room (k:Nat) (A:Around):Prop where
 hd:A.handled=none
 dp:A.depth+3*k+5<recursionLimit
 un:A.units+16*k+200<cLine
theorem Room.mono {j k:Nat} {A:Around} (r:Room k A) (h:j<=k):Room j A:=⟨r.hd,by have:=r.dp;omega,by have:=r.un;omega⟩
theorem Room.deeper {k:Nat} {A:Around} (r:Room (k+1) A) (env:Env):Room k (A.deeper env):=
 ⟨r.hd,by have:=r.dp;show A.depth+1+3*k+5<_;omega,by have:=r.un;show A.units+3+16*k+200<_;omega⟩
theorem Room.depth {k:Nat} {A:Around} (r:Room k A):A.depth<recursionLimit:=by have:=r.dp;omega
theorem Room.units {k:Nat} {A:Around} (r:Room k A):A.units+64<cLine:=by have:=r.un;omega
def sA:TA:=fun _ H Q=>Q [] H
def iy (ta:TE) (tr:TA):TA:=fun σ H Q=>ta σ H fun x H1=>tr σ H1 fun xs H2=>Q (x::xs) H2
section
variable {X:Cx} {e:Expr} {es:List Expr} {te:TE} {t:TA} {pos:Pos}
theorem FT:PA X [] sA:=fun _ _ _ _ H Q I h=>Calls.spliced_nil ⟨[],H,I,.nil,h⟩
theorem DS (ha:PE X e te) (hr:PA X es t) (hs:starEach (e::es) X.env=(false,eval e X.env)::starEach es X.env:=by rfl):PA X (e::es) (iy te t):=by
 intro pos pins s σ H Q I h;rw [hs];show wpAny _ _ (spliced ((false,eval e X.env)::backTo pos (starEach es X.env))) _ _ s
 refine Calls.spliced_cons (bc (ha pins s σ H _ I h) fun u s1 ⟨x,H1,I1,r1,q1⟩=>?_)
 exact bc (hr pos pins s1 σ H1 _ I1 q1) fun us s2 ⟨xs,H2,I2,r2,q2⟩=>⟨x::xs,H2,I2,.cons r1 r2,q2⟩
def Em (t:TA):TE:=fun σ H Q=>t σ H fun xs H1=>xs.length<=sizeLine/\∀p,H1 p=none->Q (.ref p) (bb H1 p (.tup xs))
def AJ (t:TA):TE:=fun σ H Q=>t σ H fun xs H1=>xs.length<=sizeLine/\∀p,H1 p=none->Q (.ref p) (bb H1 p (.lst xs))
theorem BO {x1} (h:PA X es t):PE X (.Tuple es x1 pos) (Em t):=by
 intro pins s σ H Q I hq;refine wpAny_Tuple_spliced (bc (h pos pins s σ H _ I hq) fun us s1 ⟨xs,H1,I1,r,z,q⟩=>⟨by rw [<-r.length];exact z,?_⟩)
 have hf:H1 s1.heap.objs.size=none:=I1.hok.fresh (L3 _)
 refine ⟨.ref s1.heap.objs.size,bb H1 s1.heap.objs.size (.tup xs),I1.laid (t':=s1.toks) (fun b u e=>L1 _ e) (L3 _) ?_,rfl,q _ hf⟩
 exact ⟨z,us,r,⟨_,Heap.get?_push_size _ rfl,rfl,_,rfl⟩⟩
theorem uc (h:PA X es t):PE X (.List es pos) (AJ t):=by
 intro pins s σ H Q I hq;refine wpAny_List_spliced (bc (h pos pins s σ H _ I hq) fun us s1 ⟨xs,H1,I1,r,z,q⟩=>⟨by rw [<-r.length];exact z,?_⟩)
 have hf:H1 s1.heap.objs.size=none:=I1.hok.fresh (L3 _)
 refine ⟨.ref s1.heap.objs.size,bb H1 s1.heap.objs.size (.lst xs),I1.laid (t':=s1.toks) (fun b u e=>L1 _ e) (L3 _) ?_,rfl,q _ hf⟩
 exact ⟨z,us,0,r,Heap.get?_push_size _ rfl⟩
end
abbrev Sp:=List V->Hp->VK->XK->Prop
abbrev vH:=List Env->Hp->Shared->XK->Value->Shared->Prop
structure yX (P:Program) (w:World) (K:Fg) (mg:Str->Option Value) (base:Heap) (A:Around) (outer:List Env) (s:Shared) (H:Hp):Prop where
 frames:A.frames=some outer
 mod:Mod K mg base
 bs:∀b o,base.get? b=some o->s.heap.get? b=some o/\H b=none
 bsz:base.objs.size<=s.heap.objs.size
 funs:s.heap.FunFrames base outer
 frf:∀b∈u7 outer,H b=none
 hok:HOk P w H s.heap
 bare:AllBare s.gens
def CE (outer:List Env) (P:Program) (w:World) (H:Hp) (s:Shared) (Q:VK) (u:Value) (s':Shared):Prop:=
 ∃v H',s'.os=s.os/\AllBare s'.gens/\Un (u7 outer) [] H H' s.heap s'.heap/\HOk P w H' s'.heap/\RelV v u/\Q v H'
def CR (CX:vH) (outer:List Env) (P:Program) (w:World) (H:Hp) (s:Shared) (Q:VK) (E:XK) (r:Result) (s':Shared):Prop:=
 match r with
 | .ok (.ret u)=>CE outer P w H s Q u s'
 | .ok _=>False
 | .error e=>CX outer H s E e s'
structure dw (P:Program) (w:World) (K:Fg) (mg:Str->Option Value) (base:Heap) (CX:vH) (k:Nat) (f:Addr) (fd:FuncData) (ps:List Str) (sp:Sp):Prop where
 len:∀vs H Q E,sp vs H Q E->vs.length=ps.length
 run:∀(A:Around) (outer:List Env) (s:Shared) (H:Hp) (args:Args) (us:List Value) (vs:List V) (Q:VK) (E:XK),Room k A->yX P w K mg base A outer s H->BindsTo s fd args (ps.zip us)->Vals vs us->sp vs H Q E ->
  codeAny (model P w) A (.call (.ref f) args) (CR CX outer P w H s Q E) s
section
variable {X:Cx} {pins:List (Addr×Obj)} {σ:St} {H:Hp} {s s':Shared}
theorem Inv.env0 (I:Inv X pins σ H s):yX X.prog X.w X.K X.mg X.base X.A X.stack s H:=
 ⟨I.ok.frames,I.ok.mod,I.bs,Nat.le_trans I.ok.bsz I.sz,I.stack,I.stkFree,I.hok,I.bare⟩
theorem Inv.after {Q:VK} {u:Value} (I:Inv X pins σ H s) (h:CE X.stack X.prog X.w H s Q u s'):EP X pins σ Q u s':=by
 obtain ⟨v,H',os,bare,un,hok,r,q⟩:=h;obtain ⟨hh,g,d,t,os'⟩:=s'
 obtain rfl:os'=s.os:=os
 exact ⟨v,H',I.call (h':=hh) (g':=g) (d':=d) (t':=t) (ch:=[]) un hok bare (fun b z=>absurd z (by simp)),r,q⟩
end
def sF (sp:Sp) (dvs:List V) (E:XK) (t:TA):TE:=fun σ H Q=>t σ H fun vs H1=>sp (vs++dvs) H1 Q E
def Binds (K:Fg) (fd:FuncData) (ps:List Str) (ds:List Value):Prop:=
 ∀(s:Shared) (us:List Value),K.In s.heap->(us++ds).length=ps.length->BindsTo s fd ⟨us,[]⟩ (ps.zip (us++ds))
theorem Binds.all {K:Fg} {fd:FuncData} {ps:List Str} (h:∀us:List Value,us.length=ps.length->bindArgs fd ⟨us,[]⟩=pure (ps.zip us)):Binds K fd ps []:=fun s us _ hl=>by
 rw [append_nil] at hl ⊢;exact .of_eq (h us hl)
def HJ (CX:vH) (X:Cx) (E:XK):Prop:=∀(pins:List (Addr×Obj)) (σ:St) (H:Hp) (s:Shared) (e:Value) (s':Shared),Inv X pins σ H s->CX X.stack H s E e s'->X.xe e s'
section
variable {X:Cx} {CX:vH} {k:Nat} {f C:Addr} {fd:FuncData} {ps:List Str} {sp:Sp} {dvs:List V} {ds:List Value} {E:XK} {x m:Str} {p pos apos:Pos} {e o:Expr} {es:List Expr} {ta:TE} {t:TA}
theorem AW {pins:List (Addr×Obj)} {σ:St} {H:Hp} {s:Shared} {Q:VK} {us:List Value} {vs:List V} (F:dw X.prog X.w X.K X.mg X.base CX k f fd ps sp) (hr:Room k X.A) (hb:Binds X.K fd ps ds) (hd:Vals dvs ds) (hx:HJ CX X E)
  (I:Inv X pins σ H s) (r:Vals vs us) (h:sp (vs++dvs) H Q E):wpAny (model X.prog X.w) X.A (call (.ref f) us) (EP X pins σ Q) X.xe s:=by
 have r2:Vals (vs++dvs) (us++ds):=r.append hd
 have hl:(us++ds).length=ps.length:=by rw [<-r2.length];exact F.len _ _ _ _ h
 refine wpAny_call (codeAny_mono (F.run X.A X.stack s H ⟨us,[]⟩ (us++ds) (vs++dvs) Q E hr I.env0 (hb s us I.kIn hl) r2 h) fun r s' hq=>?_)
 cases r with
 | error e=>exact hx pins σ H s e s' I hq
 | ok fl=>
  cases fl with
  | ret u=>exact I.after hq
  | next=>exact False.elim hq
  | brk=>exact False.elim hq
  | cont=>exact False.elim hq
theorem oB (F:dw X.prog X.w X.K X.mg X.base CX k f fd ps sp) (hr:Room k X.A) (hg:Gl X x) (hm:X.mg x=some (.ref f)) (hk:PySem.W.keepIn X.K (.ref f)=true) (hb:Binds X.K fd ps ds) (hd:Vals dvs ds) (hx:HJ CX X E)
  (ha:PA X (e::es) t) (hdb:(x==("__debug__":Str))=false:=by decide) (he:starEach (e::es) X.env=(false,eval e X.env)::starEach es X.env:=by rfl) (hpl:(backTo pos (starEach es X.env)).any (·.1)=false:=by rfl) :
  PE X (.Call (.Name x p) (e::es) [] pos) (sF sp dvs E t):=by
 intro pins s σ H Q I h;refine wpAny_Call_Name_kw (F8 I hg hm ?_ hdb)
 refine PySem.W.callWith_K (h₀:=X.base) I.ok.mod.kin hk (bc (ha pos pins s σ H _ I h) fun us s1 ⟨vs,H1,I1,r,q⟩=>⟨I1.kIn,?_⟩) he hpl
 exact AW F hr hb hd hx I1 r q
structure Mk (K:Fg) (C f:Addr):Prop where
 makes:PySem.W.makesIn K C=true
 init:PySem.W.findIn K (.ref C) "__init__"=some (some (.ref f))
 fn:PySem.W.isFn K (.ref f)=true
 kp:PySem.W.keepIn K (.ref C)=true
end
section
variable {X:Cx} {CX:vH} {k:Nat} {f C:Addr} {fd:FuncData} {ps ks:List Str} {sp:Sp} {E:XK} {x m:Str} {p pos apos kpos:Pos} {e o:Expr} {es:List Expr} {kws:List Keyword} {te ta:TE} {t tk:TA} {nm:Option Str}
structure KL (K:Fg) (fd:FuncData) (ps ks:List Str) (g:List Value->List Value->List Value) (gV:List V->List V->List V):Prop where
 to:∀(s:Shared) (us ws:List Value),K.In s.heap->(g us ws).length=ps.length->BindsTo s fd ⟨us,ks.zip ws⟩ (ps.zip (g us ws))
 rel:∀{vs:List V} {us:List Value} {zs:List V} {ws:List Value},Vals vs us->Vals zs ws->Vals (gV vs zs) (g us ws)
variable {g:List Value->List Value->List Value} {gV:List V->List V->List V}
end
structure cy (N P:List Str) (sc:Scope):Prop where
 kind:sc.kind=.function
 co:sc.isCoroutine=false
 gen:sc.isGenerator=false
 nd:N.Nodup
 pre:N.take P.length=P
 par:∀x∈P,sc.names.lookup x=some .local\/sc.names.lookup x=some .cell
 nofree:∀y∈sc.names,y.2≠.free
theorem iY {kindOf:Str->Option NameKind} {x:Str}:∀{binds:List (Str×Value)} {m:Str->Option Value},(∀v,(x,v)∉binds)->bindL kindOf binds m x=m x
 | [],_,_=>rfl
 | (n,v)::r,m,h=>by
  unfold bindL;rw [iY fun w hw=>h w (LW _ hw)]
  split
  ·have:x≠n:=by rintro rfl;exact h v mem_cons_self
   simp [this]
  ·rfl
theorem i2 {kindOf:Str->Option NameKind} {x:Str}:∀{binds:List (Str×Value)} {m:Str->Option Value},(∀v,(x,v)∉binds)->bindC kindOf binds m x=m x
 | [],_,_=>rfl
 | (n,v)::r,m,h=>by
  unfold bindC;rw [i2 fun w hw=>h w (LW _ hw)]
  split
  ·rfl
  ·have:x≠n:=by rintro rfl;exact h v mem_cons_self
   simp [this]
theorem iZ {kindOf:Str->Option NameKind} {x:Str} {v:Value}:∀{P:List Str} {vs:List Value} {i:Nat} {m:Str->Option Value},P.Nodup->P[i]?=some x->vs[i]?=some v->kindOf x=some .local ->
  bindL kindOf (P.zip vs) m x=some v
 | [],_,_,_,_,h,_,_=>by simp at h
 | _::_,[],_,_,_,_,h,_=>by simp at h
 | p::P,w::vs,0,m,nd,h1,h2,hk=>by
  simp at h1 h2;subst h1;subst h2;show bindL kindOf ((p,w)::P.zip vs) m p=_
  unfold bindL;rw [iY fun v hv=>(List.nodup_cons.mp nd).1 (List.of_mem_zip hv).1,if_pos hk]
  simp
 | p::P,w::vs,i+1,m,nd,h1,h2,hk=>by
  show bindL kindOf ((p,w)::P.zip vs) m x=_
  unfold bindL;exact iZ (i:=i) (List.nodup_cons.mp nd).2 (by simpa using h1) (by simpa using h2) hk
theorem i3 {kindOf:Str->Option NameKind} {x:Str} {v:Value}:∀{P:List Str} {vs:List Value} {i:Nat} {m:Str->Option Value},P.Nodup->P[i]?=some x->vs[i]?=some v->kindOf x≠some .local ->
  bindC kindOf (P.zip vs) m x=some v
 | [],_,_,_,_,h,_,_=>by simp at h
 | _::_,[],_,_,_,_,h,_=>by simp at h
 | p::P,w::vs,0,m,nd,h1,h2,hk=>by
  simp at h1 h2;subst h1;subst h2;show bindC kindOf ((p,w)::P.zip vs) m p=_
  unfold bindC;rw [i2 fun v hv=>(List.nodup_cons.mp nd).1 (List.of_mem_zip hv).1,if_neg hk]
  simp
 | p::P,w::vs,i+1,m,nd,h1,h2,hk=>by
  show bindC kindOf ((p,w)::P.zip vs) m x=_
  unfold bindC;exact i3 (i:=i) (List.nodup_cons.mp nd).2 (by simpa using h1) (by simpa using h2) hk
def start (N:List Str) (vs:List V):St:=vs.map some++List.replicate (N.length-vs.length) none
def lD (CX:vH) (P:Program) (w:World) (K:Fg) (mg:Str->Option Value) (base:Heap) (N:List Str) (qual:Str) (scope:Scope) (f:Addr) (cd:Value) (A:Around) (outer:List Env) (s:Shared) (H:Hp) (E:XK):Cx where
 prog:=P
 w:=w
 K:=K
 mg:=mg
 base:=base
 A:=A.deeper (envOfC qual scope s.heap.objs.size f cd)
 N:=N
 s₀:=s
 H₀:=H
 env:=envOfC qual scope s.heap.objs.size f cd
 outer:=outer
 stack:=envOfC qual scope s.heap.objs.size f cd::outer
 ex:=[]
 calm:=true
 fn:=fun _=>true
 pn:=[]
 xe:=fun e s'=>wpAny (model P w) (A.deeper (envOfC qual scope s.heap.objs.size f cd)) (leaving (envOfC qual scope s.heap.objs.size f cd) e) (fun _ s''=>CX outer H s E e s'') (fun e' s''=>CX outer H s E e' s'') s'
theorem lK {sc:Scope} {n:Nat} {x:Str} (h:sc.names.lookup x=some .cell):∃c,(cellsFrom n sc.names []).lookup x=some c:=by
 have q:=PySem.W.cellsFrom_some sc.names n [] (.inl h)
 exact Option.isSome_iff_exists.mp q
theorem qC {CX:vH} {P:Program} {w:World} {K:Fg} {mg:Str->Option Value} {base:Heap} {N ps:List Str} {qual:Str} {scope:Scope} {f:Addr} {cd:Value} {A:Around} {outer:List Env} {s s1:Shared} {H:Hp} {E:XK} {us:List Value} {vs:List V}
  (S:cy N ps scope) (hd:A.handled=none) (e0:yX P w K mg base A outer s H) (hl:vs.length=ps.length) (r:Vals vs us)
  (x:InCallC s s.heap.objs.size (bindL (envOfC qual scope s.heap.objs.size f cd).kindOf (ps.zip us) fun _=>none) (cellsFrom (s.heap.objs.size+1) scope.names []) (bindC (envOfC qual scope s.heap.objs.size f cd).kindOf (ps.zip us) fun _=>none) s1) :
  Inv (lD CX P w K mg base N qual scope f cd A outer s H E) [] (start N vs) H s1:=by
 have hpl:ps.length<=N.length:=by have:=congrArg List.length S.pre;rw [length_take] at this;omega
 obtain ⟨h1,tk,rfl,hk⟩:=x.done;have noA:∀b:Addr,b∉(lD CX P w K mg base N qual scope f cd A outer s H E).ex:=fun b z=>absurd (show b∈([]:List Addr) from z) (by simp)
 refine ⟨⟨e0.mod,S.kind,rfl,rfl,L3 _,fun y z c h1 h2=>?_,fun y hy=>?_,fun y c _ h=>?_,fun _=>hd,Around.frames_deeper e0.frames,.inr ⟨rfl,rfl⟩,fun b z=>absurd z (noA b),e0.bs,e0.bsz,fun b _ _=>noA b,fun b z=>absurd z (noA b),e0.funs,e0.frf⟩,
  rfl,e0.bare,Un.kept hk,⟨_,x.toInCall.ns,fun i y v h1 h2 h3=>?_⟩,fun y c h=>⟨_,x.cell y c h⟩,e0.hok.fresh (L3 _),fun y c h=>?_,fun p hp=>absurd (show p∈([]:List (Addr×Obj)) from hp) (by simp),e0.hok.kept hk,?_⟩
 ·exact name_of_addr x.apart (PySem.mem_of_lookup h1) (PySem.mem_of_lookup h2)
 ·have hy:scope.names.lookup y=some .cell\/scope.names.lookup y=some .free:=hy
  rcases hy with hy | hy
  ·exact lK hy
  ·exact absurd rfl (S.nofree _ (PySem.mem_of_lookup hy))
 ·exact Nat.le_of_lt (x.above y c (PySem.mem_of_lookup h))
 ·have hi:i<vs.length:=by
   unfold start at h2;by_cases hi:i<vs.length
   ·exact hi
   ·rw [getElem?_append_right (by simpa using hi)] at h2
    rw [getElem?_replicate] at h2;split at h2<;>cases h2
  have ha:vs[i]?=some v:=by
   unfold start at h2;rw [getElem?_append_left (by simpa using hi),getElem?_map] at h2
   cases e:vs[i]? with
   | none=>rw [e] at h2;cases h2
   | some a=>rw [e] at h2;cases h2;rfl
  obtain ⟨u,hu,rv⟩:=r.get ha;have hp:ps[i]?=some y:=by
   rw [<-S.pre,List.getElem?_take_of_lt (by omega)];exact h1
  have ndP:ps.Nodup:=by rw [<-S.pre];exact S.nd.sublist (List.take_sublist _ _)
  refine ⟨u,rv,?_⟩
  rcases S.par y (mem_of_getElem? hp) with k | k
  ·exact .inl ⟨k,iZ ndP hp hu k⟩
  ·obtain ⟨c,e⟩:=lK (n:=s.heap.objs.size+1) k
   refine .inr ⟨.inl k,c,e,?_⟩
   have q:=x.cell y c e
   rw [i3 ndP hp hu (by show scope.names.lookup y≠_;rw [k];decide)] at q
   exact q
 ·exact e0.hok.fresh (Nat.le_of_lt (x.above y c (PySem.mem_of_lookup h)))
 ·unfold start
  show _=N.length
  rw [length_append,length_map,List.length_replicate];omega
theorem Fh {CX:vH} {P:Program} {w:World} {K:Fg} {mg:Str->Option Value} {base:Heap} {k:Nat} {f:Addr} {name qual:Str} {params:Arguments} {body:List Stmt} {scope:Scope} {dV kV doc pm cdv ct oc:Value} {an od:Option Addr}
  {osl:Array (Option Value)} {N ps:List Str} {sp:Sp} (lk:K.lookup f=some ⟨oc,od,.func (PySem.W.fnOf name qual params body scope dV kV doc pm an cdv ct),osl⟩) (hcd:PySem.W.codeIn K cdv qual=true) (S:cy N ps scope)
  (len:∀vs H Q E,sp vs H Q E->vs.length=ps.length)
  (hbody:∀(A:Around) (outer:List Env) (s:Shared) (H:Hp) (vs:List V) (Q:VK) (E:XK),Room k (A.deeper (envOfC qual scope s.heap.objs.size f cdv))->sp vs H Q E ->
   ∃t,PSs (lD CX P w K mg base N qual scope f cdv A outer s H E) body t/\t { nx:=fun _ H'=>Q .non H',rt:=Q } (start N vs) H) :
  dw P w K mg base CX (k+1) f (PySem.W.fnOf name qual params body scope dV kV doc pm an cdv ct) ps sp:=by
 refine ⟨len,fun A outer s H args us vs Q E hr e0 hb r hsp=>?_⟩
 have hl:=len _ _ _ _ hsp
 have KX:K.In s.heap:=e0.mod.kin.keeps fun b o e=>(e0.bs b o e).1
 have lim:s.heap.NoLimit:=e0.mod.nolimit.keeps fun b o e=>(e0.bs b o e).1
 have hkind:∀y∈ps.zip us,scope.names.lookup y.1=some .local\/(scope.names.lookup y.1=some .cell/\((cellsFrom (s.heap.objs.size+1) scope.names []).lookup y.1).isSome=true):=fun ⟨n,v⟩ hy=>by
  rcases S.par n (List.of_mem_zip hy).1 with q | q
  ·exact .inl q
  ·exact .inr ⟨q,PySem.W.cellsFrom_some _ _ _ (.inl q)⟩
 refine codeAny_call_function hr.depth (KX _ _ lk) rfl S.co S.gen rfl (PySem.W.codeRec_of KX hcd) (hb _ _ _ _ ?_)
 refine wpAny_newFunctionEnv_cells S.kind hkind fun env he s1 x=>?_
 subst he;refine ⟨lim.keeps x.toInCall.keep,codeAny_func ?_⟩
 obtain ⟨t,ht,hq⟩:=hbody A outer s H vs Q E (hr.deeper _) hsp;have I:Inv (lD CX P w K mg base N qual scope f cdv A outer s H E) [] (start N vs) H s1:=qC S hr.hd e0 hl r x
 refine wpAny_mono (ht [] s1 (start N vs) H _ I hq) (fun fl s' hs=>?_) fun e s' hs=>hs
 have fin:∀{σ':St} {H':Hp} {v:V} {u:Value},Inv (lD CX P w K mg base N qual scope f cdv A outer s H E) [] σ' H' s'->RelV v u->Q v H'->CE outer P w H s Q u s':=
  fun {σ' H' v u} J rv q=>⟨v,H',J.os,J.bare,J.base,J.hok,rv,q⟩
 cases fl with
 | ret u=>
  obtain ⟨v,σ',H',J,rv,q⟩:=hs;exact fin J rv q
 | next=>
  obtain ⟨σ',H',J,q⟩:=hs;exact fin (v:=V.non) (u:=Value.none) J rfl q
 | brk=>
  obtain ⟨_,_,_,q⟩:=hs;exact False.elim q
 | cont=>
  obtain ⟨_,_,_,q⟩:=hs;exact False.elim q
section
variable {X:Cx} {x:Str} {p pos:Pos} {e:Expr} {es:List Expr} {t:TA} {id T:String} {r:List V->Hp->VK->Prop}
def AL (r:List V->Hp->VK->Prop) (t:TA):TE:=fun σ H Q=>t σ H fun vs H1=>r vs H1 Q
theorem II (hc:CallR X (.builtin id) r) (hg:Gl X x) (hm:X.mg x=none) (hv:bootBuiltins x=some (.builtin id)) (ha:PA X (e::es) t) (hn:x ≠ "__name__":=by decide) (hdb:(x==("__debug__":Str))=false:=by decide)
  (he:starEach (e::es) X.env=(false,eval e X.env)::starEach es X.env:=by rfl) (hpl:(backTo pos (starEach es X.env)).any (·.1)=false:=by rfl):PE X (.Call (.Name x p) (e::es) [] pos) (AL r t):=by
 intro pins s σ H Q I h;refine wpAny_Call_Name_kw (vI I hg hm hv ?_ hn hdb)
 exact PyProof.Rows.callWith_builtin1 (bc (ha pos pins s σ H _ I h) fun us s1 ⟨vs,H1,I1,r1,q1⟩=>hc pins s1 σ H1 vs us Q I1 r1 q1) he hpl
theorem Jo (hc:CallR X (.type T) r) (hg:Gl X x) (hm:X.mg x=none) (hv:bootBuiltins x=some (.type T)) (ha:PA X (e::es) t) (hn:x ≠ "__name__":=by decide) (hdb:(x==("__debug__":Str))=false:=by decide)
  (he:starEach (e::es) X.env=(false,eval e X.env)::starEach es X.env:=by rfl) (hpl:(backTo pos (starEach es X.env)).any (·.1)=false:=by rfl):PE X (.Call (.Name x p) (e::es) [] pos) (AL r t):=by
 intro pins s σ H Q I h;refine wpAny_Call_Name_kw (vI I hg hm hv ?_ hn hdb)
 exact PyProof.Rows.callWith_type1 (bc (ha pos pins s σ H _ I h) fun us s1 ⟨vs,H1,I1,r1,q1⟩=>hc pins s1 σ H1 vs us Q I1 r1 q1) he hpl
end
end L2
namespace HT
open PySem PyProof.Rows
section
open PySem.SeqAt
open PySem.AutoSeq1 (wpAny_loadPart')
open PySem.MeetsSeq PySem.MeetsSeq2 PySem.MeetsSeq3
end
section
variable {prog:Program} {w:World} {A:Around} {E:Value->Shared->Prop} {s:Shared}
def sIx (n d:Nat):Option Int->Nat
 | none=>d
 | some v=>if v<0 then (v+(n:Int)).toNat else min v.toNat n
theorem sIx_none (n d:Nat):sIx n d none=d:=rfl
theorem sIx_nat (n d k:Nat):sIx n d (some (k:Int))=min k n:=by
 show (if (k:Int)<0 then ((k:Int)+(n:Int)).toNat else min (k:Int).toNat n)=min k n
 rw [if_neg (by omega),Int.toNat_natCast]
theorem AV (n d:Nat) (hd:d<=n) (o:Option Int):sIx n d o<=n:=by
 cases o with
 | none=>exact hd
 | some v=>
  show (if v<0 then (v+(n:Int)).toNat else min v.toNat n)<=n
  by_cases hv:v<0
  ·rw [if_pos hv];omega
  ·rw [if_neg hv];exact Nat.min_le_right _ _
theorem o7 (v:Int) (n d:Nat):(if v<0 then max (v+(n:Int)) 0 else min v (n:Int))=((sIx n d (some v):Nat):Int):=by
 show (if v<0 then max (v+(n:Int)) 0 else min v (n:Int))=(((if v<0 then (v+(n:Int)).toNat else min v.toNat n):Nat):Int)
 by_cases hv:v<0
 ·simp only [if_pos hv];omega
 ·simp only [if_neg hv];omega
theorem ny (lo hi:Option Int) (n:Nat):Builtin.Slice.sliceAdjust lo hi 1 (n:Int)=(((sIx n 0 lo:Nat):Int),((sIx n n hi:Nat):Int)):=by
 have h1:¬((1:Int)<0):=by omega
 unfold Builtin.Slice.sliceAdjust;simp only [h1,if_false]
 refine Prod.ext ?_ ?_
 ·cases lo with
  | none=>rfl
  | some v=>exact o7 v n 0
 ·cases hi with
  | none=>rfl
  | some v=>exact o7 v n n
theorem mC (i j:Nat):Builtin.Slice.slicePlaces (i:Int) (j:Int) 1=j-i:=by
 unfold Builtin.Slice.slicePlaces;have h1:(1:Int)>0:=by omega
 simp only [h1,if_true,Int.ediv_one]
 split<;>omega
theorem fN {v:Value} {o:Option Int} {Q:Option Int->Shared->Prop} (p:IsPart v o) (h:Q o s):wpAny (model prog w) A (Builtin.Slice.slicePartIndex v) Q E s:=by
 cases p with
 | none=>exact slicePart_none h
 | int i t=>exact slicePart_int h
theorem dX {sl:Addr} {vl vu:Value} {lo hi:Option Int} {n:Nat} {Q:Int×Int×Nat->Shared->Prop} (hs:s.heap.IsSliceOf sl vl vu .none) (pl:IsPart vl lo) (pu:IsPart vu hi)
  (h:Q (((sIx n 0 lo:Nat):Int),1,sIx n n hi-sIx n 0 lo) s):wpAny (model prog w) A (Builtin.Slice.sliceApplied (.ref sl) (pure (n:Int))) Q E s:=by
 obtain ⟨os,hos,hcs,hds⟩:=id hs;unfold Builtin.Slice.sliceApplied Builtin.Slice.sliceFields;refine LZ (LZ (wpAny_field hos hds (x:=vl) rfl (LZ (wpAny_field hos hds (x:=vu) rfl (LZ (wpAny_field hos hds (x:=.none) rfl (L0 ?_)))))))
 refine LZ (slicePart_none ?_)
 show wpAny _ _ (if ((1:Int)==0)=true then _ else _) _ _ s
 rw [if_neg (by decide)]
 refine LZ (fN pl (LZ (fN pu (LZ (L0 ?_)))))
 show wpAny _ _ (match Builtin.Slice.sliceAdjust lo hi 1 (n:Int) with | (lo,hi)=>pure (lo,(1:Int),Builtin.Slice.slicePlaces lo hi 1)) _ _ s
 rw [ny lo hi n];show wpAny _ _ (pure (((sIx n 0 lo:Nat):Int),(1:Int),Builtin.Slice.slicePlaces ((sIx n 0 lo:Nat):Int) ((sIx n n hi:Nat):Int) 1)) _ _ s
 rw [mC];exact L0 h
theorem t9 (xs:Array Value) (i k:Nat):((List.range k).filterMap fun (m:Nat)=>xs[((i:Int)+(m:Int)*1).toNat]?).toArray=((xs.toList.drop i).take k).toArray:=by
 have e:(fun (m:Nat)=>xs[((i:Int)+(m:Int)*1).toNat]?)=fun m=>xs[i+m]?:=by
  funext m
  have:((i:Int)+(m:Int)*1).toNat=i+m:=by omega
  rw [this]
 rw [e];have:=pick_run xs i k
 rw [List.filterMap_map] at this;have e2:((fun x=>xs[x]?)∘fun x=>i+x)=fun m=>xs[i+m]?:=rfl
 rw [e2] at this;rw [this]
theorem getItem_tuple_cut {t sl:Addr} {items:Array Value} {vl vu:Value} {lo hi:Option Int} {Q:Value->Shared->Prop} (ht:IsTup s.heap t items) (hs:s.heap.IsSliceOf sl vl vu .none) (pl:IsPart vl lo) (pu:IsPart vu hi)
  (hw:¬(sIx items.size 0 lo=0/\sIx items.size items.size hi=items.size))
  (h:Q (.ref s.heap.objs.size) { s with heap:=s.heap.push { cls:=.type "tuple",data:=.seq ((items.toList.drop (sIx items.size 0 lo)).take (sIx items.size items.size hi-sIx items.size 0 lo)).toArray } })
  (hsz:items.size<=sizeLine):wpAny (model prog w) A (getItem (.ref t) (.ref sl)) Q E s:=by
 have htake:sizeOk (.seq ((items.toList.drop (sIx items.size 0 lo)).take (sIx items.size items.size hi-sIx items.size 0 lo)).toArray):=by
  show ((items.toList.drop (sIx items.size 0 lo)).take (sIx items.size items.size hi-sIx items.size 0 lo)).toArray.size<=sizeLine
  rw [size_toArray,length_take,length_drop,Array.length_toList];omega
 have hj:sIx items.size items.size hi<=items.size:=AV _ _ (L3 _) hi
 obtain ⟨os,hos,hcs,hds⟩:=id hs;have hTs:s.TypeIs (.ref sl) "slice":=⟨os,hos,hcs⟩
 unfold getItem;try with_reducible refine wpAny_holding ?_
 first | refine LZ (L0 ?_) | skip
 refine LZ (wpAny_sequenceKey ht.typeIs (by decide) ?_)
 refine LZ (wpAny_callSpecial?_slot (name:=Str.ofString "__getitem__") ht.typeIs PyProof.Rows.slot_tuple_getitem
  (wpAny_call_entry PyProof.Rows.slot_tuple_getitem ht.typeIs entry_tuple_getitem ?_ (args_tuple_getitem _ _)))
 show wpAny _ _ (Builtin.Tuple.tupleItemsOf (.ref t) >>= _) _ _ s
 refine LZ (tupleItemsOf_ ht ?_)
 refine LZ (wpAny_typeOf hTs ?_)
 rw [if_pos (by decide)]
 refine LZ (dX hs pl pu ?_)
 have hno:¬((((sIx items.size 0 lo:Nat):Int)==0&&(1:Int)==1&&(sIx items.size items.size hi-sIx items.size 0 lo)==items.size)=true):=by
  intro q;rw [Bool.and_eq_true,Bool.and_eq_true] at q;have q1:((sIx items.size 0 lo:Nat):Int)=0:=eq_of_beq q.1.1
  have q2:sIx items.size items.size hi-sIx items.size 0 lo=items.size:=eq_of_beq q.2
  exact hw ⟨by omega,by omega⟩
 show wpAny _ _ (if (((sIx items.size 0 lo:Nat):Int)==0&&(1:Int)==1&&(sIx items.size items.size hi-sIx items.size 0 lo)==items.size)=true then _ else _) _ _ s
 rw [if_neg hno,t9];first
  | exact LZ (m:=Builtin.Tuple.tupleExact _) (wpAny_newObj_type (L0 ⟨_,rfl,L0 h⟩) htake)
  | exact LZ (m:=Builtin.Tuple.tupleExact _) (wpAny_newObj_type (LZ (L0 (L0 ⟨_,rfl,L0 h⟩))) htake)
  | exact LZ (LZ (m:=Builtin.Tuple.tupleExact _) (wpAny_newObj_type (L0 (L0 ⟨_,rfl,L0 h⟩)) htake))
  | exact LZ (LZ (m:=Builtin.Tuple.tupleExact _) (wpAny_newObj_type (L0 ⟨_,rfl,L0 h⟩) htake))
end
end HT
namespace L2
open PySem PySem.Spec PyProof.Rows
abbrev TO:=St->Hp->(Option Int->Hp->Prop)->Prop
def PO (X:Cx) (e:Option Expr) (t:TO):Prop:=
 ∀(pins:List (Addr×Obj)) (s:Shared) (σ:St) (H:Hp) (Q:Option Int->Hp->Prop),Inv X pins σ H s->t σ H Q ->
  wpAny (model X.prog X.w) X.A (evalPart e X.env) (fun u s'=>∃o H',Inv X pins σ H' s'/\IsPart u o/\Q o H') X.xe s
def nT:TO:=fun _ H Q=>Q none H
def zq (t:TE):TO:=fun σ H Q=>t σ H fun x H1=>∃i,x=.int i/\Q (some i) H1
section
variable {X:Cx} {e:Expr} {te:TE} {lo hi:Option Expr} {tl th:TO} {pos p2:Pos}
theorem Ii:PO X none nT:=by
 intro pins s σ H Q I h;rw [evalPart_none];exact L0 ⟨none,H,I,.none,h⟩
theorem DT (h:PE X e te):PO X (some e) (zq te):=by
 intro pins s σ H Q I hw;rw [evalPart_some];refine bc (h pins s σ H _ I hw) fun u s1 ⟨x,H1,I1,r1,q1⟩=>?_
 obtain ⟨i,rfl,q⟩:=q1;obtain ⟨t,rfl⟩:=r1;exact ⟨some i,H1,I1,.int i t,q⟩
def KF (X:Cx) (r:V->Option Int->Option Int->Hp->VK->Prop):Prop:=
 ∀(pins:List (Addr×Obj)) (s:Shared) (σ:St) (H:Hp) (x:V) (v vl vu:Value) (lo hi:Option Int) (sl:Addr) (Q:VK),Inv X pins σ H s->RelV x v->s.heap.IsSliceOf sl vl vu .none->IsPart vl lo->IsPart vu hi->r x lo hi H Q ->
  ∃T id,typeLookup (.type T) "__getitem__"=pure (some (.builtin id))/\s.TypeIs v T/\wpAny (model X.prog X.w) X.A (getItem v (.ref sl)) (EP X pins σ Q) X.xe s
def KZ (r:V->Option Int->Option Int->Hp->VK->Prop) (te:TE) (tl th:TO):TE:=fun σ H Q=>te σ H fun x H1=>tl σ H1 fun l H2=>th σ H2 fun u H3=>r x l u H3 Q
theorem Gp {r:V->Option Int->Option Int->Hp->VK->Prop} (hr:KF X r) (he:PE X e te) (hl:PO X lo tl) (hu:PO X hi th):PE X (.Subscript e (.Slice lo hi none p2) pos) (KZ r te tl th):=by
 intro pins s σ H Q I h;refine Subscript_ (bc (he pins s σ H _ I h) fun v s1 ⟨x,H1,I1,r1,q1⟩=>?_)
 refine wpAny_Slice (bc (hl pins s1 σ H1 _ I1 q1) fun vl s2 ⟨l,H2,I2,pl,q2⟩=>bc (hu pins s2 σ H2 _ I2 q2) fun vu s3 ⟨u,H3,I3,pu,q3⟩=>?_)
 rw [evalPart_none];refine L0 ?_
 have I4:Inv X pins σ H3 { s3 with heap:=s3.heap.push { cls:=.type "slice",data:=.fields #[vl,vu,.none] } }:=I3.kept (t':=s3.toks) fun b ob q=>L1 _ q
 obtain ⟨T,id,hT,ht,hg⟩:=hr pins { s3 with heap:=s3.heap.push { cls:=.type "slice",data:=.fields #[vl,vu,.none] } } σ H3 x v vl vu l u s3.heap.objs.size Q I4 r1 (Heap.IsSliceOf.new ..) pl pu q3
 show wpAny (model X.prog X.w) X.A (subscriptTail e (.Slice lo hi none p2) v (.ref s3.heap.objs.size)) (EP X pins σ Q) X.xe { s3 with heap:=s3.heap.push { cls:=.type "slice",data:=.fields #[vl,vu,.none] } }
 exact tail_any (ops:=[.ref s3.heap.objs.size,v]) ht hT hg (by with_unfolding_all rfl)
def ib (xs:List V) (lo hi:Option Int):List V:=(xs.drop (HT.sIx xs.length 0 lo)).take (HT.sIx xs.length xs.length hi-HT.sIx xs.length 0 lo)
theorem eX (xs:List V) (lo hi:Option Int):(ib xs lo hi).length<=xs.length:=by
 unfold ib;rw [length_take,length_drop];omega
def Bv (K:Fg):V->Option Int->Option Int->Hp->VK->Prop:=fun x lo hi H Q=>∃a xs,x=.ref a/\SqT K H a xs /\
 ¬(HT.sIx xs.length 0 lo=0/\HT.sIx xs.length xs.length hi=xs.length)/\∀p,H p=none->Q (.ref p) (bb H p (.tup (ib xs lo hi)))
theorem AM:KF X (Bv X.K):=by
 intro pins s σ H x v vl vu lo hi sl Q I rx hs pl pu h;obtain ⟨a,xs,rfl,hx,hw,q⟩:=h
 cases rx;obtain ⟨its,r,ht,hz⟩:=I.tuple hx;have hlen:its.toArray.size=xs.length:=by rw [size_toArray];exact r.length.symm
 refine ⟨"tuple",_,PyProof.Rows.slot_tuple_getitem.lookup,ht.typeIs,?_⟩
 refine HT.getItem_tuple_cut ht hs pl pu (by rw [hlen];exact hw) ?_ (by rw [hlen];exact hz)
 rw [hlen];refine ⟨.ref s.heap.objs.size,_,I.laid (t':=s.toks) (o:=.tup (ib xs lo hi)) (fun b ob q=>L1 _ q) (L3 _) ?_,rfl,q _ (I.hok.fresh (L3 _))⟩
 exact ⟨Nat.le_trans (eX xs lo hi) hz,_,(r.drop (HT.sIx xs.length 0 lo)).take (HT.sIx xs.length xs.length hi-HT.sIx xs.length 0 lo),IsTup.new _ _⟩
end
def cx (n:Nat) (i:Int):Option Nat:=if 0<=i then (if i<n then some i.toNat else none) else if -(n:Int)<=i then some (i+n).toNat else none
def cn {α:Type} (xs:List α) (i:Int):Option α:=(cx xs.length i).bind fun j=>xs[j]?
theorem oQ {n:Nat} {i:Int} {j:Nat} (h:cx n i=some j):seqIndex? i n=some j/\j<n/\-(n:Int)<=i/\i<n:=by
 unfold cx at h;by_cases h0:0<=i
 ·rw [if_pos h0] at h
  by_cases h1:i<n
  ·rw [if_pos h1] at h
   have e:i.toNat=j:=Option.some.inj h
   exact ⟨by rw [seqIndex_of h0 h1,e],by omega,by omega,h1⟩
  ·rw [if_neg h1] at h;cases h
 ·rw [if_neg h0] at h
  by_cases h1:-(n:Int)<=i
  ·rw [if_pos h1] at h
   have e:(i+n).toNat=j:=Option.some.inj h
   exact ⟨by rw [seqIndex_neg (by omega) h1,e],by omega,h1,by omega⟩
  ·rw [if_neg h1] at h;cases h
theorem HR {α:Type} {xs:List α} {i:Int} {v:α} (h:cn xs i=some v):∃j,seqIndex? i xs.length=some j/\xs[j]?=some v/\j<xs.length/\-(xs.length:Int)<=i/\i<xs.length:=by
 unfold cn at h
 cases e:cx xs.length i with
 | none=>rw [e] at h;cases h
 | some j=>
  rw [e] at h;obtain ⟨h1,h2,h3,h4⟩:=oQ e;exact ⟨j,h1,h,h2,h3,h4⟩
def Df (b:Expr):Prop:=∀o i,subscripted b false o i=operate [o,i] (getItem o i)
def IxR (X:Cx) (r:R2):Prop:=
 ∀(value slice:Expr) (pins:List (Addr×Obj)) (s:Shared) (σ:St) (H:Hp) (x y:V) (v u:Value) (Q:VK),Inv X pins σ H s->RelV x v->RelV y u->r x y H Q ->
  subscripted slice false v u=operate [v,u] (getItem v u)->wpAny (model X.prog X.w) X.A (subscriptTail value slice v u) (EP X pins σ Q) X.xe s
def KH (X:Cx) (id:String) (r:V->List V->Hp->VK->Prop):Prop:=
 ∀(pins:List (Addr×Obj)) (s:Shared) (σ:St) (H:Hp) (x:V) (xs:List V) (v:Value) (us:List Value) (Q:VK),Inv X pins σ H s->RelV x v->Vals xs us->r x xs H Q ->
  wpAny (model X.prog X.w) X.A (call (.builtin id) (v::us)) (EP X pins σ Q) X.xe s
section
variable {X:Cx} {a b:Expr} {ta tb:TE} {pos:Pos}
theorem IxR.or {r r':R2} (h:IxR X r) (h':IxR X r'):IxR X (fun x y H Q=>r x y H Q\/r' x y H Q):=by
 intro value slice pins s σ H x y v u Q I rx ry q hs;rcases q with q | q
 ·exact h value slice pins s σ H x y v u Q I rx ry q hs
 ·exact h' value slice pins s σ H x y v u Q I rx ry q hs
theorem zD {r:R2} (hr:IxR X r) (ha:PE X a ta) (hb:PE X b tb) (hs:Df b):PE X (.Subscript a b pos) (wK r ta tb):=by
 intro pins s σ H Q I h;exact Subscript_ (CW ha hb I h fun v u s2 x y H2 I2 rx ry q=>hr a b pins s2 σ H2 x y v u Q I2 rx ry q (hs _ _))
def EK (K:Fg):R2:=fun x y H Q=>∃p xs i v,x=.ref p/\y=.int i/\SqL K H p xs/\cn xs i=some v/\Q v H
def EI (K:Fg):R2:=fun x y H Q=>∃p xs i v,x=.ref p/\y=.int i/\SqT K H p xs/\cn xs i=some v/\Q v H
def EJ:R2:=fun x y H Q=>∃z i c,x=.str z/\y=.int i/\z.length<=sizeLine/\cn z.cps.toList i=some c/\Q (.str ⟨#[c]⟩) H
theorem ix_list:IxR X (EK X.K):=by
 intro value slice pins s σ H x y v u Q I rx ry h hs;obtain ⟨p,xs,i,z,rfl,rfl,hq,he,q⟩:=h
 cases rx;obtain ⟨t,rfl⟩:=ry;obtain ⟨its,r,pl,hz⟩:=I.list hq;obtain ⟨j,h1,h2,h3,h4,h5⟩:=HR he;obtain ⟨w,ew,rw'⟩:=r.get h2;have hl:=r.length
 have hn:=Aa
 have fin:EP X pins σ Q w s:=⟨z,H,I,rw',q⟩
 by_cases h0:0<=i
 ·have hj:i.toNat=j:=by
   rw [seqIndex_of h0 h5] at h1;exact Option.some.inj h1
  exact item_listR pl.isList h0 (by omega) (by rw [hj];simpa using ew) fin hs
 ·have hj:(i+(its.toArray.size:Int)).toNat=j:=by
   rw [seqIndex_neg (by omega) h4] at h1
   rw [size_toArray,<-hl];exact Option.some.inj h1
  exact subscriptTail_builtinR (x:=w) pl.isList.typeIs slot_list_getitem.lookup
   (wpAny_getItem_list_neg (Q:=fun r s'=>r=w/\EP X pins σ Q r s') pl.isList (by omega) (by rw [size_toArray]<;>omega) (by omega) (by rw [hj];simpa using ew) ⟨rfl,fin⟩) hs
theorem ix_tup:IxR X (EI X.K):=by
 intro value slice pins s σ H x y v u Q I rx ry h hs;obtain ⟨p,xs,i,z,rfl,rfl,hq,he,q⟩:=h
 cases rx;obtain ⟨t,rfl⟩:=ry;obtain ⟨its,r,pl,hz⟩:=I.tuple hq;obtain ⟨j,h1,h2,h3,h4,h5⟩:=HR he;obtain ⟨w,ew,rw'⟩:=r.get h2;have hl:=r.length
 have hn:=Aa
 have fin:EP X pins σ Q w s:=⟨z,H,I,rw',q⟩
 exact subscriptTail_builtinR (x:=w) pl.typeIs slot_tuple_getitem.lookup
  (getItem_tuple (j:=j) (Q:=fun r s'=>r=w/\EP X pins σ Q r s') pl (by omega) (by omega) (by rw [size_toArray,<-hl];exact h1) (by simpa using ew) ⟨rfl,fin⟩) hs
theorem Cn:IxR X EJ:=by
 intro value slice pins s σ H x y v u Q I rx ry h hs;obtain ⟨z,i,c,rfl,rfl,hz,he,q⟩:=h;obtain ⟨t,rfl⟩:=rx;obtain ⟨t',rfl⟩:=ry;obtain ⟨j,h1,h2,h3,h4,h5⟩:=HR he;have hl:z.cps.toList.length=z.length:=by simp [Str.length]
 rw [hl] at h1 h4 h5
 have hn:=Aa
 exact tail_any (typeIs_str s z t) slot_str_getitem.lookup (getItem_str (c:=c) (by
  have e1:decide (i < -(2 ^ 63:Int))=false:=decide_eq_false (by omega)
  have e2:decide (i≥2 ^ 63)=false:=decide_eq_false (by omega)
  rw [e1,e2,Bool.or_false]) (by rw [h1];simpa using h2) ⟨.str ⟨#[c]⟩,H,I.tok _,⟨_,rfl⟩,q⟩) hs
def Kh (K:Fg):R2:=fun x y H Q=>EK K x y H Q\/EI K x y H Q\/EJ x y H Q
theorem uL:IxR X (Kh X.K):=ix_list.or (ix_tup.or Cn)
theorem mO (its:List Value) (n j:Nat) (u:Value):Obj.mapSeq (·.setIfInBounds j u) { cls:=.type "list",data:=.seq its.toArray n }={ cls:=.type "list",data:=.seq (its.set j u).toArray n }:=by
 simp [Obj.mapSeq]
theorem Inv.lst {pins:List (Addr×Obj)} {σ:St} {H:Hp} {s:Shared} {p:Addr} {xs:List V} (I:Inv X pins σ H s) (h:H p=some (.lst xs)) :
  ∃(its:List Value) (n:Nat),Vals xs its/\s.heap.get? p=some { cls:=.type "list",data:=.seq its.toArray n }/\xs.length<=sizeLine:=by
 obtain ⟨z,its,n,r,e⟩:=I.hok p _ h;exact ⟨its,n,r,e,z⟩
theorem Inv.lstUpd {pins:List (Addr×Obj)} {σ:St} {H:Hp} {s:Shared} {p:Addr} {xs ys:List V} {its its':List Value} {n n':Nat} {f:Obj->Obj} (I:Inv X pins σ H s) (h:H p=some (.lst xs))
  (ho:s.heap.get? p=some { cls:=.type "list",data:=.seq its.toArray n }) (hf:f { cls:=.type "list",data:=.seq its.toArray n }={ cls:=.type "list",data:=.seq its'.toArray n' }) (r:Vals ys its') (hz:ys.length<=sizeLine) (t:Nat) :
  Inv X pins σ (bb H p (.lst ys)) { s with heap:=s.heap.update p f,toks:=t }:=by
 have e:(s.heap.update p f).get? p=some { cls:=.type "list",data:=.seq its'.toArray n' }:=by
  rw [Heap.get?_update_self f ho (by rw [hf]<;>rfl),hf]
 refine I.write (x:=p) (e:=p) (by rw [h];trivial) (.inl rfl) (fun b u hb q=>(Heap.get?_update_other _ _ (Ne.symm hb)).trans q) ⟨_,e⟩ ?_
 exact ⟨hz,its',n',r,e⟩
def tM:V->V->V->Hp->(Hp->Prop)->Prop:=fun o i v H Q=>∃p xs k j,o=.ref p/\i=.int k/\H p=some (.lst xs)/\cx xs.length k=some j/\Q (bb H p (.lst (xs.set j v)))
theorem sO:FF X tM:=by
 intro pins s σ H o i v ov iv u Q I ro ri rv h;obtain ⟨p,xs,k,j,rfl,rfl,hp,hj,q⟩:=h
 cases ro;obtain ⟨t,rfl⟩:=ri;obtain ⟨its,n,r,ho,hz⟩:=I.lst hp;obtain ⟨h1,h2,h3,h4⟩:=oQ hj;have hl:=r.length
 have hn:=Aa
 have I':Inv X pins σ (bb H p (.lst (xs.set j v))) { s with heap:=s.heap.update p (Obj.mapSeq (·.setIfInBounds j u)) }:=
  I.lstUpd hp ho (mO its n j u) (r.set rv j) (by rw [length_set];exact hz) s.toks
 by_cases h0:0<=k
 ·have hk:k.toNat=j:=by
   rw [seqIndex_of h0 h4] at h1;exact Option.some.inj h1
  exact PySem.W.ki_setAt ho h0 (by omega) (by rw [size_toArray,<-hl];exact h4) (by rw [hk];exact ⟨_,I',q⟩)
 ·have hk:(k+(its.toArray.size:Int)).toNat=j:=by
   rw [seqIndex_neg (by omega) h3] at h1
   rw [size_toArray,<-hl];exact Option.some.inj h1
  exact PySem.W.ki_setBack ho (by omega) (by rw [size_toArray,<-hl];exact h3) (by omega) (by rw [hk];exact ⟨_,I',q⟩)
theorem i8 (lo hi:Option Int) (n:Nat):(sliceBounds lo hi none n).1=((HT.sIx n 0 lo:Nat):Int)/\(sliceBounds lo hi none n).2.1=((HT.sIx n n hi:Nat):Int)/\(sliceBounds lo hi none n).2.2=1:=by
 refine ⟨?_,?_,rfl⟩
 ·cases lo with
  | none=>simp [sliceBounds,HT.sIx]
  | some i=>
   simp only [sliceBounds,HT.sIx,Option.getD_none,show (1:Int)>0 by decide,if_true]
   by_cases h:i<0
   ·simp only [h,if_true]<;>omega
   ·simp only [h,if_false]<;>omega
 ·cases hi with
  | none=>simp [sliceBounds,HT.sIx]
  | some i=>
   simp only [sliceBounds,HT.sIx,Option.getD_none,show (1:Int)>0 by decide,if_true]
   by_cases h:i<0
   ·simp only [h,if_true]<;>omega
   ·simp only [h,if_false]<;>omega
theorem gJ (its:List Value) (lo hi:Option Int):slicePick its.toArray lo hi none=((its.drop (HT.sIx its.length 0 lo)).take (HT.sIx its.length its.length hi-HT.sIx its.length 0 lo)).toArray:=by
 obtain ⟨h1,h2,h3⟩:=i8 lo hi its.toArray.size;unfold slicePick;rw [h1,h2,h3];simp only [sliceRange_one,pick_run,size_toArray]<;>rfl
def Bw (K:Fg):V->Option Int->Option Int->Hp->VK->Prop:=fun x lo hi H Q=>∃a xs,x=.ref a/\SqL K H a xs/\∀p,H p=none->Q (.ref p) (bb H p (.lst (ib xs lo hi)))
theorem IQ:KF X (Bw X.K):=by
 intro pins s σ H x v vl vu lo hi sl Q I rx hs pl pu h;obtain ⟨a,xs,rfl,hx,q⟩:=h
 cases rx;obtain ⟨its,r,ht,hz⟩:=I.list hx;have hlen:=r.length
 refine ⟨"list",_,slot_list_getitem.lookup,ht.isList.typeIs,?_⟩
 refine wpAny_getItem_list_slice ht.isList hs pl pu .none (by simp) ?_ (by rw [size_toArray]<;>omega)
 rw [gJ,<-hlen];refine ⟨.ref s.heap.objs.size,_,I.laid (t':=s.toks) (o:=.lst (ib xs lo hi)) (fun b ob q=>L1 _ q) (L3 _) ?_,rfl,q _ (I.hok.fresh (L3 _))⟩
 exact ⟨Nat.le_trans (eX xs lo hi) hz,_,0,(r.drop (HT.sIx xs.length 0 lo)).take (HT.sIx xs.length xs.length hi-HT.sIx xs.length 0 lo),Heap.get?_push_size _ rfl⟩
theorem call_len_seq:CallR X (.builtin "len") (fun xs H Q=>∃p ys,xs=[.ref p]/\(SqL X.K H p ys\/SqT X.K H p ys)/\Q (.int ys.length) H):=by
 intro pins s σ H xs us Q I r h;obtain ⟨p,ys,rfl,hq,q⟩:=h;obtain ⟨u,rfl,rx⟩:=vals1 r
 cases rx;have hn:=Aa
 rcases hq with hq | hq
 ·obtain ⟨its,r',pl,hz⟩:=I.list hq
  have hlen:=r'.length
  exact Calls.call_len_list pl.isList (by simp only [size_toArray]<;>omega) ⟨.int ys.length,H,I.tok _,⟨s.toks+1,by rw [size_toArray,hlen]⟩,q⟩
 ·obtain ⟨its,r',pl,hz⟩:=I.tuple hq
  have hlen:=r'.length
  exact len_tuple pl (by simp only [size_toArray]<;>omega) ⟨.int ys.length,H,I.tok _,⟨s.toks+1,by rw [size_toArray,hlen]⟩,q⟩
theorem jA:CallR X (.builtin "len") (fun xs H Q=>∃z,xs=[.str z]/\z.length<=sizeLine/\Q (.int z.length) H):=by
 intro pins s σ H xs us Q I r h;obtain ⟨z,rfl,hz,q⟩:=h;obtain ⟨u,rfl,t,rfl⟩:=vals1 r;have hn:=Aa
 exact len_str (by omega) ⟨.int z.length,H,I.tok _,⟨_,rfl⟩,q⟩
theorem CallR.or {f:Value} {r r':List V->Hp->VK->Prop} (h:CallR X f r) (h':CallR X f r'):CallR X f (fun xs H Q=>r xs H Q\/r' xs H Q):=by
 intro pins s σ H xs us Q I rs q;rcases q with q | q
 ·exact h pins s σ H xs us Q I rs q
 ·exact h' pins s σ H xs us Q I rs q
theorem jz:CallR X (.type "list") (fun xs H Q=>∃p ys,xs=[.ref p]/\(SqL X.K H p ys\/SqT X.K H p ys)/\∀l,H l=none->Q (.ref l) (bb H l (.lst ys))):=by
 intro pins s σ H xs us Q I r h;obtain ⟨p,ys,rfl,hq,q⟩:=h;obtain ⟨u,rfl,rx⟩:=vals1 r
 cases rx;have fin:∀(its:List Value),Vals ys its->ys.length<=sizeLine->∀(h':Heap) (c':Nat),(∀b o',s.heap.get? b=some o'->h'.get? b=some o') ->
   h'.get? s.heap.objs.size=some { cls:=.type "list",dict:=none,data:=.seq its.toArray c',slots:=#[] }->EP X pins σ Q (.ref s.heap.objs.size) { s with heap:=h' }:=fun its r' hz h' c' kp e=>
  ⟨.ref s.heap.objs.size,_,I.laid (t':=s.toks) kp (L3 _) (show ObjOk X.prog X.w _ h' _ (.lst ys) from ⟨hz,its,c',r',e⟩),rfl,q _ (I.hok.fresh (L3 _))⟩
 rcases hq with hq | hq
 ·obtain ⟨its,r',pl,hz⟩:=I.list hq
  have hlen:=r'.length
  obtain ⟨o,ho,hc,n,hd⟩:=pl.isList;exact call_list_seq p (.inl rfl) ho hc hd (fun h' c' kp e=>fin its r' hz h' c' kp e) (by simp only [size_toArray]<;>omega)
 ·obtain ⟨its,r',pl,hz⟩:=I.tuple hq
  have hlen:=r'.length
  obtain ⟨o,ho,hc,n,hd⟩:=pl;exact call_list_seq p (.inr rfl) ho hc hd (fun h' c' kp e=>fin its r' hz h' c' kp e) (by simp only [size_toArray]<;>omega)
theorem ic:CallR X (.type "tuple") (fun xs H Q=>∃p ys,xs=[.ref p]/\((SqL X.K H p ys/\∀l,H l=none->Q (.ref l) (bb H l (.tup ys)))\/(SqT X.K H p ys/\Q (.ref p) H))):=by
 intro pins s σ H xs us Q I r h;obtain ⟨p,ys,rfl,h⟩:=h;obtain ⟨u,rfl,rx⟩:=vals1 r
 cases rx;rcases h with ⟨hq,q⟩ | ⟨hq,q⟩
 ·obtain ⟨its,r',pl,hz⟩:=I.list hq
  have hlen:=r'.length
  refine call_tuple_list pl.isList (fun h' kp=>?_) (by simp only [size_toArray]<;>omega)
  have I1:Inv X pins σ H { s with heap:=h' }:=I.kept (t':=s.toks) kp
  have I2:Inv X pins σ (bb H h'.objs.size (.tup ys)) { s with heap:=h'.push { cls:=.type "tuple",data:=.seq its.toArray } }:=
   I1.laid (t':=s.toks) (fun b o e=>L1 _ e) (L3 _) (show ObjOk X.prog X.w _ _ _ (.tup ys) from ⟨hz,its,r',IsTup.new _ _⟩)
  exact ⟨.ref h'.objs.size,_,I2,rfl,q _ (I1.hok.fresh (L3 _))⟩
 ·obtain ⟨its,r',pl,hz⟩:=I.tuple hq
  exact call_tuple_same pl ⟨.ref p,H,I,rfl,q⟩
def JM (K:Fg) (T:String) (x:V) (H:Hp):Prop:=match x with
 | .str _=>T = "str"
 | .int _=>T = "int"
 | .ref p=>(T = "list"/\∃xs,SqL K H p xs)\/(T = "tuple"/\∃o,K.lookup p=some o/\o.cls=.type "tuple"/\o.dict=none) \/
   (T = "dict"/\((∃kvs,H p=some (.dK kvs))\/∃kvs,H p=some (.dT kvs)))\/(T = "set"/\∃S n,H p=some (.set S n))
 | _=>False
theorem sj {pins:List (Addr×Obj)} {σ:St} {H:Hp} {s:Shared} {T:String} {x:V} {v:Value} (I:Inv X pins σ H s) (r:RelV x v) (ty:JM X.K T x H) :
  s.TypeIs v T/\∀a,v=.ref a->∃ob,s.heap.get? a=some ob/\ob.dict=none:=by
 cases x with
 | str z=>
  obtain ⟨t,rfl⟩:=r
  cases (show T = "str" from ty)
  exact ⟨typeIs_str s z t,fun _ e=>nomatch e⟩
 | int i=>
  obtain ⟨t,rfl⟩:=r
  cases (show T = "int" from ty)
  exact ⟨typeIs_int s i t,fun _ e=>nomatch e⟩
 | ref p=>
  cases r;rcases ty with ⟨rfl,xs,hq⟩ | ⟨rfl,o,hk,hc,hd⟩ | ⟨rfl,hk⟩ | ⟨rfl,S,n,hk⟩
  ·obtain ⟨its,_,pl,_⟩:=I.list hq
   refine ⟨pl.isList.typeIs,fun a e=>?_⟩
   cases e;obtain ⟨o,n,e,c,hd,_⟩:=pl;exact ⟨o,e,hd⟩
  ·refine ⟨⟨o,I.kIn p o hk,hc⟩,fun a e=>?_⟩
   cases e;exact ⟨o,I.kIn _ o hk,hd⟩
  ·have z:∃o,s.heap.get? p=some o/\o.ExactDict:=by
    rcases hk with ⟨kvs,hk⟩ | ⟨kvs,hk⟩
    ·obtain ⟨_,_,_,_,o,_,_,e,ex,_⟩:=I.hok p _ hk
     exact ⟨o,e,ex⟩
    ·obtain ⟨_,_,_,_,o,_,_,e,ex,_⟩:=I.hok p _ hk
     exact ⟨o,e,ex⟩
   obtain ⟨o,e,ex⟩:=z;refine ⟨⟨o,e,ex.1⟩,fun a e2=>?_⟩
   cases e2;exact ⟨o,e,ex.2.1⟩
  ·obtain ⟨o,_,_,_,e,ex,_⟩:=I.hok p _ hk
   refine ⟨⟨o,e,ex.1⟩,fun a e2=>?_⟩
   cases e2;exact ⟨o,e,ex.2.1⟩
 | _=>exact False.elim ty
def Eo (K:Fg) (T:String) (r:V->List V->Hp->VK->Prop) (to:TE):TE:=fun σ H Q=>to σ H fun x H1=>JM K T x H1/\r x [] H1 Q
def Er (K:Fg) (T:String) (r:V->List V->Hp->VK->Prop) (to:TE) (t:TA):TE:=fun σ H Q=>to σ H fun x H1=>JM K T x H1/\t σ H1 fun xs H2=>r x xs H2 Q
variable {o e:Expr} {es:List Expr} {to:TE} {t:TA} {name:Str} {apos cpos:Pos} {T id:String} {r:V->List V->Hp->VK->Prop}
theorem BS (pa:PlainAttrs T) (slot:Slot T name id) (hty:typeOf (.builtin id)=pure (.type "method_descriptor")) (hm:KH X id r) (ho:PE X o to)
  (hbase:attributeBase o name X.env (eval o X.env)=eval o X.env:=by rfl) (hline:(apos.endLine==cpos.line)=true:=by rfl):PE X (.Call (.Attribute o name apos) [] [] cpos) (Eo X.K T r to):=by
 intro pins s σ H Q I h;refine wpAny_Call_method0_late hbase hline (bc (ho pins s σ H _ I h) fun v s1 ⟨x,H1,I1,r1,ty,q1⟩=>?_)
 obtain ⟨h1,h2⟩:=sj I1 r1 ty;exact ⟨T,id,pa,slot,hty,h1,h2,Calls.callWith_builtin rfl (PySem.evalArgs_none (hm pins s1 σ H1 x [] v [] Q I1 r1 .nil q1))⟩
theorem oC (pa:PlainAttrs T) (slot:Slot T name id) (hty:typeOf (.builtin id)=pure (.type "method_descriptor")) (hm:KH X id r) (ho:PE X o to) (ha:PA X (e::es) t)
  (hbase:attributeBase o name X.env (eval o X.env)=eval o X.env:=by rfl)
  (hfew:((backTo cpos (starEach (e::es) X.env)).all (fun x=>!x.1)&&(backToKw cpos (keywordEach [] X.env)).all (fun x=>x.1.isSome)
   && decide ((e::es).length+([]:List Keyword).length+(if ([]:List Keyword).isEmpty then 0 else 1)<30))=true:=by rfl)
  (hline:(apos.endLine==cpos.line)=true:=by rfl) (hs:starEach (e::es) X.env=(false,eval e X.env)::starEach es X.env:=by rfl) (hplain:(backTo cpos (starEach es X.env)).any (·.1)=false:=by rfl) :
  PE X (.Call (.Attribute o name apos) (e::es) [] cpos) (Er X.K T r to t):=by
 intro pins s σ H Q I h;refine wpAny_Call_method_late hbase hfew hline rfl (bc (ho pins s σ H _ I h) fun v s1 ⟨x,H1,I1,r1,ty,q1⟩=>?_)
 obtain ⟨h1,h2⟩:=sj I1 r1 ty;refine ⟨T,id,pa,slot,hty,h1,h2,?_⟩
 have hA:=ha cpos pins s1 σ H1 _ I1 q1
 rw [hs] at hA ⊢;refine Calls.callWith_builtin (by show (false||(backTo cpos (starEach es X.env)).any (·.1))=false;rw [hplain]<;>rfl) (Calls.evalArgs_plain ?_)
 exact bc hA fun us s2 ⟨vs,H2,I2,r2,q2⟩=>hm pins s2 σ H2 x vs v us Q I2 r1 r2 q2
end
def KI (X:Cx) (id:String) (r:V->List V->Hp->VK->Prop):Prop:=
 ∀(pins:List (Addr×Obj)) (s:Shared) (σ:St) (H:Hp) (x:V) (xs:List V) (v:Value) (us:List Value) (Q:VK),Inv X pins σ H s->RelV x v->Vals xs us->r x xs H Q ->
  wpAny (model X.prog X.w) X.A (call (.builtin id) (v::us)) (EP X pins σ Q) X.xe s
theorem Vals.one:∀{x:V} {us:List Value},Vals [x] us->∃u,us=[u]/\RelV x u
 | _,_,.cons r .nil=>⟨_,rfl,r⟩
theorem Vals.zero:∀{us:List Value},Vals [] us->us=[]
 | _,.nil=>rfl
theorem Vals.dropLast {xs:List V} {us:List Value} (h:Vals xs us):Vals xs.dropLast us.dropLast:=by
 induction h with
 | nil=>exact .nil
 | cons r t ih=>
  cases t with
  | nil=>exact .nil
  | cons q t'=>exact .cons r ih
theorem mW {α:Type} (l:List α):l.eraseIdx (l.length-1)=l.dropLast:=by
 induction l with
 | nil=>rfl
 | cons a r ih=>
  cases r with
  | nil=>rfl
  | cons b r=>
   have e:(a::b::r).length-1=((b::r).length-1)+1:=by
    have h1:(a::b::r).length=r.length+2:=rfl
    have h2:(b::r).length=r.length+1:=rfl
    omega
   rw [e,List.eraseIdx_cons_succ,ih];all_goals rfl
section
variable {X:Cx} {pins:List (Addr×Obj)} {σ:St} {H:Hp} {s:Shared} {l b:Addr} {xs ys zs:List V}
theorem Inv.lset {its its':List Value} {n:Nat} {f:Array Value->Array Value} {t':Nat} (I:Inv X pins σ H s) (hH:H l=some (.lst xs))
  (e:s.heap.get? l=some { cls:=.type "list",data:=.seq its.toArray n }) (hf:f its.toArray=its'.toArray) (hv:Vals ys its') (hz:ys.length<=sizeLine) :
  Inv X pins σ (bb H l (.lst ys)) { s with heap:=s.heap.update l (Obj.mapSeq f),toks:=t' }:=by
 have q:=PySem.IsL.update e f
 rw [hf] at q;refine I.write (x:=l) (e:=l) (by rw [hH];exact trivial) (.inl rfl) (fun b' u hb hu=>(Heap.get?_update_other s.heap (Obj.mapSeq f) (Ne.symm hb)).trans hu) ⟨_,q⟩ ?_
 exact ⟨hz,its',_,hv,q⟩
theorem Inv.lnew {its:List Value} {t':Nat} (I:Inv X pins σ H s) (hv:Vals ys its) (hz:ys.length<=sizeLine) :
  Inv X pins σ (bb H s.heap.objs.size (.lst ys)) { s with heap:=s.heap.push { cls:=.type "list",data:=.seq its.toArray },toks:=t' }:=
 I.laid (fun _ _ q=>L1 _ q) (L3 _) ⟨hz,its,0,hv,Heap.get?_push_size _ rfl⟩
theorem Inv.fresh (I:Inv X pins σ H s):H s.heap.objs.size=none:=I.hok.fresh (L3 _)
theorem Inv.lstM (I:Inv X pins σ H s) (hH:H l=some (.lst xs)):xs.length<=sizeLine/\∃(its:List Value) (n:Nat),Vals xs its/\xs.length=its.length/\s.heap.get? l=some { cls:=.type "list",data:=.seq its.toArray n }:=by
 obtain ⟨z,its,n,r,e⟩:=I.hok l _ hH;exact ⟨z,its,n,r,r.length,e⟩
theorem ux {n:Nat} (h:n<=sizeLine):Builtin.List.listTooLong n=false:=by
 unfold Builtin.List.listTooLong;exact decide_eq_false (by omega)
end
section
variable {X:Cx}
def Ij:V->List V->Hp->VK->Prop:=fun x vs H Q=>∃l xs y,x=.ref l/\vs=[y]/\H l=some (.lst xs)/\xs.length<sizeLine/\Q .non (bb H l (.lst (xs++[y])))
theorem Jm:KI X "list.append" Ij:=by
 intro pins s σ H x vs v us Q I rx rv h;obtain ⟨l,xs,y,rfl,rfl,hH,hz,q⟩:=h
 cases rx;obtain ⟨u,rfl,ru⟩:=rv.one;obtain ⟨z,its,n,r,hl,e⟩:=I.lstM hH;refine call_meets F.slot_list_append ⟨_,e,rfl⟩ F.entry_list_append (F.args_list_append_2 _ _) (PySem.list_append l its.toArray n u (by rw [size_toArray];omega)) ⟨e,?_⟩
 refine ⟨.non,_,I.lset (its':=its++[u]) hH e (by simp) (r.append (.cons ru .nil)) ?_,rfl,q⟩
 rw [length_append,length_singleton];omega
def EG:V->List V->Hp->VK->Prop:=fun x vs H Q=>∃l xs y,x=.ref l/\vs=[]/\H l=some (.lst xs)/\xs[xs.length-1]?=some y/\Q y (bb H l (.lst xs.dropLast))
theorem B9:KI X "list.pop" EG:=by
 intro pins s σ H x vs v us Q I rx rv h;obtain ⟨l,xs,y,rfl,rfl,hH,hy,q⟩:=h
 cases rx;have hus:=rv.zero
 subst hus;obtain ⟨z,its,n,r,hl,e⟩:=I.lstM hH;obtain ⟨u,hu,ru⟩:=r.get hy;have hy':its.toArray[its.toArray.size-1]?=some u:=by
  show its.toArray[its.length-1]?=some u
  rw [<-Array.getElem?_toList,<-hl];exact hu
 refine call_meets F.slot_list_pop ⟨_,e,rfl⟩ F.entry_list_pop (F.args_list_pop_1 _) (MeetsSeq.list_pop_last l its.toArray n u hy' (by rw [size_toArray];omega)) ⟨e,?_⟩
 refine ⟨y,_,I.lset (its':=its.dropLast) hH e ?_ r.dropLast ?_,ru,q⟩
 ·show its.toArray.eraseIdxIfInBounds (its.toArray.size-1)=its.dropLast.toArray
  rw [size_toArray,List.eraseIdxIfInBounds_toArray,mW]
 ·rw [length_dropLast]
  omega
end
section
variable {prog:Program} {w:World} {A:Around} {E:Value->Shared->Prop} {s:Shared}
set_option maxRecDepth 100000 in
end
end L2
namespace Att
open PySem PySem.W PySem.Calls PyProof.Rows
theorem fw {P:Params} {h:Heap}:∀(ns:List Int) (vs:List Value),WellAll P h vs (ns.map WData.int)->IntsAre vs ns:=by
 intro ns;induction ns with
 | nil=>
  intro vs w;rw [map_nil] at w
  cases w;exact .nil
 | cons n ns ih=>
  intro vs w;rw [map_cons] at w
  cases w with
  | cons a b=>
   cases a;exact .cons _ _ (ih _ b)
theorem pQ {l:OpenLaw} {n:Nat} (hn:l.most=some n) {P:Params} {h:Heap} {args:List WData} {vals:List Value}
  (hpre:l.row.toRowW.claim.pre args=true) (hwl:WellAll P h vals args) :
  ∃a vs ns,vals=[Value.ref a]/\args=[WData.list (ns.map WData.int)]/\h.get? a=some { cls:=.type "list",data:=.seq vs.toArray }/\IntsAre vs ns/\ns.length<=n:=by
 have hsh:WShape.hasAll [] args [.list .int]=true:=(pre_splitW hpre).1
 have hc:l.pre.holds [] { args:=args }=true:=(pre_splitW hpre).2
 obtain ⟨d,r,rfl,h1,h2⟩:=hasAllW_cons hsh;obtain rfl:=hasAllW_nil h2
 obtain ⟨xs,rfl,h3⟩:=hasW_list h1;obtain ⟨ns,rfl⟩:=items_int h3;have hlen:ns.length<=n:=by
  unfold OpenLaw.pre at hc;have h4:(WTm.not (.lt (.lit (.int (n:Int))) (.len (.arg 0)))).holds [] { args:=[.list (ns.map .int)] }=true:=by
   have h4:=(holds_andW hc).1
   rw [hn] at h4;exact h4
  have h5:=condW_of h4 (w_not (w_lt w_lit (w_len_list (w_arg rfl))))
  rw [length_map] at h5;refine Nat.le_of_not_lt fun q=>?_
  have q':(n:Int)<((ns.length:Nat):Int):=by omega
  first
   | (rw [decide_eq_true q'] at h5;exact absurd h5 (by decide))
   | (simp at h5;omega)
 cases hwl with
 | cons w1 w2=>
  cases w2
  cases w1 with
  | list ho hall=>exact ⟨_,_,ns,rfl,rfl,ho,fw ns _ hall,hlen⟩
theorem qc (l:OpenLaw) (args:List WData):l.row.toRowW.claim.post args (.bool true) args=true:=
 postW_of (r:=l.row.toRowW) (X:=(true==true))
  (show WShape.has [] (.bool true) .bool=true by first | rfl | decide | simp [WShape.has,WShape.arms,WShape.armsAll])
  (show (WTm.eq .res (.lit (.bool true))).value [] { args:=args,res:=some (.bool true),after:=args }=some (.bool (true==true)) from w_eq_bool (w_res rfl) w_lit) rfl
theorem attach_call {l:OpenLaw} {n:Nat} {q:Program} {loose:List Str} {XP:(Str->Option Value)->Heap->Prop} {YP:World->Heap->Prop} {d:DefRec}
  (hn:l.most=some n) (hdf:d.params.defaults=[])
  (call:∀(w:World) (s₀ s₁:Shared) (mg mb:Str->Option Value) (fa:Addr) (o:Obj) (pm cd doc:Value) (a:Addr) (vs:List Value) (ns:List Int),
   Ground q loose [] XP w s₀ mg mb s₁.heap->YP w s₁.heap ->
   s₁.heap.get? fa=some o->o.data=.func (docDef d.name d.params d.body d.scope pm cd doc)->s₁.heap.CodeRec cd d.name->mg d.name=some (.ref fa) ->
   s₁.heap.get? a=some { cls:=.type "list",data:=.seq vs.toArray }->IntsAre vs ns->ns.length<=n->s₁.gens=#[] ->
   codeAny (model l.prog w) callerA (.call (.ref fa) ⟨[.ref a],[]⟩) (fun r s'=>r=.ok (.ret (.bool true))/\OldK s₁.heap s'.heap/\s'.os=s₁.os/\AllBare s'.gens) s₁) :
  WalkO q loose XP YP l.row.toRowW d [] (fun f vs=>PySem.call f vs):=by
 intro w s₀ s₁ mg mb G Y fa o pm cd doc dV kV ho hd hcd hD hmg hg args vals as hpre hlay hrd hwl hlo;obtain rfl:dV=.none:=Dflts.none hD hdf
 obtain rfl:kV=.none:=Dflts.noKw hD
 obtain ⟨a,vs,ns,rfl,rfl,hobj,hints,hlen⟩:=pQ hn hpre hwl;refine enter_call (codeAny_mono (call w s₀ s₁ mg mb fa o pm cd doc a vs ns G Y ho (fd_plain hd) hcd hmg hobj hints hlen hg) fun r s' hq=>?_)
 obtain ⟨rfl,h2,h3,h4⟩:=hq;exact ⟨.inl ⟨.bool true,.bool true,[],rfl,fun _=>rfl,.bool true,qc l _,fun _=>⟨List.Pairwise.nil,fun _ hm=>(nomatch hm)⟩⟩,h2,h3,h4⟩
end Att
namespace L2
open PySem PySem.Spec PyProof.Rows
theorem iq:∀{vs:List Value} {ns:List Int},IntsAre vs ns->Vals (ns.map V.int) vs
 | _,_,.nil=>.nil
 | _,_,.cons n t h=>.cons ⟨t,rfl⟩ (iq h)
def C3 (H:Hp):Prop:=∀b,H b=none\/∃o xs,H b=some (.frz o (.lst xs))
theorem uK {P:Program} {w:World} {K:Fg} {mg mb:Str->Option Value} {CX:vH} {k:Nat} {fa a:Addr} {fd:FuncData} {x:Str} {sp:Sp} {s₁:Shared} {vs:List Value} {ns:List Int}
  (KX:K.In s₁.heap) (hns:s₁.heap.Ns mainGlobals mg) (hb:s₁.heap.Ns builtinsNs mb) (hbb:∀x:Str,x ≠ "__name__"->mb x=bootBuiltins x) (hlim:s₁.heap.NoLimit) (hg:s₁.gens=#[])
  (ha:s₁.heap.get? a=some { cls:=.type "list",data:=.seq vs.toArray }) (hi:IntsAre vs ns) (hl:ns.length<=sizeLine) (hr:Room k callerA)
  (F:∀base:Heap,K.In base->base.Ns mainGlobals mg->dw P w K mg base CX k fa fd [x] sp) (hbind:∀(s:Shared) (u:Value),BindsTo s fd ⟨[u],[]⟩ [(x,u)])
  (hsp:∀H:Hp,C3 H->SqL K H a (ns.map V.int)->sp [.ref a] H (fun v _=>v=.bl true) fun _ _ _=>False)
  (hCX:∀H e s',CX [] H s₁ (fun _ _ _=>False) e s'->False) :
  codeAny (model P w) callerA (.call (.ref fa) ⟨[.ref a],[]⟩) (fun r s'=>r=.ok (.ret (.bool true))/\OldK s₁.heap s'.heap/\s'.os=s₁.os/\AllBare s'.gens) s₁:=by
 have rv:=iq hi
 have lenV:=hi.length
 have core:∀H:Hp,C3 H->SqL K H a (ns.map V.int)->HOk P w H s₁.heap->(∀b,H b≠none->b=a)->(H a≠none->K.lookup a=none) ->
   codeAny (model P w) callerA (.call (.ref fa) ⟨[.ref a],[]⟩) (fun r s'=>r=.ok (.ret (.bool true))/\OldK s₁.heap s'.heap/\s'.os=s₁.os/\AllBare s'.gens) s₁:=by
  intro H hO hS hok hA hK;have base_of:∀{b:Addr} {o:Obj},s₁.heap.get? b=some o->H b=none->(jn s₁.heap H).get? b=some o:=fun e n=>uV e n
  have noA:∀{b:Addr} {o:Obj} {es:Array DictEntry} {ep:Nat},s₁.heap.get? b=some o->o.data=.dict es ep->H b=none:=fun {b o es ep} e d=>by
   cases q:H b with
   | none=>rfl
   | some u=>
    have e':b=a:=hA b (by rw [q];simp)
    subst e'
    rw [ha] at e;cases e;have d':Data.seq vs.toArray _=Data.dict es ep:=d
    cases d'
  have nsK:∀{b:Addr} {m:Str->Option Value},s₁.heap.Ns b m->(jn s₁.heap H).Ns b m:=fun {b m} ⟨o,es,ep,e,d,r⟩=>⟨o,es,ep,base_of e (noA e d),d,r⟩
  have hKb:K.In (jn s₁.heap H):=fun b o e=>base_of (KX b o e) (by
   cases q:H b with
   | none=>rfl
   | some u=>
    have e':b=a:=hA b (by rw [q];simp)
    subst e'
    rw [hK (by rw [q];simp)] at e;cases e)
  have hM:Mod K mg (jn s₁.heap H):=⟨hKb,nsK hns,⟨mb,nsK hb,hbb⟩,let ⟨mc,h1,h2⟩:=hlim;⟨mc,nsK h1,h2⟩⟩
  have e0:yX P w K mg (jn s₁.heap H) callerA [] s₁ H:=⟨rfl,hM,fun b o e=>xR e,Nat.le_of_eq (qD _ _),trivial,fun b hb=>absurd (show b∈([]:List Addr) from hb) (by simp),hok,.of_eq hg⟩
  refine codeAny_mono ((F _ hKb (nsK hns)).run callerA [] s₁ H ⟨[.ref a],[]⟩ [.ref a] [.ref a] _ _ hr e0 (hbind s₁ (.ref a)) (.cons rfl .nil) (hsp H hO hS)) fun r s' h=>?_
  cases r with
  | error e=>exact (hCX H e s' h).elim
  | ok fl=>
   cases fl with
   | next=>exact False.elim h
   | brk=>exact False.elim h
   | cont=>exact False.elim h
   | ret u=>
    obtain ⟨v,H',os,bare,un,hok',r',q⟩:=h;have q':v=.bl true:=q
    subst q'
    obtain rfl:u=Value.bool true:=r'
    refine ⟨rfl,OldK.of_keep fun b o e=>?_,os,bare⟩
    cases q:H b with
    | none=>exact un.keep b o e q (by intro z;exact absurd (show b∈([]:List Addr) from z) (by simp)) (by simp)
    | some u=>
     rcases hO b with z | ⟨ob,xs,z⟩
     ·rw [q] at z;cases z
     ·have z2:=un.frzs b ob _ z
      obtain ⟨e1,_⟩:=hok b _ z;obtain ⟨e2,_⟩:=hok' b _ z2
      rw [e] at e1;cases e1;exact e2
 cases hk:K.lookup a with
 | some o=>
  have e:=KX a o hk
  rw [ha] at e
  cases e;refine core (fun _=>none) (fun _=>.inl rfl) (.inr ⟨_,vs.toArray,_,hk,rfl,rfl,rfl,by rw [size_toArray,lenV];exact hl,by simpa using rv⟩) (fun b u z=>by have z':(none:Option HO)=some u:=z;cases z') (fun b z=>absurd rfl z) fun z=>absurd rfl z
 | none=>
  refine core (fun b=>if b=a then some (.frz { cls:=.type "list",data:=.seq vs.toArray } (.lst (ns.map V.int))) else none) (fun b=>?_) (.inl (.inr ⟨{ cls:=.type "list",data:=.seq vs.toArray },if_pos rfl⟩)) (fun b u z=>?_) (fun b z=>?_) fun _=>hk
  ·by_cases hb:b=a
   ·exact .inr ⟨_,_,if_pos hb⟩
   ·exact .inl (if_neg hb)
  ·by_cases hb:b=a
   ·have z':=(if_pos hb).symm.trans z
    cases z'
    subst hb;exact ⟨ha,by rw [length_map];exact hl,vs,_,rv,ha⟩
   ·have z':=(if_neg hb).symm.trans z
    cases z'
  ·by_cases hb:b=a
   ·exact hb
   ·exact absurd (if_neg hb) z
theorem walk_of {l:PySem.W.OpenLaw} {n k:Nat} {q:Program} {loose:List Str} {XP:(Str->Option Value)->Heap->Prop} {YP:World->Heap->Prop} {d:DefRec} {K:Params->Fg} {CX:World->vH} {sp:World->Sp} {x:Str}
  (hn:l.most=some n) (hn2:n<=sizeLine) (hdf:d.params.defaults=[]) (hr:Room k callerA)
  (hY:∀(w:World) (h:Heap),YP w h->(K w.params).In h)
  (F:∀(w:World) (mg:Str->Option Value) (fa:Addr) (h:Heap),(K w.params).In h->h.Ns mainGlobals mg->mg d.name=some (.ref fa) ->
   ∃fd:FuncData,(∀(s:Shared) (u:Value),BindsTo s fd ⟨[u],[]⟩ [(x,u)]) /\
    ∀base:Heap,(K w.params).In base->base.Ns mainGlobals mg->dw l.prog w (K w.params) mg base (CX w) k fa fd [x] (sp w))
  (hsp:∀(w:World) (H:Hp) (a:Addr) (ns:List Int),ns.length<=n->C3 H->SqL (K w.params) H a (ns.map V.int)->sp w [.ref a] H (fun v _=>v=.bl true) fun _ _ _=>False)
  (hCX:∀(w:World) (H:Hp) (s:Shared) (e:Value) (s':Shared),CX w [] H s (fun _ _ _=>False) e s'->False) :
  PySem.W.WalkO q loose XP YP l.row.toRowW d [] (fun f vs=>PySem.call f vs):=by
 refine Att.attach_call hn hdf fun w s₀ s₁ mg mb fa o pm cd doc a vs ns G Y ho hd hcd hmg hobj hints hlen hg=>?_
 have KX:=hY w _ Y
 obtain ⟨fd,hb,hF⟩:=F w mg fa _ KX G.T.g hmg;exact uK KX G.T.g G.T.b G.T.builtins G.T.nolimit hg hobj hints (Nat.le_trans hlen hn2) hr hF hb (fun H hO hS=>hsp w H a ns hlen hO hS) fun H e s'=>hCX w H s₁ e s'
def Dg (s:Stmt):Arguments:=match s with
 | .FunctionDef _ a _ _ _ _ _ _ _ _=>a
 | _=>{ posonlyargs:=[],args:=[],vararg:=none,kwonlyargs:=[],kw_defaults:=[],kwarg:=none,defaults:=[] }
def rK (s:Stmt):List Stmt:=match s with
 | .FunctionDef _ _ b _ _ _ _ _ _ _=>b
 | _=>[]
def fH (s:Stmt):Scope:=match s with
 | .FunctionDef _ _ _ _ _ _ sc _ _ _=>sc
 | _=>{ kind:=.function,names:=[],isGenerator:=false,isCoroutine:=false }
abbrev nB:vH:=fun _ _ _ _ _ _=>False
abbrev E0:XK:=fun _ _ _=>False
theorem zE {X:Cx}:HJ nB X E0:=fun _ _ _ _ _ _ _ h=>h.elim
structure Fun (K:Fg) (x qual:Str) (st:Stmt) (f:Addr) (fd:FuncData):Prop where
 ex:∃(oc:Value) (od:Option Addr) (kV doc pm:Value) (an:Option Addr) (cdv ct:Value) (osl:Array (Option Value)),
  fd=PySem.W.fnOf x qual (Dg st) (rK st) (fH st) .none kV doc pm an cdv ct/\K.lookup f=some ⟨oc,od,.func fd,osl⟩/\PySem.W.codeIn K cdv qual=true
 kp:PySem.W.keepIn K (.ref f)=true
section
variable {P:Program} {w:World} {K:Fg} {mg:Str->Option Value} {base:Heap}
theorem Fun.ok {x qual:Str} {st:Stmt} {f:Addr} {fd:FuncData} {N ps:List Str} {k:Nat} {sp:Sp} (F:Fun K x qual st f fd) (S:cy N ps (fH st)) (len:∀vs H Q E,sp vs H Q E->vs.length=ps.length)
  (hbody:∀(cdv:Value) (A:Around) (outer:List Env) (s:Shared) (H:Hp) (vs:List V) (Q:VK) (E:XK),Room k (A.deeper (envOfC qual (fH st) s.heap.objs.size f cdv))->sp vs H Q E ->
   ∃t,PSs (lD nB P w K mg base N qual (fH st) f cdv A outer s H E).nox (rK st) t/\t { nx:=fun _ H'=>Q .non H',rt:=Q } (start N vs) H):dw P w K mg base nB (k+1) f fd ps sp:=by
 obtain ⟨oc,od,kV,doc,pm,an,cdv,ct,osl,rfl,lk,hcd⟩:=F.ex;refine Fh lk hcd S len fun A outer s H vs Q E hr hsp=>?_
 obtain ⟨t,h,q⟩:=hbody cdv A outer s H vs Q E hr hsp;exact ⟨t,h.nox,q⟩
theorem Fun.binds {x qual:Str} {st:Stmt} {f:Addr} {fd:FuncData} {ps:List Str} (F:Fun K x qual st f fd)
  (h:∀(kV doc pm:Value) (an:Option Addr) (cdv ct:Value) (us:List Value),us.length=ps.length->bindArgs (PySem.W.fnOf x qual (Dg st) (rK st) (fH st) .none kV doc pm an cdv ct) ⟨us,[]⟩=pure (ps.zip us)):Binds K fd ps []:=by
 obtain ⟨oc,od,kV,doc,pm,an,cdv,ct,osl,rfl,lk,hcd⟩:=F.ex;exact .all (h kV doc pm an cdv ct)
theorem CH {x qual:Str} {st:Stmt} {f:Addr} {oc:Value} {od an:Option Addr} {osl:Array (Option Value)} {kV doc pm cdv ct:Value} (l:K.lookup f=some ⟨oc,od,.func (PySem.W.fnOf x qual (Dg st) (rK st) (fH st) .none kV doc pm an cdv ct),osl⟩)
  (c:PySem.W.codeIn K cdv qual=true) (k:PySem.W.keepIn K (.ref f)=true):Fun K x qual st f (PySem.W.fnOf x qual (Dg st) (rK st) (fH st) .none kV doc pm an cdv ct):=⟨⟨oc,od,kV,doc,pm,an,cdv,ct,osl,rfl,l,c⟩,k⟩
end
theorem pO {n:Nat} (h:n<=1000):n<sizeLine:=Nat.lt_of_le_of_lt h (by decide)
theorem jm {A B:Prop} (h:B):if false=true then A else B:=by
 rw [if_neg Bool.false_ne_true];exact h
theorem jl {A B:Prop} (h:A):if true=true then A else B:=by
 rw [if_pos rfl];exact h
def Same (H H':Hp):Prop:=∀b o,H b=some o->H' b=some o
theorem Same.refl (H:Hp):Same H H:=fun _ _ h=>h
theorem Same.trans {H H1 H2:Hp} (a:Same H H1) (b:Same H1 H2):Same H H2:=fun c o h=>b c o (a c o h)
theorem Same.free {H H':Hp} (e:Same H H') {l:Addr} (h:H' l=Option.none):H l=Option.none:=by
 cases q:H l with
 | none=>rfl
 | some o=>
  rw [e l o q] at h
  cases h
theorem Same.seq {K:Fg} {H H':Hp} {a:Addr} {xs:List V} (e:Same H H') (h:SqL K H a xs):SqL K H' a xs:=by
 rcases h with (h | ⟨o,h⟩) | h
 ·exact .inl (.inl (e _ _ h))
 ·exact .inl (.inr ⟨o,e _ _ h⟩)
 ·exact .inr h
section
variable {prog:Program} {w:World} {A:Around} {R:Result->Shared->Prop} {s:Shared}
abbrev yW:Value->Shared->Prop:=fun _ _=>False
theorem jy {elt target iter:Expr} {ifs:List Expr} {scope:Scope} {pos:Pos} {it acc:Value} {env:Env} (I:Nat->Shared->Prop)
  (turn:∀n s,I n s->wpAny (model prog w) A (pyNext it) (fun r s₁=>match r with
   | none=>R (.ok .next) s₁
   | some v=>wpAny (model prog w) A (letOwnedTupleGo target it v) (fun _ s₁'=>wpAny (model prog w) A (assign target env v) (fun _ s₂=>
     wpAny (model prog w) A (forIn ifs true fun c r=>if r=true then do let ok <-isTrue c env (eval c env);pure (ForInStep.yield ok) else pure (ForInStep.yield r)) (fun ok s₃=>
      if ok=true then wpAny (model prog w) A (eval elt env) (fun x s₄=>
       wpAny (model prog w) A (call (.builtin "list.append") [acc,x]) (fun _ s₅=>∃m,m<n/\I m s₅) yW s₄) yW s₃
      else ∃m,m<n/\I m s₃) yW s₂) yW s₁') yW s₁) yW s)
  (n:Nat) (h:I n s) :
  codeAny (model prog w) A (.compLoop (.ListComp elt [⟨target,iter,ifs,0⟩] scope pos) 0 it acc env) R s:=by
 refine codeAny_loop rfl I (fun n s hI=>?_) n h
 show wpAny _ A ((compTurn (.ListComp elt [⟨target,iter,ifs,0⟩] scope pos) 0 it acc env).onRaise (fun x=>do noteFrame x env;theTreesLotGoes x)) _ _ s
 refine wpAny_noted ?_
 rw [compTurn_list];have F:∀{Z:Value->Shared->Prop},∀(e:Value) (s:Shared),yW e s->Z e s:=fun _ _ x=>x.elim
 refine LZ (wpAny_standAt (LZ (wpAny_mono (turn n s hI) (fun r s₁ h₁=>?_) F)))
 cases r with
 | none=>exact L0 h₁
 | some v=>
  refine LZ (wpAny_mono h₁ (fun _ s₁' h₁'=>?_) F)
  refine LZ (wpAny_mono h₁' (fun _ s₂ h₂=>LZ (wpAny_mono h₂ (fun ok s₃ h₃=>?_) F)) F)
  cases ok with
  | false=>exact L0 ⟨rfl,h₃⟩
  | true=>
   exact LZ (LZ (wpAny_mono h₃ (fun x s₄ h₄=>LZ (wpAny_mono h₄ (fun _ s₅ h₅=>L0 (L0 ⟨rfl,h₅⟩)) F)) F))
end
def bL (env:Env):List (Str×NameKind)->List (Str×Addr)->List (Str×Addr)
 | [],acc=>acc
 | (n,k)::r,acc=>if k==.free then bL env r ((n,(env.cells.lookup n).getD 0)::acc) else bL env r acc
theorem IU {env:Env}:∀(names:List (Str×NameKind)) (acc:List (Str×Addr)),(∀n,(n,NameKind.free)∈names->∃c,env.cells.lookup n=some c) ->
  (forIn names acc fun (x:Str×NameKind) (cs:List (Str×Addr))=>(match x with | (name,kind)=>if kind==.free then (do let a <-cellOf env name;pure (ForInStep.yield ((name,a)::cs))) else pure (ForInStep.yield cs):Sem (ForInStep (List (Str×Addr)))))=(pure (bL env names acc):Sem (List (Str×Addr)))
 | [],acc,_=>by rw [List.forIn_nil];rfl
 | (n,k)::r,acc,h=>by
  rw [List.forIn_cons];unfold bL;by_cases hk:(k==.free)=true
  ·simp only [hk,if_true]
   have hk':k=.free:=by simpa using hk
   obtain ⟨c,hc⟩:=h n (by rw [hk'];exact mem_cons_self)
   have e:cellOf env n=pure c:=by unfold cellOf;rw [hc]
   rw [e,hc];exact IU r ((n,c)::acc) fun n' hn=>h n' (LW _ hn)
  ·rw [if_neg hk]
   simp only [hk]
   exact IU r acc fun n' hn=>h n' (LW _ hn)
theorem dO {env:Env} {scope:Scope} (h:∀n,(n,NameKind.free)∈scope.names->∃c,env.cells.lookup n=some c):closureFor scope env=pure (bL env scope.names []):=by
 have:=IU (env:=env) scope.names [] h
 unfold closureFor;rw [show (pure (bL env scope.names []):Sem (List (Str×Addr)))=(pure (bL env scope.names []) >>= fun x=>pure x) from rfl,<-this]
theorem Ji {env:Env} {x:Str} {c:Addr}:∀{names:List (Str×NameKind)} {acc:List (Str×Addr)},(∀n,(n,NameKind.free)∈names->∃c,env.cells.lookup n=some c)->(bL env names acc).lookup x=some c->env.cells.lookup x=some c\/acc.lookup x=some c
 | [],_,_,e=>.inr e
 | (n,k)::r,acc,h,e=>by
  unfold bL at e;have h':∀n',(n',NameKind.free)∈r->∃c,env.cells.lookup n'=some c:=fun n' hn=>h n' (LW _ hn)
  by_cases hk:(k==.free)=true
  ·rw [if_pos hk] at e
   rcases Ji h' e with q | q
   ·exact .inl q
   ·rw [lookup_cons] at q
    have hk':k=.free:=by simpa using hk
    obtain ⟨c',hc⟩:=h n (by rw [hk'];exact mem_cons_self)
    cases hx:x==n with
    | true=>
     rw [hx,hc] at q
     cases q;rw [eq_of_beq hx];exact .inl hc
    | false=>
     rw [hx] at q;exact .inr q
  ·rw [if_neg hk] at e
   exact Ji h' e
theorem Dp {env:Env} {x:Str}:∀{names:List (Str×NameKind)} {acc:List (Str×Addr)},(x,NameKind.free)∈names\/(acc.lookup x).isSome=true->((bL env names acc).lookup x).isSome=true
 | [],_,h=>h.elim nofun id
 | (n,k)::r,acc,h=>by
  unfold bL;by_cases hk:(k==.free)=true
  ·rw [if_pos hk]
   refine Dp (names:=r) ?_
   rcases h with h | h
   ·rcases LQ h with e | h
    ·cases e
     exact .inr (by rw [lookup_cons];simp)
    ·exact .inl h
   ·right
    rw [lookup_cons]
    cases hx:x==n with
    | true=>rfl
    | false=>exact h
  ·rw [if_neg hk]
   refine Dp (names:=r) ?_
   rcases h with h | h
   ·rcases LQ h with e | h
    ·cases e
     exact absurd rfl hk
    ·exact .inl h
   ·exact .inr h
theorem Ec {x:Str} {c:Addr}:∀{names:List (Str×NameKind)} {n:Nat} {acc:List (Str×Addr)},(cellsFrom n names acc).lookup x=some c->((x,NameKind.cell)∈names/\n<=c)\/acc.lookup x=some c
 | [],_,_,e=>.inr e
 | (y,k)::r,n,acc,e=>by
  unfold cellsFrom at e;by_cases hk:(k==.cell)=true
  ·rw [if_pos hk] at e
   have hk':k=.cell:=by simpa using hk
   rcases Ec e with ⟨q,l⟩ | q
   ·exact .inl ⟨LW _ q,by omega⟩
   ·rw [lookup_cons] at q
    cases hx:x==y with
    | true=>
     rw [hx] at q
     cases q;exact .inl ⟨by rw [eq_of_beq hx,hk'];exact mem_cons_self,L3 _⟩
    | false=>
     rw [hx] at q;exact .inr q
  ·rw [if_neg hk] at e
   rcases Ec e with ⟨q,l⟩ | q
   ·exact .inl ⟨LW _ q,l⟩
   ·exact .inr q
theorem JA {x y:Str} {c:Addr}:∀{names:List (Str×NameKind)} {n:Nat} {acc:List (Str×Addr)},(∀z d,acc.lookup z=some d->d<n)->(∀x y d,acc.lookup x=some d->acc.lookup y=some d->x=y) ->
  (cellsFrom n names acc).lookup x=some c->(cellsFrom n names acc).lookup y=some c->x=y
 | [],_,_,_,hi,e,e'=>hi _ _ _ e e'
 | (z,k)::r,n,acc,hl,hi,e,e'=>by
  unfold cellsFrom at e e'
  by_cases hk:(k==.cell)=true
  ·rw [if_pos hk] at e e'
   refine JA (names:=r) (n:=n+1) (acc:=(z,n)::acc) (fun a d q=>?_) (fun a b d q q'=>?_) e e'
   ·rw [lookup_cons] at q
    cases hx:a==z with
    | true=>rw [hx] at q;cases q;exact Nat.lt_succ_self _
    | false=>rw [hx] at q;exact Nat.lt_succ_of_lt (hl a d q)
   ·rw [lookup_cons] at q q'
    cases hx:a==z with
    | true=>
     rw [hx] at q
     cases q
     cases hy:b==z with
     | true=>rw [eq_of_beq hx,eq_of_beq hy]
     | false=>rw [hy] at q';exact absurd (hl b n q') (Nat.lt_irrefl _)
    | false=>
     rw [hx] at q
     cases hy:b==z with
     | true=>rw [hy] at q';cases q';exact absurd (hl a n q) (Nat.lt_irrefl _)
     | false=>rw [hy] at q';exact hi a b d q q'
  ·rw [if_neg hk] at e e'
   exact JA hl hi e e'
theorem IV {env:Env} {x:Str} {c:Addr}:∀{names:List (Str×NameKind)} {acc:List (Str×Addr)},(bL env names acc).lookup x=some c->(x,NameKind.free)∈names\/acc.lookup x=some c
 | [],_,e=>.inr e
 | (n,k)::r,acc,e=>by
  unfold bL at e;by_cases hk:(k==.free)=true
  ·rw [if_pos hk] at e
   have hk':k=.free:=by simpa using hk
   rcases IV e with q | q
   ·exact .inl (LW _ q)
   ·rw [lookup_cons] at q
    cases hx:x==n with
    | true=>rw [eq_of_beq hx,hk'];exact .inl mem_cons_self
    | false=>rw [hx] at q;exact .inr q
  ·rw [if_neg hk] at e
   rcases IV e with q | q
   ·exact .inl (LW _ q)
   ·exact .inr q
theorem GU {x:Str}:∀{names:List (Str×NameKind)} {n:Nat} {acc:List (Str×Addr)},(x,NameKind.cell)∈names\/(acc.lookup x).isSome=true->((cellsFrom n names acc).lookup x).isSome=true
 | [],_,_,h=>h.elim nofun id
 | (y,k)::r,n,acc,h=>by
  unfold cellsFrom;by_cases hk:(k==.cell)=true
  ·rw [if_pos hk]
   refine GU (names:=r) ?_
   rcases h with h | h
   ·rcases LQ h with e | h
    ·cases e
     exact .inr (by rw [lookup_cons];simp)
    ·exact .inl h
   ·right
    rw [lookup_cons]
    cases hx:x==y with
    | true=>rfl
    | false=>exact h
  ·rw [if_neg hk]
   refine GU (names:=r) ?_
   rcases h with h | h
   ·rcases LQ h with e | h
    ·cases e
     exact absurd rfl hk
    ·exact .inl h
   ·exact .inr h
theorem GT {x:Str}:∀{names:List (Str×NameKind)} {n:Nat} {acc:List (Str×Addr)},(x,NameKind.cell)∉names->(cellsFrom n names acc).lookup x=acc.lookup x
 | [],_,_,_=>rfl
 | (y,k)::r,n,acc,h=>by
  unfold cellsFrom;have hr:(x,NameKind.cell)∉r:=fun z=>h (LW _ z)
  by_cases hk:(k==.cell)=true
  ·rw [if_pos hk,GT hr,lookup_cons]
   have hk':k=.cell:=by simpa using hk
   cases hx:x==y with
   | true=>exact absurd (by rw [eq_of_beq hx,hk'];exact mem_cons_self) h
   | false=>rfl
  ·rw [if_neg hk]
   exact GT hr
theorem GV {x:Str} {c:Addr}:∀{names:List (Str×NameKind)} {n:Nat} {acc:List (Str×Addr)},(x,NameKind.cell)∈names->(cellsFrom n names acc).lookup x=some c->(cellsFrom n names []).lookup x=some c
 | [],_,_,h,_=>nomatch h
 | (y,k)::r,n,acc,h,e=>by
  unfold cellsFrom at e ⊢
  by_cases hk:(k==.cell)=true
  ·rw [if_pos hk] at e ⊢
   by_cases hr:(x,NameKind.cell)∈r
   ·have:∀{acc acc':List (Str×Addr)},(cellsFrom (n+1) r acc).lookup x=some c->(cellsFrom (n+1) r acc').lookup x=some c:=fun {a a'} q=>by
     have q0:=GV hr q
     have hs:=GU (n:=n+1) (acc:=a') (.inl hr)
     obtain ⟨c',hc'⟩:=Option.isSome_iff_exists.mp hs;have q1:=GV hr hc'
     rw [q0] at q1
     cases q1;exact hc'
    exact this e
   ·rw [GT hr] at e ⊢
    rw [lookup_cons] at e ⊢
    cases hx:x==y with
    | true=>rw [hx] at e;exact e
    | false=>
     rcases LQ h with z | z
     ·cases z
      simp at hx
     ·exact absurd z hr
  ·rw [if_neg hk] at e ⊢
   rcases LQ h with z | z
   ·cases z
    exact absurd rfl hk
   ·exact GV z e
def blk (X:Cx) (scope:Scope) (cells:List (Str×Addr)) (C:Addr) (s₀:Shared) (H₀:Hp) (ex:List Addr):Cx where
 prog:=X.prog
 w:=X.w
 K:=X.K
 mg:=X.mg
 base:=X.base
 A:=X.A
 N:=X.N
 s₀:=s₀
 H₀:=H₀
 env:={ scope:=relabel scope X.env,locals:=C,globals:=X.env.globals,cells:=cells,qual:=X.env.qual,func:=none,code:=X.env.code,frame:=X.env.frame,builtins:=X.env.builtins }
 outer:=X.stack
 stack:=X.stack
 ex:=ex
 fn:=fun x=>scope.names.any fun y=>y.1==x&&y.2==.cell
 calm:=X.calm
 pn:=[]
 xe:=fun _ _=>False
structure cb (N:List Str) (is:List Nat) (osc scope:Scope):Prop where
 kind:scope.kind=.function
 free:∀n,(n,NameKind.free)∈scope.names->osc.names.lookup n=some .cell\/osc.names.lookup n=some .free
 own:∀(i:Nat) (x:Str),N[i]?=some x->(x,NameKind.local)∈scope.names\/(x,NameKind.cell)∈scope.names->i∈is
 loc:∀x∈scope.names,x.2=.local->scope.names.lookup x.1=some .local
 one:∀n,(n,NameKind.free)∈scope.names->(n,NameKind.cell)∉scope.names
def aX (is:List Nat) (σ:St):St:=σ.mapIdx fun i v=>if i∈is then none else v
theorem zi (is:List Nat) (σ:St):(aX is σ).length=σ.length:=by unfold aX;simp
theorem GD {is:List Nat} {σ:St} {i:Nat} {v:V} (h:(aX is σ)[i]?=some (some v)):i∉is/\σ[i]?=some (some v):=by
 unfold aX at h;rw [List.getElem?_mapIdx] at h
 cases e:σ[i]? with
 | none=>rw [e] at h;cases h
 | some o=>
  rw [e] at h;simp only [Option.map_some,Option.some.injEq] at h
  by_cases hi:i∈is
  ·rw [if_pos hi] at h;cases h
  ·rw [if_neg hi] at h;exact ⟨hi,by rw [h]⟩
def KJ (σ0 σ2:St):Prop:=σ2.length=σ0.length/\∀(i:Nat) v,σ0[i]?=some (some v)->σ2[i]?=some (some v)
theorem fY {x:Str} {k:NameKind} {l:List (Str×NameKind)} (h:l.lookup x=some k):(x,k)∈l:=PySem.mem_of_lookup h
theorem Dr {scope:Scope} {env:Env} {x:Str} {k:NameKind} (h:(relabel scope env).names.lookup x=some k) :
  (x,k)∈scope.names\/((x,NameKind.free)∈scope.names/\k=.cell):=by
 have h:=fY h
 unfold relabel at h;obtain ⟨⟨n,k'⟩,hm,e⟩:=List.mem_map.mp h;dsimp only at e;by_cases hc:(k'==NameKind.free&&env.scope.kind==.function&&env.kindOf n==some .cell)=true
 ·rw [if_pos hc] at e
  cases e;have:k'=.free:=by
   simp only [Bool.and_eq_true,beq_iff_eq] at hc
   exact hc.1.1
  exact .inr ⟨this▸hm,rfl⟩
 ·rw [if_neg hc] at e
  cases e;exact .inl hm
def i6 (X:Cx) (scope:Scope) (C:Addr):List (Str×Addr):=cellsFrom (C+1) scope.names (bL X.env scope.names [])
section
variable {X:Cx} {pins:List (Addr×Obj)} {σ:St} {H:Hp} {s:Shared} {scope:Scope} {is:List Nat}
theorem Inv.freeCells (I:Inv X pins σ H s) (S:cb X.N is X.env.scope scope):∀n,(n,NameKind.free)∈scope.names->∃c,X.env.cells.lookup n=some c:=fun n hn=>
 I.ok.has n (S.free n hn)
theorem Inv.blkOld (I:Inv X pins σ H s) (S:cb X.N is X.env.scope scope) {x:Str} {c:Addr} (h:(bL X.env scope.names []).lookup x=some c):X.env.cells.lookup x=some c:=by
 rcases Ji (I.freeCells S) h with q | q
 ·exact q
 ·cases q
theorem Inv.block {fp:List Addr} {t':Nat} (I:Inv X pins σ H s) (S:cb X.N is X.env.scope scope) (hf:∀b∈fp,ig X pins H b) (hfs:∀b∈fp,b<s.heap.objs.size) :
  Inv (blk X scope (i6 X scope (s.heap.objs.size+1)) (s.heap.objs.size+1) s H fp) [] (aX is σ) (bb H s.heap.objs.size (.lst []))
   { s with heap:=pushCells ((s.heap.push { cls:=.type "list",data:=.seq ([]:List Value).toArray }).push { cls:=.type "dict",data:=.dict #[] }) scope.names,toks:=t' }:=by
 generalize hC:s.heap.objs.size+1=C
 have hDn:H s.heap.objs.size=none:=I.hok.fresh (L3 _)
 have s1:(s.heap.push { cls:=.type "list",data:=.seq ([]:List Value).toArray }).objs.size=C:=by rw [Heap.size_push,hC]
 have kept:∀b o,s.heap.get? b=some o->(pushCells ((s.heap.push { cls:=.type "list",data:=.seq ([]:List Value).toArray }).push { cls:=.type "dict",data:=.dict #[] }) scope.names).get? b=some o:=
  fun b o e=>pushCells_keeps _ _ b o (L1 _ (L1 _ e))
 have cellsL:∀x c,(i6 X scope C).lookup x=some c->((x,NameKind.cell)∈scope.names/\C+1<=c)\/X.env.cells.lookup x=some c:=fun x c e=>by
  rcases Ec e with q | q
  ·exact .inl q
  ·exact .inr (I.blkOld S q)
 have oldLt:∀x c,X.env.cells.lookup x=some c->c<s.heap.objs.size:=fun x c e=>by
  obtain ⟨v,q⟩:=I.cell x c e;exact q.lt
 have cok:CellsOk (pushCells ((s.heap.push { cls:=.type "list",data:=.seq ([]:List Value).toArray }).push { cls:=.type "dict",data:=.dict #[] }) scope.names) (C+1)
   (cellsFrom (C+1) scope.names []):=by
  have:=cellsFrom_ok scope.names ((s.heap.push { cls:=.type "list",data:=.seq ([]:List Value).toArray }).push { cls:=.type "dict",data:=.dict #[] }) (C+1) [] ⟨fun _ _ hm=>(nomatch hm),List.Pairwise.nil⟩ (by rw [Heap.size_push,s1];exact L3 _)
  rw [Heap.size_push,s1] at this;exact this
 have lt1:∀{b:Nat},b<s.heap.objs.size->b≠C:=fun {b} h e=>by subst e;rw [<-hC] at h;exact absurd (Nat.lt_of_succ_lt h) (Nat.lt_irrefl _)
 have hDle:s.heap.objs.size<=C:=by rw [<-hC];exact Nat.le_succ _
 have cellAt:∀x c,(i6 X scope C).lookup x=some c->(C<c/\(pushCells ((s.heap.push { cls:=.type "list",data:=.seq ([]:List Value).toArray }).push { cls:=.type "dict",data:=.dict #[] }) scope.names).IsCell c none)\/X.env.cells.lookup x=some c:=fun x c e=>by
  rcases cellsL x c e with ⟨q1,q2⟩ | q
  ·exact .inl ⟨q2,(cok.empty x c (PySem.mem_of_lookup (GV q1 e))).1⟩
  ·exact .inr q
 refine ⟨⟨I.ok.mod,S.kind,I.ok.glob,I.ok.blt,hDle,?_,?_,?_,I.ok.hd,I.ok.frames,.inl rfl,?_,I.bs,Nat.le_trans I.ok.bsz I.sz,?_,?_,I.stack,I.stkFree⟩,rfl,I.bare,?_,?_,?_,?_,?_,fun p hp=>absurd (show p∈([]:List (Addr×Obj)) from hp) (by simp),?_,(zi _ _).trans I.len⟩
 ·-- inj
  intro x y c hx hy;refine JA (fun z d q=>?_) (fun a b d q q'=>I.ok.inj a b d (I.blkOld S q) (I.blkOld S q')) hx hy
  exact Nat.lt_succ_of_lt (Nat.lt_of_lt_of_le (oldLt z d (I.blkOld S q)) hDle)
 ·-- has
  intro x hx;have q:((i6 X scope C).lookup x).isSome=true:=by
   refine GU ?_
   have hx:(relabel scope X.env).names.lookup x=some .cell\/(relabel scope X.env).names.lookup x=some .free:=hx
   rcases hx with hx | hx
   ·rcases Dr hx with z | ⟨z,_⟩
    ·exact .inl z
    ·exact .inr (Dp (.inl z))
   ·rcases Dr hx with z | ⟨z,_⟩
    ·exact .inr (Dp (.inl z))
    ·exact .inr (Dp (.inl z))
  exact Option.isSome_iff_exists.mp q
 ·-- cab
  intro x c hx e;have hx:(scope.names.any fun y=>y.1==x&&y.2==NameKind.cell)=true:=hx
  obtain ⟨y,hy,hz⟩:=List.any_eq_true.mp hx;simp only [Bool.and_eq_true,beq_iff_eq] at hz
  have hm:(x,NameKind.cell)∈scope.names:=by rw [<-hz.1,<-hz.2];exact hy
  rcases Ec e with ⟨_,q⟩ | q
  ·exact Nat.le_trans hDle (Nat.le_of_succ_le q)
  ·rcases IV q with z | z
   ·exact absurd hm (S.one x z)
   ·cases z
 ·-- exf
  intro b hb;obtain ⟨f0,f1,f2,f3,f4,f5⟩:=hf b hb;refine ⟨lt1 (hfs b hb),fun x c e z=>?_⟩
  rcases cellsL x c e with ⟨_,q⟩ | q
  ·subst z
   exact absurd (Nat.lt_of_lt_of_le (hfs _ hb) hDle) (Nat.not_lt.mpr (Nat.le_of_succ_le q))
  ·exact f4 x c q z
 ·-- noex
  intro b o e hb;obtain ⟨f0,f1,f2,f3,f4,f5⟩:=hf b hb;rcases f3 with z | z
  ·exact I.ok.noex b o e z
  ·exact absurd (Nat.lt_of_lt_of_le (Heap.lt_size e) (Nat.le_trans I.ok.bsz z)) (Nat.lt_irrefl _)
 ·-- exfs
  intro b hb z;obtain ⟨f0,f1,f2,f3,f4,f5⟩:=hf b hb;rcases LQ (I.stkSub b z) with e | e
  ·exact f1 e
  ·exact f2 e
 ·-- base
  exact Un.laid kept (L3 _) hDn
 ·-- loc
  refine ⟨fun _=>none,?_,fun i x v e1 e2 e3=>?_⟩
  ·have:=(Heap.Ns.new (s.heap.push { cls:=.type "list",data:=.seq ([]:List Value).toArray }) (.type "dict")).keeps (pushCells_keeps scope.names _)
   rw [s1] at this;exact this
  ·obtain ⟨hni,e2'⟩:=GD e2
   obtain ⟨m,hn,hl⟩:=id I.loc;have hfree:(x,NameKind.free)∈scope.names:=by
    have e3:(relabel scope X.env).names.lookup x=some .local\/(relabel scope X.env).names.lookup x=some .cell\/(relabel scope X.env).names.lookup x=some .free:=e3
    rcases e3 with z | z | z
    ·rcases Dr z with y | ⟨y,_⟩
     ·exact absurd (S.own i x e1 (.inl y)) hni
     ·exact y
    ·rcases Dr z with y | ⟨y,_⟩
     ·exact absurd (S.own i x e1 (.inr y)) hni
     ·exact y
    ·rcases Dr z with y | ⟨y,_⟩
     ·exact y
     ·exact y
   have hk:=S.free x hfree
   obtain ⟨u,r,l⟩:=hl i x v e1 e2' (.inr hk)
   refine ⟨u,r,?_⟩
   rcases l with ⟨k,_⟩ | ⟨k,c,e,z⟩
   ·have k:X.env.scope.names.lookup x=some .local:=k
    rcases hk with q | q<;>(rw [q] at k;cases k)
   ·refine .inr ⟨?_,c,?_,z.keeps kept⟩
    ·have e3:(relabel scope X.env).names.lookup x=some .local\/(relabel scope X.env).names.lookup x=some .cell\/(relabel scope X.env).names.lookup x=some .free:=e3
     rcases e3 with y | y | y
     ·rcases Dr y with y' | ⟨_,y'⟩
      ·exact absurd (S.own i x e1 (.inl y')) hni
      ·cases y'
     ·exact .inl y
     ·exact .inr y
    ·have q:=Dp (env:=X.env) (acc:=[]) (.inl hfree)
     obtain ⟨c',hc'⟩:=Option.isSome_iff_exists.mp q;have:=I.blkOld S hc'
     rw [e] at this
     cases this;show (i6 X scope C).lookup x=some c
     unfold i6;rw [GT (S.one x hfree)];exact hc'
 ·-- cell
  intro x c e;rcases cellAt x c e with ⟨_,q⟩ | q
  ·exact ⟨_,q⟩
  ·obtain ⟨v,z⟩:=I.cell x c q
   exact ⟨v,z.keeps kept⟩
 ·-- free
  show bb H s.heap.objs.size (.lst []) C=none
  rw [cw (by rw [<-hC];exact Nat.ne_of_gt (Nat.lt_succ_self _))]
  exact I.hok.fresh hDle
 ·-- freeC
  intro x c e;show bb H s.heap.objs.size (.lst []) c=none
  rcases cellAt x c e with ⟨q,_⟩ | q
  ·have hc:s.heap.objs.size<c:=Nat.lt_of_le_of_lt hDle q
   rw [cw (Nat.ne_of_gt hc)];exact I.hok.fresh (Nat.le_of_lt hc)
  ·rw [cw (Nat.ne_of_lt (oldLt x c q))]
   exact I.freeC x c q
 ·-- hok
  exact I.hok.laid kept (L3 _) ⟨Nat.zero_le _,[],0,.nil,pushCells_keeps _ _ _ _ (L1 _ (Heap.get?_push_size _ rfl))⟩
end
section
variable {M:Model} {A:Around} {E:Value->Shared->Prop} {s:Shared}
theorem gX {scope:Scope} {globals:Addr} {cl:List (Str×Addr)} {qual:Str} {env:Env} {Q:Env->Shared->Prop}
  (hQ:Q (newEnv scope s.heap.objs.size globals (cellsFrom (s.heap.objs.size+1) scope.names cl) qual none .none (some env) builtinsNs) { s with heap:=pushCells (s.heap.push { cls:=.type "dict",data:=.dict #[] }) scope.names }) :
  wpAny M A (newFunctionEnv scope globals cl [] qual none .none (some env)) Q E s:=by
 simp only [newFunctionEnv,Option.isSome_some,if_true]
 refine LZ (wpAny_alloc ?_)
 refine LZ (wpAny_layCells _ (fun name kind cells=>by cases hkc:kind==NameKind.cell<;>simp [hkc]) _ _ _ _ ?_)
 rw [show ({ s with heap:=s.heap.push { cls:=.type "dict",data:=.dict #[] } }:Shared).heap.objs.size=s.heap.objs.size+1 from Heap.size_push ..]
 rw [List.forIn_nil];exact LZ (L0 (L0 hQ))
end
def PF (X:Cx) (ifs:List Expr) (t:TT):Prop:=
 ∀(pins:List (Addr×Obj)) (s:Shared) (σ:St) (H:Hp) (Q:Bool->Hp->Prop),Inv X pins σ H s->t σ H Q ->
  wpAny (model X.prog X.w) X.A (forIn ifs true fun c r=>if r=true then do let ok <-isTrue c X.env (eval c X.env);pure (ForInStep.yield ok) else pure (ForInStep.yield r)) (TP X pins σ Q) X.xe s
def jW:TT:=fun _ H Q=>Q true H
theorem ua {X:Cx}:PF X [] jW:=fun pins s σ H Q I h=>wpAny_tests_nil ⟨H,I,h⟩
theorem BN {X:Cx} {c:Expr} {t:TT} (h:PT X c t):PF X [c] t:=fun pins s σ H Q I q=>wpAny_tests_one (h pins s σ H Q I q)
def ez (is:List Nat) (wi:TI) (g:TG) (tc:TT) (te:TE):TE:=fun σ H Q=>wi σ H fun J H1=>∀D,H1 D=none->∃W:Nat->Nat->List V->Hp->Prop,(∃m,W 0 m [] (bb H1 D (.lst [])))/\∀k m ys H,W k m ys H ->
 H D=some (.lst ys)/\((J.stop k H/\Q (.ref D) H)\/(J.go k H/\ys.length<sizeLine/\∀x H',J.yld k H x H'->g x (aX is σ) H' fun σ2 H2=>KJ (aX is σ) σ2/\tc σ2 H2 fun b H3=>
  if b=true then te σ2 H3 fun v H4=>H4 D=some (.lst ys)/\∃m',m'<m/\W (k+1) m' (ys++[v]) (bb H4 D (.lst (ys++[v]))) else ∃m',m'<m/\W (k+1) m' ys H3))
section
variable {X:Cx} {scope:Scope} {is:List Nat} {tg iter elt:Expr} {ifs:List Expr} {wi:TI} {g:TG} {tc:TT} {te:TE} {pos:Pos}
theorem iU {pins:List (Addr×Obj)} {s:Shared} {σ:St} {H:Hp} {Q:VK} {RR:Value->Addr->Result->Shared->Prop} (S:cb X.N is X.env.scope scope) (hcalm:X.calm=true) (hi:PI X tg iter wi)
  (hg:∀cells C s₀ H₀ ex,PG (blk X scope cells C s₀ H₀ ex) tg g) (hc:∀cells C s₀ H₀ ex,PF (blk X scope cells C s₀ H₀ ex) ifs tc) (he:∀cells C s₀ H₀ ex,PE (blk X scope cells C s₀ H₀ ex) elt te)
  (I:Inv X pins σ H s) (h:ez is wi g tc te σ H Q)
  (hRR:∀D C s' H' m,Inv X pins σ H' s'->s'.heap.Ns C m->Q (.ref D) H'->H' C=none->C≠X.env.locals->X.s₀.heap.objs.size<=C->(∀x c,X.env.cells.lookup x=some c->c≠C)->(∀p∈X.pn++pins,p.1≠C)->RR (.ref D) C (.ok .next) s') :
  wpAny (model X.prog X.w) X.A (eval iter X.env) (fun x s₁=>wpAny (model X.prog X.w) X.A (pyIter x) (fun it s₂=>wpAny (model X.prog X.w) X.A (newList []) (fun acc s₃=>
   wpAny (model X.prog X.w) X.A (newFunctionEnv scope X.env.globals (bL X.env scope.names []) [] X.env.qual none .none (some X.env)) (fun cenv s₄=>
    codeAny (model X.prog X.w) X.A (.compStart (.ListComp elt [⟨tg,iter,ifs,0⟩] scope pos) 0 it acc { cenv with scope:=relabel scope X.env }) (RR acc cenv.locals) s₄) X.xe s₃) X.xe s₂) X.xe s₁) X.xe s:=by
 refine bc (hi pins s σ H _ I h) fun v s1 h1=>bc h1 fun itv s2 h2=>?_
 obtain ⟨it,fp,tn,J,H2,e,I2,T,st2,f2,hW⟩:=h2;subst e;obtain ⟨W,⟨m0,w0⟩,turn⟩:=hW s2.heap.objs.size (I2.hok.fresh (L3 _));refine wpAny_newObj_type (gX ?_)
 have s1:(s2.heap.push { cls:=.type "list",dict:=none,data:=.seq ([]:List Value).toArray }).objs.size=s2.heap.objs.size+1:=by rw [Heap.size_push]
 dsimp only;rw [s1];have hfs:∀b∈fp,b<s2.heap.objs.size:=fun b hb=>by
  obtain ⟨o,e,_⟩:=T.obj 0 _ st2 b hb;exact Heap.lt_size e
 have I4:=I2.block (t':=s2.toks) S f2 hfs
 generalize hCC:s2.heap.objs.size+1=C at I4 ⊢
 have hDC:s2.heap.objs.size<C:=by rw [<-hCC];exact Nat.lt_succ_self _
 have Hg:=hg (i6 X scope C) C s2 H2 fp
 have Hc:=hc (i6 X scope C) C s2 H2 fp
 have He:=he (i6 X scope C) C s2 H2 fp
 have Ha:=Jm (X:=blk X scope (i6 X scope C) C s2 H2 fp)
 have hYcell:∀x c,(blk X scope (i6 X scope C) C s2 H2 fp).env.cells.lookup x=some c->s2.heap.objs.size<=c\/X.env.cells.lookup x=some c:=fun x c e=>by
  have e:(cellsFrom (C+1) scope.names (bL X.env scope.names [])).lookup x=some c:=e
  rcases Ec e with ⟨_,q⟩ | q
  ·exact .inl (Nat.le_trans (Nat.le_of_lt hDC) (Nat.le_of_succ_le q))
  ·exact .inr (I2.blkOld S q)
 have FY:∀{H':Hp},(∀b∈fp,H' b=none)->∀b∈fp,ig (blk X scope (i6 X scope C) C s2 H2 fp) [] H' b:=fun {H'} hn b hb=>by
  obtain ⟨f0,f1,f3,f4,f5,f6⟩:=f2 b hb;refine ⟨hn b hb,Nat.ne_of_lt (Nat.lt_trans (hfs b hb) hDC),fun z=>?_,.inl hb,fun x c e z=>?_,fun p hp=>absurd (show p∈([]:List (Addr×Obj)) from hp) (by simp)⟩
  ·rcases LQ (I2.stkSub b z) with e | e
   ·exact f1 e
   ·exact f3 e
  ·rcases hYcell x c e with q | q
   ·rw [z] at q
    exact absurd (Nat.lt_of_lt_of_le (hfs b hb) q) (Nat.lt_irrefl _)
   ·exact f5 x c q z
 have hCx:∀x c,X.env.cells.lookup x=some c->c≠C:=fun x c e z=>by
  obtain ⟨v,q⟩:=I2.cell x c e;have:=q.lt
  rw [z] at this;exact absurd (Nat.lt_trans this hDC) (Nat.lt_irrefl _)
 have hCp:∀p∈X.pn++pins,p.1≠C:=fun p hp z=>by
  have:=Heap.lt_size (I2.pin p hp).1
  rw [z] at this;exact absurd (Nat.lt_trans this hDC) (Nat.lt_irrefl _)
 have out:∀{σ':St} {H':Hp} {s':Shared},Inv (blk X scope (i6 X scope C) C s2 H2 fp) [] σ' H' s'->Inv X pins σ H' s':=fun {σ' H' s'} J=>
  I2.call' (ch:=fp) J.os J.base J.hok J.bare fun b hb=>by
   obtain ⟨f0,f1,f3,f4,f5,f6⟩:=f2 b hb;exact ⟨f4,f1,f5,f6⟩
 have loop:∀s₃:Shared,s₃={ s2 with heap:=pushCells ((s2.heap.push { cls:=.type "list",data:=.seq ([]:List Value).toArray }).push { cls:=.type "dict",data:=.dict #[] }) scope.names } ->
   codeAny (model X.prog X.w) X.A (.compLoop (.ListComp elt [⟨tg,iter,ifs,0⟩] scope pos) 0 (.ref it) (.ref s2.heap.objs.size) (blk X scope (i6 X scope C) C s2 H2 fp).env) (RR (.ref s2.heap.objs.size) C) s₃:=by
  rintro s₃ rfl
  refine jy (fun n s'=>∃k ys H',Inv (blk X scope (i6 X scope C) C s2 H2 fp) [] (aX is σ) H' s'/\tn k s'.heap/\(∀b∈fp,H' b=none)/\W k n ys H') ?_ m0
   ⟨0,[],_,I4,T.keep 0 _ _ st2 fun b _ o e=>pushCells_keeps _ _ b o (L1 _ (L1 _ e)),fun b hb=>by rw [cw (Nat.ne_of_lt (hfs b hb))];exact (f2 b hb).1,w0⟩
  rintro n s3 ⟨k,ys,H3,I3,st3,fr3,w3⟩
  obtain ⟨hD3,hcase⟩:=turn k n ys H3 w3;rcases hcase with ⟨stop,qn⟩ | ⟨go,hlen,step⟩
  ·refine bc (T.done (blk X scope (i6 X scope C) C s2 H2 fp) rfl rfl rfl hcalm k [] s3 (aX is σ) H3 yW I3 (FY fr3) st3 stop) fun r s4 ⟨hr,I4⟩=>?_
   subst hr;obtain ⟨m,hn,_⟩:=id I4.loc;exact hRR _ C s4 H3 m (out I4) hn qn I4.free (fun z=>Nat.lt_irrefl _ (Nat.lt_trans (Nat.lt_of_lt_of_eq hDC z) I2.lt)) (Nat.le_trans I2.sz (Nat.le_of_lt hDC)) hCx hCp
  ·refine bc (T.item (blk X scope (i6 X scope C) C s2 H2 fp) rfl rfl rfl hcalm k [] s3 (aX is σ) H3 yW I3 (FY fr3) st3 go) fun r s4 ⟨u,hr,h4⟩=>?_
   subst hr;refine bc h4 fun _ s5 ⟨x,H5,I5,r5,y5,st5,fr5⟩=>?_
   have I5':=I5.pinned (FY fr5) (T.obj _ _ st5)
   refine bc (Hg _ s5 (aX is σ) H5 x u _ I5' r5 (step x H5 y5)) fun _ s6 ⟨σ6,H6,I6,le6,q6⟩=>?_
   refine bc (Hc _ s6 σ6 H6 _ I6 q6) fun ok s7 ⟨H7,I7,q7⟩=>?_
   have again:∀{H8:Hp} {s8:Shared} {ys':List V},Inv (blk X scope (i6 X scope C) C s2 H2 fp) ([]++DK fp s5.heap) σ6 H8 s8->(∃m',m'<n/\W (k+1) m' ys' H8) ->
     ∃m,m<n/\∃k ys H',Inv (blk X scope (i6 X scope C) C s2 H2 fp) [] (aX is σ) H' s8/\tn k s8.heap/\(∀b∈fp,H' b=none)/\W k m ys H':=fun {H8 s8 ys'} I8 ⟨m',hm,w8⟩=>by
    refine ⟨m',hm,k+1,ys',H8,(I8.weak le6.1.symm le6.2).unpinned,T.keep _ _ _ st5 fun b hb o e=>(I8.pin (b,o) (LN _ (LN _ (GO hb e)))).1,fun b hb=>?_,w8⟩
    obtain ⟨o,e,d⟩:=T.obj _ _ st5 b hb;exact (I8.pin (b,o) (LN _ (LN _ (GO hb e)))).2.1
   cases ok with
   | false=>
    rw [if_neg Bool.false_ne_true] at q7;exact again I7 q7
   | true=>
    rw [if_pos rfl] at q7;refine bc (He _ s7 σ6 H7 _ I7 q7) fun y s8 ⟨v8,H8,I8,r8,q8⟩=>?_
    obtain ⟨hD8,q8⟩:=q8;refine bc (Ha _ s8 σ6 H8 (.ref s2.heap.objs.size) [v8] (.ref s2.heap.objs.size) [y] (fun _ H9=>∃m',m'<n/\W (k+1) m' (ys++[v8]) H9) I8 rfl (.cons r8 .nil) ⟨_,ys,v8,rfl,rfl,hD8,hlen,q8⟩) fun _ s9 ⟨_,H9,I9,_,q9⟩=>?_
    exact again I9 q9
 exact codeAny_compStart_list (loop _ rfl) (T.self X.A 0 _ _ _ (T.keep 0 _ _ st2 fun b _ o e=>pushCells_keeps _ _ b o (L1 _ (L1 _ e))) (loop _ rfl))
theorem Ib (S:cb X.N is X.env.scope scope) (hcalm:X.calm=true) (hi:PI X tg iter wi)
  (hg:∀cells C s₀ H₀ ex,PG (blk X scope cells C s₀ H₀ ex) tg g) (hc:∀cells C s₀ H₀ ex,PF (blk X scope cells C s₀ H₀ ex) ifs tc) (he:∀cells C s₀ H₀ ex,PE (blk X scope cells C s₀ H₀ ex) elt te)
  (hs:∀x,foldedSetIterable iter X.env x=pure x:=by intro _;rfl):PE X (.ListComp elt [⟨tg,iter,ifs,0⟩] scope pos) (ez is wi g tc te):=by
 intro pins s σ H Q I h;rw [eval_ListComp];refine wpAny_comprehension_free (use:=none) rfl hs (dO (I.freeCells S)) S.kind S.loc (iU (RR:=fun acc C=>compPost (model X.prog X.w) X.A X.xe none (EP X pins σ Q) acc C) S hcalm hi hg hc he I h ?_)
 intro D C s' H' m I' hn q n1 n2 n3 n4 n5
 refine ⟨m,hn,fun h' hs'=>?_⟩
 exact ⟨.ref D,H',I'.turned (t':=s'.toks) (fun b o hb e=>(hs'.2 b hb).trans e) n1 n2 (.inr n3) n4 n5,rfl,q⟩
theorem mB {i:Nat} {y:Str} {pos' spos:Pos} (hN:X.N.Nodup) (hy:X.N[i]?=some y) (hl:X.env.scope.names.lookup y=some .local) (S:cb X.N is X.env.scope scope) (hcalm:X.calm=true) (hi:PI X tg iter wi)
  (hg:∀cells C s₀ H₀ ex,PG (blk X scope cells C s₀ H₀ ex) tg g) (hc:∀cells C s₀ H₀ ex,PF (blk X scope cells C s₀ H₀ ex) ifs tc) (he:∀cells C s₀ H₀ ex,PE (blk X scope cells C s₀ H₀ ex) elt te)
  (hsw:swapsWith (.ListComp elt [⟨tg,iter,ifs,0⟩] scope pos) (some (.Name y pos')) spos.line X.env=pure true)
  (hs:∀x,foldedSetIterable iter X.env x=pure x:=by intro _;rfl):PS X (.Assign [.Name y pos'] (.ListComp elt [⟨tg,iter,ifs,0⟩] scope pos) spos) (fun D σ H=>ez is wi g tc te σ H fun v H'=>D.nx (σ.set i (some v)) H'):=by
 intro pins s σ H Ds I h;rw [exec_Assign_Name_used _ _ _ _ hsw];refine LZ (wpAny_standAt (LZ ?_))
 show wpAny _ X.A (do let _ <-comprehension (.ListComp elt [⟨tg,iter,ifs,0⟩] scope pos) scope X.env _ (newList []) false (eval iter X.env) (some (assign (.Name y pos') X.env))) _ _ s
 refine LZ (wpAny_mono (wpAny_comprehension_free (use:=some (assign (.Name y pos') X.env)) (Q:=fun _ s'=>SP X pins Ds .next s') rfl hs (dO (I.freeCells S)) S.kind S.loc
  (iU (RR:=fun acc C=>compPost (model X.prog X.w) X.A X.xe (some (assign (.Name y pos') X.env)) (fun _ s'=>SP X pins Ds .next s') acc C) S hcalm hi hg hc he I h ?_)) (fun _ s' hq=>L0 (L0 hq)) fun _ _ e=>e)
 intro D C s' H' m I' hn q n1 n2 n3 n4 n5
 show wpAny _ X.A (assign (.Name y pos') X.env (.ref D)) _ _ _
 refine wpAny_assign_Name (iA (v:=.ref D) I' hN hy (.inl hl) rfl (fun s'' I'' hch=>?_) (.inr hl))
 obtain ⟨a,hsb,ha⟩:=hch;have hCa:C≠a:=by
  rcases ha with e | e
  ·rw [e];exact n2
  ·exact (n4 y a e).symm
 refine ⟨m,hn.sameBut hsb hCa,fun h' hs'=>?_⟩
 exact ⟨_,H',I''.turned (t':=s''.toks) (fun b o hb e=>(hs'.2 b hb).trans e) n1 n2 (.inr n3) n4 n5,q⟩
end
end L2
namespace T
open PySem PySem.Spec L2
open PyProof.Rows hiding St
abbrev D:=PyData
inductive Rep (K:Fg) (H:Hp):V->D->Prop where
 | non:Rep K H .non .none
 | bl (b:Bool):Rep K H (.bl b) (.bool b)
 | int (i:Int):Rep K H (.int i) (.int i)
 | str (x:Str):Rep K H (.str x) (.str x)
 | lst {p:Addr} {vs:List V} {ds:List D}:SqL K H p vs->vs.length=ds.length->(∀(i:Nat) v d,vs[i]?=some v->ds[i]?=some d->Rep K H v d)->Rep K H (.ref p) (.list ds)
 | tup {p:Addr} {vs:List V} {ds:List D}:SqT K H p vs->vs.length=ds.length->(∀(i:Nat) v d,vs[i]?=some v->ds[i]?=some d->Rep K H v d)->Rep K H (.ref p) (.tuple ds)
theorem cP {K:Fg} {H H':Hp} {a:Addr} {xs:List V} (e:Same H H') (h:SqT K H a xs):SqT K H' a xs:=by
 rcases h with (h | ⟨o,h⟩) | h
 ·exact .inl (.inl (e _ _ h))
 ·exact .inl (.inr ⟨o,e _ _ h⟩)
 ·exact .inr h
theorem Rep.mono {K:Fg} {H H':Hp} {v:V} {d:D} (e:Same H H') (h:Rep K H v d):Rep K H' v d:=by
 induction h with
 | non=>exact .non
 | bl b=>exact .bl b
 | int i=>exact .int i
 | str x=>exact .str x
 | lst hs hl _ ih=>exact .lst (e.seq hs) hl ih
 | tup hs hl _ ih=>exact .tup (cP e hs) hl ih
def Reps (K:Fg) (H:Hp) (vs:List V) (ds:List D):Prop:=vs.length=ds.length/\∀(i:Nat) v d,vs[i]?=some v->ds[i]?=some d->Rep K H v d
def bt (H:Hp) (O:List Addr):Hp:=fun a=>if a∈O then none else H a
theorem hid_le {H:Hp} {O:List Addr}:Same (bt H O) H:=fun b o h=>by
 unfold bt at h;split at h
 ·cases h
 ·exact h
theorem Dh {H:Hp} {O:List Addr} {a:Addr} {o:HO} (h:H a=some o) (n:a∉O):bt H O a=some o:=by
 unfold bt;rw [if_neg n];exact h
theorem nD {H H':Hp} {O O':List Addr} (e:Same H H') (h:∀a∈O',a∈O\/H a=none):Same (bt H O) (bt H' O'):=fun b o q=>by
 unfold bt at q ⊢
 split at q
 ·cases q
 ·rename_i hn
  have hb:b∉O':=fun z=>(h b z).elim hn fun z=>by rw [z] at q;cases q
  rw [if_neg hb];exact e b o q
theorem FZ {H:Hp} {O:List Addr} {p:Addr} {o:HO} (h:p∈O):bt (bb H p o) O=bt H O:=by
 funext b
 unfold bt;split
 ·rfl
 ·rename_i hb
  exact cw fun e=>hb (e▸h)
theorem HW {H:Hp}:bt H []=H:=by
 funext b;unfold bt;simp
theorem fD {H:Hp} {p:Addr} {o:HO} (h:H p=none):Same H (bb H p o):=fun b u e=>by
 rw [cw (vO e h)];exact e
inductive Sh where
 | view | leaf | lst (s:Sh) | tup (ss:List Sh)
def Sh.isView:Sh->Bool
 | .view=>true
 | _=>false
inductive Own (K:Fg) (O:List Addr) (H:Hp):Sh->List Addr->V->D->Prop where
 | view {v d}:Rep K H v d->Own K O H .view [] v d
 | leaf {v d}:Rep K (bt H O) v d->Own K O H .leaf [] v d
 | lst {s:Sh} {p:Addr} {vs:List V} {ds:List D} {Fs:List (List Addr)}:s.isView=false->H p=some (.lst vs)->vs.length=ds.length->Fs.length=ds.length->(p::Fs.flatten).Nodup ->
   (∀(i:Nat) v d F,vs[i]?=some v->ds[i]?=some d->Fs[i]?=some F->Own K O H s F v d)->Own K O H (.lst s) (p::Fs.flatten) (.ref p) (.list ds)
 | tup {ss:List Sh} {p:Addr} {vs:List V} {ds:List D} {Fs:List (List Addr)}:(∀s∈ss,s.isView=false)->H p=some (.tup vs)->p∉O->vs.length=ds.length->Fs.length=ds.length->ss.length=ds.length->Fs.flatten.Nodup ->
   (∀(i:Nat) v d F s,vs[i]?=some v->ds[i]?=some d->Fs[i]?=some F->ss[i]?=some s->Own K O H s F v d)->Own K O H (.tup ss) Fs.flatten (.ref p) (.tuple ds)
theorem Own.mono {K:Fg} {O O':List Addr} {H H':Hp} {s:Sh} {G:List Addr} {v:V} {d:D} (h:Own K O H s G v d) (e:Same H H') (hO:∀a∈O',a∈O\/H a=none):Own K O' H' s G v d:=by
 induction h with
 | view r=>exact .view (r.mono e)
 | leaf r=>exact .leaf (r.mono (nD e hO))
 | lst hv hp hl hf nd _ ih=>exact .lst hv (e _ _ hp) hl hf nd fun i v d F h1 h2 h3=>ih i v d F h1 h2 h3
 | tup hv hp hn hl hf hs nd _ ih=>exact .tup hv (e _ _ hp) (fun z=>(hO _ z).elim hn fun z=>by rw [z] at hp;cases hp) hl hf hs nd fun i v d F s h1 h2 h3 h4=>ih i v d F s h1 h2 h3 h4
theorem Own.rep {K:Fg} {O:List Addr} {H:Hp} {s:Sh} {G:List Addr} {v:V} {d:D} (h:Own K O H s G v d):Rep K H v d:=by
 induction h with
 | view r=>exact r
 | leaf r=>exact r.mono hid_le
 | lst hv hp hl hf _ q ih=>
  refine .lst (.of hp) hl fun i v d h1 h2=>?_
  rename_i Fs _;obtain ⟨F,hF⟩:∃F,Fs[i]?=some F:=by
   have:=(LY h2).1
   exact ⟨Fs[i]'(by omega),LR _⟩
  exact ih i v d F h1 h2 hF
 | tup hv hp hn hl hf hs _ q ih=>
  refine .tup (.of hp) hl fun i v d h1 h2=>?_
  rename_i ss _ _ _ Fs _;have hi:=(LY h2).1
  exact ih i v d (Fs[i]'(by omega)) (ss[i]'(by omega)) h1 h2 (LR _) (LR _)
theorem ik {Fs:List (List Addr)} {i:Nat} {F:List Addr} {a:Addr} (h:Fs[i]?=some F) (ha:a∈F):a∈Fs.flatten:=List.mem_flatten.mpr ⟨F,mem_of_getElem? h,ha⟩
theorem Own.freeze {K:Fg} {O O':List Addr} {H:Hp} {s:Sh} {G:List Addr} {v:V} {d:D} (h:Own K O H s G v d) (hs:s.isView=false) (h1:∀a∈O',a∈O) (h2:∀a∈G,a∉O'):Rep K (bt H O') v d:=by
 induction h with
 | view r=>cases hs
 | leaf r=>exact r.mono (nD (Same.refl _) fun a z=>.inl (h1 a z))
 | lst hv hp hl hf _ q ih=>
  refine .lst (.of (Dh hp (h2 _ mem_cons_self))) hl fun i v d e1 e2=>?_
  rename_i Fs _;obtain ⟨F,hF⟩:∃F,Fs[i]?=some F:=by
   have:=(LY e2).1
   exact ⟨Fs[i]'(by omega),LR _⟩
  exact ih i v d F e1 e2 hF hv fun a ha=>h2 a (LW _ (ik hF ha))
 | tup hv hp hn hl hf hs' _ q ih=>
  refine .tup (.of (Dh hp fun z=>hn (h1 _ z))) hl fun i v d e1 e2=>?_
  rename_i ss _ _ _ Fs _;have hi:=(LY e2).1
  have e3:Fs[i]?=some (Fs[i]'(by omega)):=LR _
  exact ih i v d _ (ss[i]'(by omega)) e1 e2 e3 (LR _) (hv _ (getElem_mem _)) fun a ha=>h2 a (ik e3 ha)
theorem Own.mut {K:Fg} {O:List Addr} {H:Hp} {s:Sh} {G:List Addr} {v:V} {d:D} {p:Addr} {o:HO} {xs:List V} (h:Own K O H s G v d) (hs:s.isView=false) (hp:p∈O) (hg:p∉G) (hl:H p=some (.lst xs)):Own K O (bb H p o) s G v d:=by
 induction h with
 | view r=>cases hs
 | leaf r=>refine .leaf ?_;rw [FZ hp];exact r
 | lst hv hq hl' hf nd q ih=>
  refine .lst hv ?_ hl' hf nd fun i v d F e1 e2 e3=>ih i v d F e1 e2 e3 hv fun z=>hg (LW _ (ik e3 z))
  rw [cw (fun z=>hg (by rw [<-z];exact mem_cons_self))]
  exact hq
 | tup hv hq hn hl' hf hs' nd q ih=>
  refine .tup hv ?_ hn hl' hf hs' nd fun i v d F s e1 e2 e3 e4=>ih i v d F s e1 e2 e3 e4 (hv _ (mem_of_getElem? e4)) fun z=>hg (ik e3 z)
  rw [cw (fun z=>by rw [z,hl] at hq;cases hq)]
  exact hq
inductive Sc:V->D->Prop where
 | non:Sc .non .none
 | bl (b:Bool):Sc (.bl b) (.bool b)
 | int (i:Int):Sc (.int i) (.int i)
 | str (x:Str):Sc (.str x) (.str x)
theorem Sc.rep {K:Fg} {H:Hp} {v:V} {d:D} (h:Sc v d):Rep K H v d:=by cases h<;>constructor
def aZ:D->Bool
 | .list _=>false
 | .tuple _=>false
 | .dict _=>false
 | _=>true
theorem Rep.sc {K:Fg} {H:Hp} {v:V} {d:D} (h:Rep K H v d) (s:aZ d=true):Sc v d:=by
 cases h with
 | non=>exact .non
 | bl b=>exact .bl b
 | int i=>exact .int i
 | str x=>exact .str x
 | lst _ _ _=>cases s
 | tup _ _ _=>cases s
structure PV where
 s:Sh
 d:D
abbrev Ev:=List (Option PV)
@[simp] abbrev L5 (d:PySem.PyData):Option PV:=some ⟨.leaf,d⟩
inductive Out (α:Type) where
 | ok (a:α) (e:Ev)
 | er (c:Str) (e:Ev)
 | no
def Out.bind {α β:Type} (x:Out α) (k:α->Ev->Out β):Out β:=match x with
 | .ok a e=>k a e
 | .er c e=>.er c e
 | .no=>.no
structure EnvOk (K:Fg) (He:Hp) (O:List Addr) (Fs:List (List Addr)) (H:Hp) (σ:St) (Γ:Ev):Prop where
 len1:σ.length=Γ.length
 len2:Fs.length=Γ.length
 same:Same He H
 nd:(O++Fs.flatten).Nodup
 inH:∀a∈O++Fs.flatten,H a≠none
 fresh:∀a∈Fs.flatten,He a=none
 slot:∀(i:Nat) (p:PV),Γ[i]?=some (some p)->p.s.isView=false/\∃v F,σ[i]?=some (some v)/\Fs[i]?=some F/\Own K (O++Fs.flatten) H p.s F v p.d
section
variable {K:Fg} {He H H':Hp} {O O' G:List Addr} {Fs:List (List Addr)} {σ:St} {Γ:Ev}
theorem EnvOk.grow (h:EnvOk K He O Fs H σ Γ) (e:Same H H'):EnvOk K He O Fs H' σ Γ:=
 ⟨h.len1,h.len2,h.same.trans e,h.nd,fun a ha z=>h.inH a ha (e.free z),h.fresh,fun i p q=>let ⟨a,v,F,b,c,d⟩:=h.slot i p q;⟨a,v,F,b,c,d.mono e fun _ z=>.inl z⟩⟩
theorem EnvOk.drop (h:EnvOk K He O Fs H σ Γ) (hs:∀a∈O',a∈O) (nd:O'.Nodup):EnvOk K He O' Fs H σ Γ:=by
 obtain ⟨n1,n2,n3⟩:=LX h.nd;refine ⟨h.len1,h.len2,h.same,List.nodup_append.mpr ⟨nd,n2,fun a ha b hb=>n3 a (hs a ha) b hb⟩,fun a ha=>h.inH a ?_,h.fresh,fun i p q=>let ⟨a,v,F,b,c,d⟩:=h.slot i p q;⟨a,v,F,b,c,d.mono (Same.refl _) fun a z=>.inl ?_⟩⟩
 ·rcases LP ha with z | z
  ·exact LO _ (hs a z)
  ·exact LN _ z
 ·rcases LP z with z | z
  ·exact LO _ (hs a z)
  ·exact LN _ z
theorem EnvOk.dropL (h:EnvOk K He (G++O) Fs H σ Γ):EnvOk K He O Fs H σ Γ:=h.drop (fun a z=>LN _ z) (LX (LX h.nd).1).2.1
theorem EnvOk.hide (h:EnvOk K He O Fs H σ Γ) (e:Same H H') (nd:G.Nodup) (hn:∀a∈G,H a=none) (hi:∀a∈G,H' a≠none):EnvOk K He (G++O) Fs H' σ Γ:=by
 refine ⟨h.len1,h.len2,h.same.trans e,?_,fun a ha=>?_,h.fresh,fun i p q=>let ⟨a,v,F,b,c,d⟩:=h.slot i p q;⟨a,v,F,b,c,d.mono e fun a z=>?_⟩⟩
 ·rw [append_assoc]
  exact List.nodup_append.mpr ⟨nd,h.nd,fun a ha b hb z=>h.inH b hb (by rw [<-z];exact hn a ha)⟩
 ·rw [append_assoc] at ha
  rcases LP ha with z | z
  ·exact hi a z
  ·exact fun q=>h.inH a z (e.free q)
 ·rw [append_assoc] at z
  rcases LP z with z | z
  ·exact .inr (hn a z)
  ·exact .inl z
end
structure Aft (K:Fg) (He:Hp) (O:List Addr) (Fs:List (List Addr)) (H:Hp) (σ:St) (Γ':Ev) (p:PV) (v:V) (H':Hp) (G:List Addr) (Fs':List (List Addr)):Prop where
 same:Same H H'
 env:EnvOk K He (G++O) Fs' H' σ Γ'
 new:∀a∈G++Fs'.flatten,a∈Fs.flatten\/H a=none
 own:Own K (G++O++Fs'.flatten) H' p.s G v p.d
abbrev XW:=Str->St->Hp->Prop
abbrev F1:=Ev->Out PV
def tE (K:Fg) (W:XW) (f:F1):TE:=fun σ H Q=>∃He O Fs Γ,EnvOk K He O Fs H σ Γ/\match f Γ with
 | .ok p Γ'=>∀v H' G Fs',Aft K He O Fs H σ Γ' p v H' G Fs'->Q v H'
 | .er c Γ'=>∀H' Fs',Same H H'->EnvOk K He O Fs' H' σ Γ'->W c σ H'
 | .no=>False
def Wants (K:Fg) (W:XW) (He:Hp) (O:List Addr) (Fs:List (List Addr)) (H:Hp) (σ:St) (Q:VK) (o:Out PV):Prop:=match o with
 | .ok p Γ'=>∀v H' G Fs',Aft K He O Fs H σ Γ' p v H' G Fs'->Q v H'
 | .er c Γ'=>∀H' Fs',Same H H'->EnvOk K He O Fs' H' σ Γ'->W c σ H'
 | .no=>False
section
variable {K:Fg} {W:XW} {He H:Hp} {O:List Addr} {Fs:List (List Addr)} {σ:St} {Γ Γ':Ev} {Q:VK}
theorem Wants.scal {H2:Hp} {O2:List Addr} {Fs2:List (List Addr)} {v:V} {d:D} (h:Wants K W He O Fs H σ Q (.ok ⟨.leaf,d⟩ Γ')) (s:Sc v d) (e:Same H H2) (E:EnvOk K He O2 Fs2 H2 σ Γ')
  (hO:∀a∈O,a∈O2) (nd:O.Nodup) (new:∀a∈Fs2.flatten,a∈Fs.flatten\/H a=none):Q v H2:=
 h v H2 [] Fs2 ⟨e,by rw [nil_append];exact E.drop hO nd,by rw [nil_append];exact new,.leaf s.rep⟩
theorem EnvOk.ndO (E:EnvOk K He O Fs H σ Γ):O.Nodup:=(LX E.nd).1
end
def aK {β:Type} (f:F1) (k:PV->Ev->Out β):Ev->Out β:=fun Γ=>(f Γ).bind k
section
variable {K:Fg} {W:XW} {σ:St} {H:Hp} {Q:VK} {fa fb:F1}
theorem vX {k:PV->F1} {R:VK} (h:tE K W (aK fa k) σ H Q)
  (hk:∀He O Fs Γ1 p v H1 G Fs1,O.Nodup->Aft K He O Fs H σ Γ1 p v H1 G Fs1->Wants K W He O Fs H σ Q (k p Γ1)->R v H1):tE K W fa σ H R:=by
 obtain ⟨He,O,Fs,Γ,E,h⟩:=h;refine ⟨He,O,Fs,Γ,E,?_⟩
 unfold aK at h
 cases e:fa Γ with
 | ok p Γ1=>
  rw [e] at h;exact fun v H' G Fs' A=>hk He O Fs Γ1 p v H' G Fs' E.ndO A h
 | er c Γ1=>
  rw [e] at h;exact h
 | no=>
  rw [e] at h;exact h
theorem C7 {k:PV->PV->F1} {R:V->V->Hp->Prop} (h:tE K W (aK fa fun p=>aK fb fun q=>k p q) σ H Q)
  (hk:∀He O Fs Γ2 p q v u H1 H2 G1 G2 Fs2,O.Nodup->Same H H1->Same H1 H2->EnvOk K He (G2++(G1++O)) Fs2 H2 σ Γ2->(∀a∈G2++(G1++Fs2.flatten),a∈Fs.flatten\/H a=none) ->
   Own K (G2++(G1++O)++Fs2.flatten) H2 p.s G1 v p.d->Own K (G2++(G1++O)++Fs2.flatten) H2 q.s G2 u q.d->Wants K W He O Fs H σ Q (k p q Γ2)->R v u H2) :
  tE K W fa σ H fun v H1=>tE K W fb σ H1 fun u H2=>R v u H2:=by
 refine vX (k:=fun p=>aK fb fun q=>k p q) h fun He O Fs Γ1 p v H1 G1 Fs1 nd A1 h1=>?_
 refine ⟨He,G1++O,Fs1,Γ1,A1.env,?_⟩
 unfold aK at h1
 cases e:fb Γ1 with
 | ok q Γ2=>
  rw [e] at h1;intro u H2 G2 Fs2 A2;have new:∀a∈G2++(G1++Fs2.flatten),a∈Fs.flatten\/H a=none:=fun a ha=>by
   have up:a∈G1++Fs1.flatten->a∈Fs.flatten\/H a=none:=A1.new a
   rcases LP ha with z | z
   ·rcases A2.new a (LO _ z) with y | y
    ·exact up (LN _ y)
    ·exact .inr (A1.same.free y)
   ·rcases LP z with z | z
    ·exact up (LO _ z)
    ·rcases A2.new a (LN _ z) with y | y
     ·exact up (LN _ y)
     ·exact .inr (A1.same.free y)
  refine hk He O Fs Γ2 p q v u H1 H2 G1 G2 Fs2 nd A1.same A2.same A2.env new (A1.own.mono A2.same fun a ha=>?_) A2.own h1
  rcases LP ha with z | z
  ·rcases LP z with z | z
   ·rcases A2.new a (LO _ z) with y | y
    ·exact .inl (LN _ y)
    ·exact .inr y
   ·exact .inl (LO _ z)
  ·rcases A2.new a (LN _ z) with y | y
   ·exact .inl (LN _ y)
   ·exact .inr y
 | er c Γ2=>
  rw [e] at h1;intro H2 Fs2 hs E2;exact h1 H2 Fs2 (A1.same.trans hs) E2.dropL
 | no=>
  rw [e] at h1;exact h1
end
section
variable {X:Cx} {e:Expr}
theorem aR {t t':TE} (h:PE X e t) (i:∀σ H Q,t' σ H Q->t σ H Q):PE X e t':=fun pins s σ H Q I q=>h pins s σ H Q I (i σ H Q q)
theorem vE {t t':TT} (h:PT X e t) (i:∀σ H Q,t' σ H Q->t σ H Q):PT X e t':=fun pins s σ H Q I q=>h pins s σ H Q I (i σ H Q q)
theorem zT {t t':TT} (h:PW X e t) (i:∀σ H Q,t' σ H Q->t σ H Q):PW X e t':=fun whole pins s σ H Q I q=>h whole pins s σ H Q I (i σ H Q q)
theorem zU {es:List Expr} {t t':TA} (h:PA X es t) (i:∀σ H Q,t' σ H Q->t σ H Q):PA X es t':=fun pos pins s σ H Q I q=>h pos pins s σ H Q I (i σ H Q q)
theorem bN {st:Stmt} {t t':TS} (h:PS X st t) (i:∀D σ H,t' D σ H->t D σ H):PS X st t':=fun pins s σ H D I q=>h pins s σ H D I (i D σ H q)
theorem HI {st:List Stmt} {t t':TS} (h:PSs X st t) (i:∀D σ H,t' D σ H->t D σ H):PSs X st t':=fun pins s σ H D I q=>h pins s σ H D I (i D σ H q)
theorem FG {es:List Expr} {t t':TT} (h:PF X es t) (i:∀σ H Q,t' σ H Q->t σ H Q):PF X es t':=fun pins s σ H Q I q=>h pins s σ H Q I (i σ H Q q)
end
theorem Ju {h:Heap}:∀{vs:List V} {its:List Value} {ds:List D},Vals vs its->vs.length=ds.length->(∀(i:Nat) v d,vs[i]?=some v->ds[i]?=some d->∀u,RelV v u->∃as,Reads h u d as)->∃as,ReadsAll h its ds as
 | _,_,[],.nil,_,_=>⟨_,.nil⟩
 | _,_,d::ds,.cons (a:=v) (b:=u) r t,hl,h=>by
  obtain ⟨as,ra⟩:=h 0 v d rfl rfl u r;obtain ⟨bs,rb⟩:=Ju t (by simpa using hl) fun i v d h1 h2=>h (i+1) v d (by simpa using h1) (by simpa using h2)
  exact ⟨_,.cons ra rb⟩
 | _,_,[],.cons _ _,hl,_=>by simp at hl
 | _,_,_::_,.nil,hl,_=>by simp at hl
theorem Rep.reads {X:Cx} {pins:List (Addr×Obj)} {σ:St} {H:Hp} {s:Shared} {x:V} {d:D} (I:Inv X pins σ H s) (r:Rep X.K H x d):∀u,RelV x u->∃as,Reads s.heap u d as:=by
 induction r with
 | non=>rintro u rfl;exact ⟨_,.none⟩
 | bl b=>rintro u rfl;exact ⟨_,.bool b⟩
 | int i=>rintro u ⟨t,rfl⟩;exact ⟨_,.int i t⟩
 | str x=>rintro u ⟨t,rfl⟩;exact ⟨_,.str x t⟩
 | lst hq hl _ ih=>
  rintro u rfl
  obtain ⟨its,rv,⟨o,n,e1,e2,e3,e4⟩,_⟩:=I.list hq;obtain ⟨as,ra⟩:=Ju rv hl ih;exact ⟨_,.list e1 e2 e4 (by simpa using ra)⟩
 | tup hq hl _ ih=>
  rintro u rfl
  obtain ⟨its,rv,⟨o,e1,e2,n,e4⟩,_⟩:=I.tuple hq;obtain ⟨as,ra⟩:=Ju rv hl ih;exact ⟨_,.tuple e1 e2 e4 (by simpa using ra)⟩
theorem jG {α:Type} {F G:List α}:∀{Fs:List (List α)} {i:Nat},Fs[i]?=some F->(F++(Fs.set i G).flatten).Perm (G++Fs.flatten)
 | [],_,h=>by simp at h
 | A::r,0,h=>by
  simp at h
  subst h;simp only [List.set_cons_zero,flatten_cons]
  rw [<-append_assoc,<-append_assoc];exact List.Perm.append_right _ perm_append_comm
 | A::r,i+1,h=>by
  have ih:=jG (G:=G) (Fs:=r) (i:=i) (by simpa using h)
  simp only [List.set_cons_succ,flatten_cons]
  calc (F++(A++(r.set i G).flatten)).Perm (A++(F++(r.set i G).flatten)):=by
        rw [<-append_assoc,<-append_assoc];exact List.Perm.append_right _ perm_append_comm
    _ |>.Perm (A++(G++r.flatten)):=List.Perm.append_left _ ih
    _ |>.Perm (G++(A++r.flatten)):=by
        rw [<-append_assoc,<-append_assoc];exact List.Perm.append_right _ perm_append_comm
section
variable {K:Fg} {He H:Hp} {O G:List Addr} {Fs:List (List Addr)} {σ:St} {Γ:Ev}
theorem EnvOk.lt (E:EnvOk K He O Fs H σ Γ) {i:Nat} (h:i<Γ.length):∃F,Fs[i]?=some F:=⟨Fs[i]'(by rw [E.len2];exact h),LR _⟩
theorem EnvOk.move {i:Nat} {p:PV} (E:EnvOk K He O Fs H σ Γ) (h:Γ[i]?=some (some p)) :
  p.s.isView=false/\∃v F,σ[i]?=some (some v)/\EnvOk K He (F++O) (Fs.set i []) H σ (Γ.set i none)/\Own K (F++O++(Fs.set i []).flatten) H p.s F v p.d/\(∀a∈F++(Fs.set i []).flatten,a∈Fs.flatten):=by
 obtain ⟨hv,v,F,h1,h2,h3⟩:=E.slot i p h;have pm:(F++(Fs.set i []).flatten).Perm Fs.flatten:=by simpa using jG (G:=[]) h2
 have pm2:(F++O++(Fs.set i []).flatten).Perm (O++Fs.flatten):=by
  rw [append_assoc]
  calc (F++(O++(Fs.set i []).flatten)).Perm (O++(F++(Fs.set i []).flatten)):=by
        rw [<-append_assoc,<-append_assoc];exact List.Perm.append_right _ perm_append_comm
    _ |>.Perm (O++Fs.flatten):=List.Perm.append_left _ pm
 refine ⟨hv,v,F,h1,⟨by rw [length_set];exact E.len1,by rw [length_set,length_set];exact E.len2,E.same,pm2.nodup_iff.mpr E.nd,fun a ha=>E.inH a (pm2.mem_iff.mp ha),fun a ha=>E.fresh a (pm.mem_iff.mp (LN _ ha)),fun j q hq=>?_⟩,h3.mono (Same.refl _) fun a ha=>.inl (pm2.mem_iff.mp ha),fun a ha=>pm.mem_iff.mp ha⟩
 by_cases hj:j=i
 ·subst hj
  rw [List.getElem?_set] at hq;split at hq
  ·split at hq<;>cases hq
  ·rename_i z
   exact absurd rfl z
 ·rw [getElem?_set_ne (Ne.symm hj)] at hq
  obtain ⟨w1,v',F',e1,e2,e3⟩:=E.slot j q hq;exact ⟨w1,v',F',e1,by rw [getElem?_set_ne (Ne.symm hj)];exact e2,e3.mono (Same.refl _) fun a ha=>.inl (pm2.mem_iff.mp ha)⟩
theorem EnvOk.put {i:Nat} {p:PV} {v:V} (E:EnvOk K He (G++O) Fs H σ Γ) (ho:Own K (G++O++Fs.flatten) H p.s G v p.d) (hv:p.s.isView=false) (hn:∀a∈G,He a=none) (hi:i<Γ.length) :
  EnvOk K He O (Fs.set i G) H (σ.set i (some v)) (Γ.set i (some p)):=by
 obtain ⟨F,hF⟩:=E.lt hi;have pm:=jG (G:=G) hF
 have nd:=E.nd
 rw [append_assoc] at nd;have sub:∀a∈O++(Fs.set i G).flatten,a∈G++O++Fs.flatten:=fun a ha=>by
  rw [append_assoc];rcases LP ha with z | z
  ·exact LN _ (LO _ z)
  ·rcases LP (pm.mem_iff.mp (LN _ z)) with y | y
   ·exact LO _ y
   ·exact LN _ (LN _ y)
 refine ⟨by rw [length_set,length_set];exact E.len1,by rw [length_set,length_set];exact E.len2,E.same,?_,fun a ha=>E.inH a (sub a ha),fun a ha=>?_,fun j q hq=>?_⟩
 ·have p1:(O++(F++(Fs.set i G).flatten)).Perm (G++(O++Fs.flatten)):=by
   calc (O++(F++(Fs.set i G).flatten)).Perm (O++(G++Fs.flatten)):=List.Perm.append_left _ pm
     _ |>.Perm (G++(O++Fs.flatten)):=by
       rw [<-append_assoc,<-append_assoc];exact List.Perm.append_right _ perm_append_comm
  have p2:=p1.nodup_iff.mpr nd
  refine p2.sublist ?_
  exact List.Sublist.append_left (List.sublist_append_right _ _) _
 ·rcases LP (pm.mem_iff.mp (LN _ ha)) with y | y
  ·exact hn a y
  ·exact E.fresh a y
 ·by_cases hj:j=i
  ·subst hj
   rw [getElem?_set_self hi] at hq
   cases hq;refine ⟨hv,v,G,?_,?_,ho.mono (Same.refl _) fun a ha=>.inl (sub a ha)⟩
   ·rw [getElem?_set_self (by rw [E.len1];exact hi)]
   ·rw [getElem?_set_self (by rw [E.len2];exact hi)]
  ·rw [getElem?_set_ne (Ne.symm hj)] at hq
   obtain ⟨w1,v',F',e1,e2,e3⟩:=E.slot j q hq;exact ⟨w1,v',F',by rw [getElem?_set_ne (Ne.symm hj)];exact e1,by rw [getElem?_set_ne (Ne.symm hj)];exact e2,e3.mono (Same.refl _) fun a ha=>.inl (sub a ha)⟩
theorem Aft.freshG {Γ':Ev} {p:PV} {v:V} {H':Hp} {Fs':List (List Addr)} (E:EnvOk K He O Fs H σ Γ) (A:Aft K He O Fs H σ Γ' p v H' G Fs'):∀a∈G,He a=none:=fun a ha=>by
 rcases A.new a (LO _ ha) with z | z
 ·exact E.fresh a z
 ·exact E.same.free z
end
def ae (i:Nat):F1:=fun Γ=>match Γ[i]? with
 | some (some p)=>(match p.s with
  | .leaf=>.ok ⟨.leaf,p.d⟩ Γ
  | _=>.ok ⟨.view,p.d⟩ Γ)
 | _=>.no
def bx (i:Nat):F1:=fun Γ=>match Γ[i]? with
 | some (some p)=>.ok p (Γ.set i none)
 | _=>.no
def eK (d:D):F1:=fun Γ=>.ok ⟨.leaf,d⟩ Γ
section
variable {X:Cx} {W:XW} {i:Nat} {e:Expr} {pos:Pos}
theorem A5 {K:Fg} {σ:St} {H:Hp} {Q:VK} (h:tE K W (ae i) σ H Q):bI i σ H Q:=by
 obtain ⟨He,O,Fs,Γ,E,h⟩:=h;unfold ae at h
 cases e:Γ[i]? with
 | none=>rw [e] at h;exact h.elim
 | some o=>
  rw [e] at h
  cases o with
  | none=>exact h.elim
  | some p=>
   obtain ⟨hv,v,F,h1,h2,h3⟩:=E.slot i p e;obtain ⟨s,d⟩:=p;have new:∀a∈[]++Fs.flatten,a∈Fs.flatten\/H a=none:=fun a ha=>.inl (by simpa using ha)
   cases s with
   | leaf=>
    cases h3 with
    | leaf r=>exact ⟨v,h1,h v H [] Fs ⟨Same.refl _,by simpa using E,new,.leaf r⟩⟩
   | view=>cases hv
   | lst s=>exact ⟨v,h1,h v H [] Fs ⟨Same.refl _,by simpa using E,new,.view h3.rep⟩⟩
   | tup ss=>exact ⟨v,h1,h v H [] Fs ⟨Same.refl _,by simpa using E,new,.view h3.rep⟩⟩
theorem xk {K:Fg} {σ:St} {H:Hp} {Q:VK} (h:tE K W (bx i) σ H Q):bI i σ H Q:=by
 obtain ⟨He,O,Fs,Γ,E,h⟩:=h;unfold bx at h
 cases e:Γ[i]? with
 | none=>rw [e] at h;exact h.elim
 | some o=>
  rw [e] at h
  cases o with
  | none=>exact h.elim
  | some p=>
   obtain ⟨hv,v,F,h1,E',o',sub⟩:=E.move e;exact ⟨v,h1,h v H F (Fs.set i []) ⟨Same.refl _,E',fun a ha=>.inl (sub a ha),o'⟩⟩
theorem CT (h:PE X e (bI i)):PE X e (tE X.K W (ae i)):=aR h fun _ _ _=>A5
theorem yB (h:PE X e (bI i)):PE X e (tE X.K W (bx i)):=aR h fun _ _ _=>xk
theorem tq {K:Fg} {σ:St} {H:Hp} {Q:VK} {v:V} {d:D} (hs:∀H,Rep K H v d) (h:tE K W (eK d) σ H Q):Q v H:=by
 obtain ⟨He,O,Fs,Γ,E,h⟩:=h;exact h v H [] Fs ⟨Same.refl _,by simpa using E,fun a ha=>.inl (by simpa using ha),.leaf (hs _)⟩
theorem yC {x:Str} {v:V} {u:Value} {d:D} (hg:Gl X x) (hm:X.mg x=some u) (r:RelV v u) (hr:∀H,Rep X.K H v d) (hd:(x==("__debug__":Str))=false:=by decide):PE X (.Name x pos) (tE X.K W (eK d)):=
 aR (xH hg hm r hd) fun _ _ _=>tq hr
end
def az (g:D->D->Option D) (fa fb:F1):F1:=aK fa fun p=>aK fb fun q=>fun Γ=>match g p.d q.d with
 | some d=>.ok ⟨.leaf,d⟩ Γ
 | none=>.no
def GOp (K:Fg) (r:R2) (g:D->D->Option D):Prop:=∀x y H Q a b d,Rep K H x a->Rep K H y b->g a b=some d->(∀v,Sc v d->Q v H)->r x y H Q
section
variable {K:Fg} {W:XW} {σ:St} {H:Hp} {Q:VK} {fa fb:F1} {r:R2} {g:D->D->Option D}
theorem eD (hg:GOp K r g) (h:tE K W (az g fa fb) σ H Q):wK r (tE K W fa) (tE K W fb) σ H Q:=by
 refine C7 h ?_
 intro He O Fs Γ2 p q v u H1 H2 G1 G2 Fs2 nd s1 s2 E new o1 o2 w
 cases e:g p.d q.d with
 | none=>rw [e] at w;exact w.elim
 | some d=>
  rw [e] at w;exact hg v u H2 Q p.d q.d d o1.rep o2.rep e fun z s=>w.scal s (s1.trans s2) E (fun a ha=>LN _ (LN _ ha)) nd fun a ha=>new a (LN _ (LN _ ha))
end
theorem GOp.or {K:Fg} {r r':R2} {g g':D->D->Option D} (h:GOp K r g) (h':GOp K r' g'):GOp K (fun x y H Q=>r x y H Q\/r' x y H Q) (fun a b=>(g a b).or (g' a b)):=by
 intro x y H Q a b d ra rb e k;have e:(g a b).or (g' a b)=some d:=e
 cases e1:g a b with
 | some z=>rw [e1] at e;cases e;exact .inl (h x y H Q a b _ ra rb e1 k)
 | none=>rw [e1] at e;exact .inr (h' x y H Q a b d ra rb (by simpa using e) k)
def gI (C:Int->Int->Bool) (f:Int->Int->D):D->D->Option D
 | .int i,.int j=>if C i j then some (f i j) else none
 | _,_=>none
theorem oS {K:Fg} {C:Int->Int->Prop} {C':Int->Int->Bool} {g:Int->Int->V} {f:Int->Int->D} (hC:∀i j,C' i j=true->C i j) (hs:∀i j,Sc (g i j) (f i j)):GOp K (rI C g) (gI C' f):=by
 intro x y H Q a b d ra rb e k
 cases ra<;>cases rb<;>simp only [gI] at e<;>try cases e
 rename_i i j;split at e
 ·rename_i c
  cases e;exact ⟨i,j,rfl,rfl,hC i j c,k _ (hs i j)⟩
 ·cases e
def zN (f:Int->Int->D):D->D->Option D
 | .int i,.int j=>some (f i j)
 | _,_=>none
theorem Dc {K:Fg} {g:Int->Int->V} {f:Int->Int->D} (hs:∀i j,Sc (g i j) (f i j)):GOp K (oo g) (zN f):=by
 intro x y H Q a b d ra rb e k
 cases ra<;>cases rb<;>simp only [zN] at e<;>try cases e
 rename_i i j;exact ⟨i,j,rfl,rfl,k _ (hs i j)⟩
abbrev gSub:=zN fun i j=>.int (i-j)
abbrev aJ:=zN fun i j=>.int (i+j)
def rl (i j:Int):Bool:=(decide (-(2 ^ 64)<i)&&decide (i<2 ^ 64))||(decide (-(2 ^ 64)<j)&&decide (j<2 ^ 64))
abbrev kP:=gI rl fun i j=>.int (i*j)
def yO (_ j:Int):Bool:=decide (0<j)&&decide (j<1073741824)
abbrev u5:=gI yO fun i j=>.int (i / j)
def yN (_ j:Int):Bool:=decide (0<j)
abbrev b8:=gI yN fun i j=>.int (i % j)
def yM (i j:Int):Bool:=decide (0<=j)&&decide (j<=1000000)&&decide (i.natAbs<2 ^ 64)
abbrev yp:=gI yM fun i j=>.int (i ^ j.toNat)
mutual
def Sh.same:Sh->Sh->Bool
 | .view,.view=>true
 | .leaf,.leaf=>true
 | .lst a,.lst b=>Sh.same a b
 | .tup as,.tup bs=>Sh.sameL as bs
 | _,_=>false
def Sh.sameL:List Sh->List Sh->Bool
 | [],[]=>true
 | a::as,b::bs=>Sh.same a b&&Sh.sameL as bs
 | _,_=>false
end
mutual
theorem Sh.same_eq:∀{a b:Sh},Sh.same a b=true->a=b
 | .view,.view,_=>rfl
 | .leaf,.leaf,_=>rfl
 | .lst a,.lst b,h=>by rw [Sh.same_eq (a:=a) (b:=b) (by simpa [Sh.same] using h)]
 | .tup as,.tup bs,h=>by rw [Sh.sameL_eq (as:=as) (bs:=bs) (by simpa [Sh.same] using h)]
 | .view,.leaf,h=>by simp [Sh.same] at h
 | .view,.lst _,h=>by simp [Sh.same] at h
 | .view,.tup _,h=>by simp [Sh.same] at h
 | .leaf,.view,h=>by simp [Sh.same] at h
 | .leaf,.lst _,h=>by simp [Sh.same] at h
 | .leaf,.tup _,h=>by simp [Sh.same] at h
 | .lst _,.view,h=>by simp [Sh.same] at h
 | .lst _,.leaf,h=>by simp [Sh.same] at h
 | .lst _,.tup _,h=>by simp [Sh.same] at h
 | .tup _,.view,h=>by simp [Sh.same] at h
 | .tup _,.leaf,h=>by simp [Sh.same] at h
 | .tup _,.lst _,h=>by simp [Sh.same] at h
theorem Sh.sameL_eq:∀{as bs:List Sh},Sh.sameL as bs=true->as=bs
 | [],[],_=>rfl
 | a::as,b::bs,h=>by
  have h:Sh.same a b=true/\Sh.sameL as bs=true:=by simpa [Sh.sameL] using h
  rw [Sh.same_eq h.1,Sh.sameL_eq h.2]
 | [],_::_,h=>by simp [Sh.sameL] at h
 | _::_,[],h=>by simp [Sh.sameL] at h
end
def coer (s:Sh) (p:PV):Bool:=match s with
 | .leaf=>!p.s.isView||aZ p.d
 | .view=>false
 | s=>Sh.same s p.s
def aG (s:Sh) (G:List Addr):List Addr:=match s with
 | .leaf=>[]
 | _=>G
theorem Jd {s:Sh} {G:List Addr} {a:Addr} (h:a∈aG s G):a∈G:=by
 unfold aG at h;split at h
 ·simp at h
 ·exact h
theorem Own.coer {K:Fg} {O O':List Addr} {H:Hp} {s:Sh} {p:PV} {G:List Addr} {v:V} (h:Own K O H p.s G v p.d) (c:coer s p=true) (h1:∀a∈O',a∈O) (h2:∀a∈G,a∈O'->a∈aG s G):Own K O' H s (aG s G) v p.d:=by
 cases s with
 | view=>simp [T.coer] at c
 | leaf=>
  show Own K O' H .leaf [] v p.d
  have c:(!p.s.isView||aZ p.d)=true:=c
  cases hv:p.s.isView with
  | false=>exact .leaf (h.freeze hv h1 fun a ha z=>by simpa [aG] using h2 a ha z)
  | true=>
   rw [hv] at c;exact .leaf (h.rep.sc (by simpa using c)).rep
 | lst s=>
  have e:Sh.lst s=p.s:=Sh.same_eq c
  show Own K O' H (.lst s) G v p.d
  rw [e];exact h.mono (Same.refl _) fun a ha=>.inl (h1 a ha)
 | tup ss=>
  have e:Sh.tup ss=p.s:=Sh.same_eq c
  show Own K O' H (.tup ss) G v p.d
  rw [e];exact h.mono (Same.refl _) fun a ha=>.inl (h1 a ha)
open PySem.SeqAt in
def bE:D->D->Option D:=fun a b=>if shaped a&&shaped b then some (.bool (PyData.eqv a b)) else none
open PySem.SeqAt in
def qE:D->D->Option D:=fun a b=>if shaped a&&shaped b then some (.bool (!PyData.eqv a b)) else none
open PySem.SeqAt in
def qa (K:Fg) (neg:Bool):R2:=fun x y H Q=>∃a b,Rep K H x a/\Rep K H y b/\shaped a=true/\shaped b=true/\Q (.bl (if neg then !PyData.eqv a b else PyData.eqv a b)) H
section
variable {X:Cx}
theorem B3 (hu:X.A.units+64<cLine):OpR X (compareOp .Eq) (qa X.K false):=by
 intro pins s σ H x y v u Q I rx ry h;obtain ⟨a,b,ra,rb,sa,sb,q⟩:=h;obtain ⟨as,r1⟩:=ra.reads I v rx;obtain ⟨bs,r2⟩:=rb.reads I u ry;exact SeqAt.compareEq_shaped r1 r2 sa sb hu ⟨.bl _,H,I,rfl,q⟩
theorem BY (hu:X.A.units+64<cLine):OpR X (compareOp .NotEq) (qa X.K true):=by
 intro pins s σ H x y v u Q I rx ry h;obtain ⟨a,b,ra,rb,sa,sb,q⟩:=h;obtain ⟨as,r1⟩:=ra.reads I v rx;obtain ⟨bs,r2⟩:=rb.reads I u ry;exact SeqAt.compareNe_shaped r1 r2 sa sb hu ⟨.bl _,H,I,rfl,q⟩
end
theorem CB {K:Fg}:GOp K (qa K false) bE:=by
 intro x y H Q a b d ra rb e k;unfold bE at e;split at e
 ·rename_i c
  cases e;simp only [Bool.and_eq_true] at c
  exact ⟨a,b,ra,rb,c.1,c.2,k _ (.bl _)⟩
 ·cases e
theorem Cy {K:Fg}:GOp K (qa K true) qE:=by
 intro x y H Q a b d ra rb e k;unfold qE at e;split at e
 ·rename_i c
  cases e;simp only [Bool.and_eq_true] at c
  exact ⟨a,b,ra,rb,c.1,c.2,k _ (.bl _)⟩
 ·cases e
def CF:D->D->Option D
 | .str i,.str j=>some (.bool (decide (i.cps.toList<j.cps.toList)))
 | _,_=>none
abbrev Kr:=zN fun i j=>.bool (decide (i<j))
abbrev iN:D->D->Option D:=fun a b=>(Kr a b).or (CF a b)
abbrev DE:=zN fun i j=>.bool (decide (i<=j))
abbrev qG:=zN fun i j=>.bool (decide (j<i))
abbrev LD:=zN fun i j=>.bool (decide (j<=i))
theorem yh {K:Fg}:GOp K (fun x y H Q=>∃i j,x=.str i/\y=.str j/\Q (.bl (decide (i.cps.toList<j.cps.toList))) H) CF:=by
 intro x y H Q a b d ra rb e k
 cases ra<;>cases rb<;>simp only [CF] at e<;>try cases e
 rename_i i j;exact ⟨i,j,rfl,rfl,k _ (.bl _)⟩
theorem Cz {K:Fg}:GOp K (fun x y H Q=>oo (fun i j=>.bl (decide (i<j))) x y H Q\/∃i j,x=.str i/\y=.str j/\Q (.bl (decide (i.cps.toList<j.cps.toList))) H) iN:=
 (Dc fun _ _=>.bl _).or yh
open PySem.SeqAt in
def bh (neg:Bool):D->D->Option D
 | a,.list xs=>if shaped a&&shaped (.list xs) then some (.bool (if neg then !xs.any fun y=>PyData.eqv y a else xs.any fun y=>PyData.eqv y a)) else none
 | a,.tuple xs=>if shaped a&&shaped (.tuple xs) then some (.bool (if neg then !xs.any fun y=>PyData.eqv y a else xs.any fun y=>PyData.eqv y a)) else none
 | _,_=>none
def tN (K:Fg) (neg:Bool):R2:=fun x y H Q=>∃a b d,Rep K H x a/\Rep K H y b/\bh neg a b=some (.bool d)/\Q (.bl d) H
theorem uZ {K:Fg} {neg:Bool}:GOp K (tN K neg) (bh neg):=by
 intro x y H Q a b d ra rb e k;have:∃c,d=.bool c:=by
  cases b<;>simp only [bh] at e<;>(try cases e)<;>(split at e<;>cases e<;>exact ⟨_,rfl⟩)
 obtain ⟨c,rfl⟩:=this;exact ⟨a,b,c,ra,rb,e,k _ (.bl c)⟩
theorem GQ {d:D} {xs:List D} (h:SeqAt.shaped d=true) (e:d=.list xs\/d=.tuple xs):PyData.canLayAll0 xs=true/\PyData.depthAll xs+1<=64:=by
 have h1:=SeqAt.canLay_of_shaped h
 have h2:=SeqAt.depth_of_shaped h
 rcases e with e | e<;>subst e<;>exact ⟨by simpa [PyData.canLay0] using h1,by simpa [PyData.depth] using h2⟩
section
variable {X:Cx}
theorem B2 (hu:X.A.units+64<cLine):OpR X (compareOp .In) (tN X.K false):=by
 intro pins s σ H x y v u Q I rx ry h;obtain ⟨a,b,d,ra,rb,e,q⟩:=h;obtain ⟨as,r1⟩:=ra.reads I v rx;obtain ⟨bs,r2⟩:=rb.reads I u ry
 cases b<;>simp only [bh] at e<;>try cases e
 all_goals
  split at e
  ·rename_i c
   simp only [Bool.and_eq_true] at c
   simp only [Option.some.injEq,PyData.bool.injEq] at e
   subst e;first
    | (obtain ⟨p1,p2⟩:=GQ c.2 (.inl rfl)
       exact SeqAt.in_list_reads r2 r1 p1 (SeqAt.canLay_of_shaped c.1) (Nat.lt_of_le_of_lt (by have:=Nat.min_le_left (PyData.depthAll ‹_›) a.depth;omega) hu) ⟨.bl _,H,I,rfl,q⟩)
    | (obtain ⟨p1,p2⟩:=GQ c.2 (.inr rfl)
       exact SeqAt.in_tuple_reads r2 r1 p1 (SeqAt.canLay_of_shaped c.1) (Nat.lt_of_le_of_lt (by have:=Nat.min_le_left (PyData.depthAll ‹_›) a.depth;omega) hu) ⟨.bl _,H,I,rfl,q⟩)
  ·cases e
theorem qg (hu:X.A.units+64<cLine):OpR X (compareOp .NotIn) (tN X.K true):=by
 intro pins s σ H x y v u Q I rx ry h;obtain ⟨a,b,d,ra,rb,e,q⟩:=h;obtain ⟨as,r1⟩:=ra.reads I v rx;obtain ⟨bs,r2⟩:=rb.reads I u ry
 cases b<;>simp only [bh] at e<;>try cases e
 all_goals
  split at e
  ·rename_i c
   simp only [Bool.and_eq_true] at c
   simp only [Option.some.injEq,PyData.bool.injEq] at e
   subst e;first
    | (obtain ⟨p1,p2⟩:=GQ c.2 (.inl rfl)
       exact SeqAt.notIn_list_reads r2 r1 p1 (SeqAt.canLay_of_shaped c.1) (Nat.lt_of_le_of_lt (by have:=Nat.min_le_left (PyData.depthAll ‹_›) a.depth;omega) hu) ⟨.bl _,H,I,rfl,q⟩)
    | (obtain ⟨p1,p2⟩:=GQ c.2 (.inr rfl)
       exact SeqAt.notIn_tuple_reads r2 r1 p1 (SeqAt.canLay_of_shaped c.1) (Nat.lt_of_le_of_lt (by have:=Nat.min_le_left (PyData.depthAll ‹_›) a.depth;omega) hu) ⟨.bl _,H,I,rfl,q⟩)
  ·cases e
end
def WantsB (K:Fg) (W:XW) (He:Hp) (O:List Addr) (Fs:List (List Addr)) (H:Hp) (σ:St) (Q:Bool->Hp->Prop) (o:Out Bool):Prop:=match o with
 | .ok b Γ'=>∀H' Fs',Same H H'->EnvOk K He O Fs' H' σ Γ'->(∀a∈Fs'.flatten,a∈Fs.flatten\/H a=none)->Q b H'
 | .er c Γ'=>∀H' Fs',Same H H'->EnvOk K He O Fs' H' σ Γ'->W c σ H'
 | .no=>False
abbrev FB:=Ev->Out Bool
def tT (K:Fg) (W:XW) (f:FB):TT:=fun σ H Q=>∃He O Fs Γ,EnvOk K He O Fs H σ Γ/\WantsB K W He O Fs H σ Q (f Γ)
section
variable {K:Fg} {W:XW} {He H H1:Hp} {O:List Addr} {Fs Fs1:List (List Addr)} {σ:St} {Γ Γ':Ev} {Q:VK} {QB:Bool->Hp->Prop}
theorem Wants.after {o:Out PV} (h:Wants K W He O Fs H σ Q o) (s:Same H H1) (n:∀a∈Fs1.flatten,a∈Fs.flatten\/H a=none):Wants K W He O Fs1 H1 σ Q o:=by
 cases o with
 | ok p Γ'=>exact fun v H' G Fs' A=>h v H' G Fs' ⟨s.trans A.same,A.env,fun a ha=>(A.new a ha).elim (n a) fun z=>.inr (s.free z),A.own⟩
 | er c Γ'=>exact fun H' Fs' e E=>h H' Fs' (s.trans e) E
 | no=>exact h
theorem WantsB.after {o:Out Bool} (h:WantsB K W He O Fs H σ QB o) (s:Same H H1) (n:∀a∈Fs1.flatten,a∈Fs.flatten\/H a=none):WantsB K W He O Fs1 H1 σ QB o:=by
 cases o with
 | ok p Γ'=>exact fun H' Fs' e E n'=>h H' Fs' (s.trans e) E fun a ha=>(n' a ha).elim (n a) fun z=>.inr (s.free z)
 | er c Γ'=>exact fun H' Fs' e E=>h H' Fs' (s.trans e) E
 | no=>exact h
theorem Aft.go {p:PV} {v:V} {G:List Addr} (A:Aft K He O Fs H σ Γ' p v H1 G Fs1):EnvOk K He O Fs1 H1 σ Γ':=A.env.dropL
theorem Aft.newF {p:PV} {v:V} {G:List Addr} (A:Aft K He O Fs H σ Γ' p v H1 G Fs1):∀a∈Fs1.flatten,a∈Fs.flatten\/H a=none:=fun a ha=>A.new a (LN _ ha)
end
section
variable {K:Fg} {W:XW} {σ:St} {H:Hp} {Q:VK} {QB:Bool->Hp->Prop} {fa fb fc:F1} {ga gb:FB}
def aP (g:D->Option Bool) (f:F1):FB:=fun Γ=>(f Γ).bind fun p Γ'=>match g p.d with
 | some b=>.ok b Γ'
 | none=>.no
theorem nU {g:D->Option Bool} {R:VK} (h:tT K W (aP g fa) σ H QB) (hR:∀v d b H1,Rep K H1 v d->g d=some b->QB b H1->R v H1):tE K W fa σ H R:=by
 obtain ⟨He,O,Fs,Γ,E,h⟩:=h;refine ⟨He,O,Fs,Γ,E,?_⟩
 unfold aP at h
 cases e:fa Γ with
 | ok p Γ'=>
  rw [e] at h;intro v H' G Fs' A
  have h:WantsB K W He O Fs H σ QB (match g p.d with | some b=>.ok b Γ' | none=>.no):=h
  cases e2:g p.d with
  | some b=>
   rw [e2] at h;exact hR v p.d b H' A.own.rep e2 (h H' Fs' A.same A.go A.newF)
  | none=>rw [e2] at h;exact h.elim
 | er c Γ'=>rw [e] at h;exact h
 | no=>rw [e] at h;exact h
def av:D->Option Bool
 | .bool b=>some b
 | _=>none
theorem xf {t:TE} (hi:∀Q,tE K W fa σ H Q->t σ H Q) (h:tT K W (aP av fa) σ H QB):zp t σ H QB:=by
 refine hi _ (nU h fun v d b H1 r e q=>?_)
 cases r<;>simp only [av] at e<;>try cases e
 exact ⟨_,rfl,q⟩
def bu:D->Option Bool
 | .none=>some false
 | .bool b=>some b
 | .int i=>some (i != 0)
 | .str x=>if x.length<=sizeLine then some ((x.length:Int) != 0) else none
 | .list xs=>some (!xs.isEmpty)
 | .tuple xs=>some (!xs.isEmpty)
 | .dict _=>none
theorem A7 (h:tT K W (aP bu fa) σ H QB):tE K W fa σ H fun x H'=>∃k,CZ K x H' k/\QB k H':=by
 refine nU h fun v d b H1 r e q=>?_
 cases r with
 | non=>cases e;exact ⟨_,rfl,q⟩
 | bl c=>cases e;exact ⟨_,rfl,q⟩
 | int i=>cases e;exact ⟨_,rfl,q⟩
 | str x=>
  simp only [bu] at e
  split at e
  ·rename_i z;cases e;exact ⟨_,⟨z,rfl⟩,q⟩
  ·cases e
 | @lst p vs ds hq hl _=>
  cases e;exact ⟨_,.inl ⟨vs,hq,by cases vs<;>cases ds<;>simp_all⟩,q⟩
 | @tup p vs ds hq hl _=>
  cases e;exact ⟨_,.inr (.inl ⟨vs,hq,by cases vs<;>cases ds<;>simp_all⟩),q⟩
def d9 (a b:FB):FB:=fun Γ=>(a Γ).bind fun c Γ'=>if c then b Γ' else .ok false Γ'
def jC (a b:FB):FB:=fun Γ=>(a Γ).bind fun c Γ'=>if c then .ok true Γ' else b Γ'
def du (a:FB):FB:=fun Γ=>(a Γ).bind fun c Γ'=>.ok (!c) Γ'
theorem IA {k:Bool->Ev->Out Bool} {R:Bool->Hp->Prop} (h:tT K W (fun Γ=>(ga Γ).bind k) σ H QB)
  (hk:∀(He:Hp) (O:List Addr) Γ1 b H1 Fs1,Same H H1->EnvOk K He O Fs1 H1 σ Γ1->WantsB K W He O Fs1 H1 σ QB (k b Γ1)->R b H1):tT K W ga σ H R:=by
 obtain ⟨He,O,Fs,Γ,E,h⟩:=h;have h:WantsB K W He O Fs H σ QB ((ga Γ).bind k):=h
 refine ⟨He,O,Fs,Γ,E,?_⟩
 cases e:ga Γ with
 | ok b Γ1=>rw [e] at h;exact fun H' Fs' s E' n=>hk He O Γ1 b H' Fs' s E' (WantsB.after (o:=k b Γ1) h s n)
 | er c Γ1=>rw [e] at h;exact h
 | no=>rw [e] at h;exact h
theorem WantsB.now {He:Hp} {O:List Addr} {Fs:List (List Addr)} {Γ:Ev} {b:Bool} (h:WantsB K W He O Fs H σ QB (.ok b Γ)) (E:EnvOk K He O Fs H σ Γ):QB b H:=h H Fs (Same.refl _) E fun _ z=>.inl z
theorem xw (h:tT K W (d9 ga gb) σ H QB):Et (tT K W ga) (tT K W gb) σ H QB:=by
 refine IA h fun He O Γ1 b H1 Fs1 s E w=>?_
 cases b with
 | true=>exact jl ⟨He,O,Fs1,Γ1,E,w⟩
 | false=>exact jm (WantsB.now w E)
theorem Bp (h:tT K W (jC ga gb) σ H QB):K1 (tT K W ga) (tT K W gb) σ H QB:=by
 refine IA h fun He O Γ1 b H1 Fs1 s E w=>?_
 cases b with
 | false=>exact jm ⟨He,O,Fs1,Γ1,E,w⟩
 | true=>exact jl (WantsB.now w E)
theorem xv (h:tT K W (du ga) σ H QB):En (tT K W ga) σ H QB:=IA h fun He O Γ1 b H1 Fs1 s E w=>WantsB.now w E
def d7 (fa fb:F1):F1:=aK fa fun p Γ=>match p.d with
 | .bool true=>fb Γ
 | .bool false=>.ok ⟨.leaf,.bool false⟩ Γ
 | _=>.no
def yx (fa:F1):F1:=aK fa fun p Γ=>match p.d with
 | .bool b=>.ok ⟨.leaf,.bool (!b)⟩ Γ
 | _=>.no
theorem Br (h:tE K W (d7 fa fb) σ H Q):zu (tE K W fa) (tE K W fb) σ H Q:=by
 refine vX h fun He O Fs Γ1 p v H1 G Fs1 nd A w=>?_
 have r:=A.own.rep
 obtain ⟨s,d⟩:=p
 cases r with
 | bl b=>
  cases b with
  | true=>exact ⟨true,rfl,jl ⟨He,O,Fs1,Γ1,A.go,Wants.after w A.same A.newF⟩⟩
  | false=>exact ⟨false,rfl,jm (Wants.scal w (.bl false) A.same A.env (fun a ha=>LN _ ha) nd A.newF)⟩
 | _=>exact w.elim
theorem Bc (h:tE K W (yx fa) σ H Q):zt (tE K W fa) σ H Q:=by
 refine vX h fun He O Fs Γ1 p v H1 G Fs1 nd A w=>?_
 have r:=A.own.rep
 obtain ⟨s,d⟩:=p
 cases r with
 | bl b=>exact ⟨b,rfl,Wants.scal w (.bl _) A.same A.env (fun a ha=>LN _ ha) nd A.newF⟩
 | _=>exact w.elim
def rF (c:FB) (fa fb:F1):F1:=fun Γ=>(c Γ).bind fun b Γ'=>if b then fa Γ' else fb Γ'
theorem EB (h:tE K W (rF ga fa fb) σ H Q):K4 (tT K W ga) (tE K W fa) (tE K W fb) σ H Q:=by
 obtain ⟨He,O,Fs,Γ,E,h⟩:=h;refine ⟨He,O,Fs,Γ,E,?_⟩
 unfold rF at h
 cases e:ga Γ with
 | ok b Γ1=>
  rw [e] at h;intro H' Fs' s E' n
  have h':=Wants.after (o:=if b then fa Γ1 else fb Γ1) h s n
  cases b with
  | true=>exact jl ⟨He,O,Fs',Γ1,E',h'⟩
  | false=>exact jm ⟨He,O,Fs',Γ1,E',h'⟩
 | er c Γ1=>rw [e] at h;exact h
 | no=>rw [e] at h;exact h
def yZ (g g':D->D->Option D) (fa fb fc:F1):F1:=aK fa fun p=>aK fb fun q=>fun Γ=>match g p.d q.d with
 | some (.bool true)=>if aZ q.d then (fc Γ).bind fun z Γ'=>(match g' q.d z.d with | some d=>.ok ⟨.leaf,d⟩ Γ' | none=>.no) else .no
 | some (.bool false)=>.ok ⟨.leaf,.bool false⟩ Γ
 | _=>.no
theorem tx {r r':R2} {g g':D->D->Option D} (hg:GOp K r g) (hg':GOp K r' g') (h:tE K W (yZ g g' fa fb fc) σ H Q):sE r r' (tE K W fa) (tE K W fb) (tE K W fc) σ H Q:=by
 refine C7 h ?_
 intro He O Fs Γ2 p q v u H1 H2 G1 G2 Fs2 nd s1 s2 E new o1 o2 w;have sub:∀a∈O,a∈G2++(G1++O):=fun a ha=>LN _ (LN _ ha)
 have newF:∀a∈Fs2.flatten,a∈Fs.flatten\/H a=none:=fun a ha=>new a (LN _ (LN _ ha))
 cases e:g p.d q.d with
 | none=>rw [e] at w;exact w.elim
 | some d=>
  rw [e] at w;refine hg v u H2 _ p.d q.d d o1.rep o2.rep e fun z s=>?_
  cases s with
  | bl b=>
   cases b with
   | false=>exact ⟨false,rfl,jm (Wants.scal w (.bl false) (s1.trans s2) E sub nd newF)⟩
   | true=>
    refine ⟨true,rfl,jl ?_⟩
    have w:Wants K W He O Fs H σ Q (if aZ q.d then (fc Γ2).bind fun z Γ'=>(match g' q.d z.d with | some d=>.ok ⟨.leaf,d⟩ Γ' | none=>.no) else .no):=w
    cases hs:aZ q.d with
    | false=>rw [hs] at w;exact w.elim
    | true=>
     rw [hs] at w;have w:Wants K W He O Fs H σ Q ((fc Γ2).bind fun z Γ'=>(match g' q.d z.d with | some d=>.ok ⟨.leaf,d⟩ Γ' | none=>.no)):=w
     have su:=o2.rep.sc hs
     refine ⟨He,O,Fs2,Γ2,E.drop sub nd,?_⟩
     cases e3:fc Γ2 with
     | ok p3 Γ3=>
      rw [e3] at w;intro v3 H3 G3 Fs3 A3;have w:Wants K W He O Fs H σ Q (match g' q.d p3.d with | some d=>.ok ⟨.leaf,d⟩ Γ3 | none=>.no):=w
      cases e4:g' q.d p3.d with
      | none=>rw [e4] at w;exact w.elim
      | some d4=>
       rw [e4] at w;exact hg' u v3 H3 Q q.d p3.d d4 su.rep A3.own.rep e4 fun z s=>Wants.scal w s ((s1.trans s2).trans A3.same) A3.env (fun a ha=>LN _ ha) nd fun a ha=>(A3.new a (LN _ ha)).elim (newF a) fun z=>.inr ((s1.trans s2).free z)
     | er c Γ3=>
      rw [e3] at w;exact fun H' Fs' s E'=>w H' Fs' ((s1.trans s2).trans s) E'
     | no=>rw [e3] at w;exact w
  | non=>exact w.elim
  | int i=>exact w.elim
  | str x=>exact w.elim
end
structure AftL (K:Fg) (He:Hp) (O:List Addr) (Fs:List (List Addr)) (H:Hp) (σ:St) (Γ':Ev) (ps:List PV) (vs:List V) (H':Hp) (Gs Fs':List (List Addr)):Prop where
 same:Same H H'
 len1:vs.length=ps.length
 len2:Gs.length=ps.length
 env:EnvOk K He (Gs.flatten++O) Fs' H' σ Γ'
 new:∀a∈Gs.flatten++Fs'.flatten,a∈Fs.flatten\/H a=none
 own:∀(i:Nat) v p G,vs[i]?=some v->ps[i]?=some p->Gs[i]?=some G->Own K (Gs.flatten++O++Fs'.flatten) H' p.s G v p.d
abbrev FL:=Ev->Out (List PV)
def vD (K:Fg) (W:XW) (He:Hp) (O:List Addr) (Fs:List (List Addr)) (H:Hp) (σ:St) (Q:List V->Hp->Prop) (o:Out (List PV)):Prop:=match o with
 | .ok ps Γ'=>∀vs H' Gs Fs',AftL K He O Fs H σ Γ' ps vs H' Gs Fs'->Q vs H'
 | .er c Γ'=>∀H' Fs',Same H H'->EnvOk K He O Fs' H' σ Γ'->W c σ H'
 | .no=>False
def tA (K:Fg) (W:XW) (f:FL):TA:=fun σ H Q=>∃He O Fs Γ,EnvOk K He O Fs H σ Γ/\vD K W He O Fs H σ Q (f Γ)
def af:FL:=fun Γ=>.ok [] Γ
def ab (fa:F1) (fl:FL):FL:=fun Γ=>(fa Γ).bind fun p Γ1=>(fl Γ1).bind fun ps Γ2=>.ok (p::ps) Γ2
section
variable {K:Fg} {W:XW} {σ:St} {H:Hp} {Q:VK} {QL:List V->Hp->Prop} {fa fb:F1} {fl:FL}
theorem Be (h:tA K W af σ H QL):sA σ H QL:=by
 obtain ⟨He,O,Fs,Γ,E,h⟩:=h;exact h [] H [] Fs ⟨Same.refl _,rfl,rfl,by simpa using E,fun a ha=>.inl (by simpa using ha),fun i v p G e=>by simp at e⟩
theorem km {α:Type} (A B C:List α):(A++(B++C)).Perm (B++(A++C)):=by
 rw [<-append_assoc,<-append_assoc];exact List.Perm.append_right _ perm_append_comm
theorem EnvOk.perm {He H:Hp} {O O':List Addr} {Fs:List (List Addr)} {Γ:Ev} (E:EnvOk K He O Fs H σ Γ) (p:O'.Perm O):EnvOk K He O' Fs H σ Γ:=E.drop (fun a ha=>p.mem_iff.mp ha) (p.nodup_iff.mpr E.ndO)
theorem Own.perm {H:Hp} {O O':List Addr} {s:Sh} {G:List Addr} {v:V} {d:D} (h:Own K O H s G v d) (p:∀a∈O',a∈O):Own K O' H s G v d:=h.mono (Same.refl _) fun a ha=>.inl (p a ha)
theorem xt (h:tA K W (ab fa fl) σ H QL):iy (tE K W fa) (tA K W fl) σ H QL:=by
 obtain ⟨He,O,Fs,Γ,E,h⟩:=h;refine ⟨He,O,Fs,Γ,E,?_⟩
 unfold ab at h
 cases e:fa Γ with
 | ok p Γ1=>
  rw [e] at h;intro v H1 G1 Fs1 A1;refine ⟨He,G1++O,Fs1,Γ1,A1.env,?_⟩
  have h:vD K W He O Fs H σ QL ((fl Γ1).bind fun ps Γ2=>.ok (p::ps) Γ2):=h
  cases e2:fl Γ1 with
  | ok ps Γ2=>
   rw [e2] at h;intro vs H2 Gs Fs2 A2;have pm:((G1::Gs).flatten++O).Perm (Gs.flatten++(G1++O)):=by
    rw [flatten_cons,append_assoc];exact km _ _ _
   refine h (v::vs) H2 (G1::Gs) Fs2 ⟨A1.same.trans A2.same,by simp [A2.len1],by simp [A2.len2],A2.env.perm pm,fun a ha=>?_,fun i u q G h1 h2 h3=>?_⟩
   ·rcases LP ha with z | z
    ·rw [flatten_cons] at z
     rcases LP z with z | z
     ·exact A1.new a (LO _ z)
     ·exact (A2.new a (LO _ z)).elim (fun y=>A1.new a (LN _ y)) fun y=>.inr (A1.same.free y)
    ·exact (A2.new a (LN _ z)).elim (fun y=>A1.new a (LN _ y)) fun y=>.inr (A1.same.free y)
   ·have sub:∀a∈(G1::Gs).flatten++O++Fs2.flatten,a∈Gs.flatten++(G1++O)++Fs2.flatten:=fun a ha=>by
     rcases LP ha with z | z
     ·exact LO _ (pm.mem_iff.mp z)
     ·exact LN _ z
    cases i with
    | zero=>
     simp at h1 h2 h3
     subst h1 h2 h3;refine (A1.own.mono A2.same fun a ha=>?_).perm sub
     rcases LP ha with z | z
     ·rcases LP z with z | z
      ·exact (A2.new a (LO _ z)).elim (fun y=>.inl (LN _ y)) .inr
      ·exact .inl (LO _ z)
     ·exact (A2.new a (LN _ z)).elim (fun y=>.inl (LN _ y)) .inr
    | succ i=>
     simp at h1 h2 h3
     exact (A2.own i u q G h1 h2 h3).perm sub
  | er c Γ2=>
   rw [e2] at h;exact fun H2 Fs2 s E2=>h H2 Fs2 (A1.same.trans s) E2.dropL
  | no=>rw [e2] at h;exact h
 | er c Γ1=>rw [e] at h;exact h
 | no=>rw [e] at h;exact h
theorem AftL.reps {He:Hp} {O:List Addr} {Fs Gs Fs':List (List Addr)} {Γ':Ev} {ps:List PV} {vs:List V} {H':Hp} (A:AftL K He O Fs H σ Γ' ps vs H' Gs Fs'):Reps K H' vs (ps.map (·.d)):=by
 refine ⟨by rw [length_map];exact A.len1,fun i v d h1 h2=>?_⟩
 rw [getElem?_map] at h2
 cases e:ps[i]? with
 | none=>rw [e] at h2;cases h2
 | some p=>
  rw [e] at h2
  cases h2;have hi:=(LY e).1
  exact (A.own i v p (Gs[i]'(by rw [A.len2];exact hi)) h1 e (LR _)).rep
def ba (g:List D->Option D) (fl:FL):F1:=fun Γ=>(fl Γ).bind fun ps Γ'=>match g (ps.map (·.d)) with
 | some d=>.ok ⟨.leaf,d⟩ Γ'
 | none=>.no
def GCall (K:Fg) (r:List V->Hp->VK->Prop) (g:List D->Option D):Prop:=∀vs H Q ds d,Reps K H vs ds->g ds=some d->(∀v,Sc v d->Q v H)->r vs H Q
theorem tF {r:List V->Hp->VK->Prop} {g:List D->Option D} (hg:GCall K r g) (h:tE K W (ba g fl) σ H Q):AL r (tA K W fl) σ H Q:=by
 obtain ⟨He,O,Fs,Γ,E,h⟩:=h;refine ⟨He,O,Fs,Γ,E,?_⟩
 unfold ba at h
 cases e:fl Γ with
 | ok ps Γ'=>
  rw [e] at h;intro vs H' Gs Fs' A
  have h:Wants K W He O Fs H σ Q (match g (ps.map (·.d)) with | some d=>.ok ⟨.leaf,d⟩ Γ' | none=>.no):=h
  cases e2:g (ps.map (·.d)) with
  | none=>rw [e2] at h;exact h.elim
  | some d=>
   rw [e2] at h;exact hg vs H' Q _ d A.reps e2 fun v s=>Wants.scal h s A.same A.env (fun a ha=>LN _ ha) E.ndO fun a ha=>A.new a (LN _ ha)
 | er c Γ'=>rw [e] at h;exact h
 | no=>rw [e] at h;exact h
theorem GCall.or {r r':List V->Hp->VK->Prop} {g g':List D->Option D} (h:GCall K r g) (h':GCall K r' g'):GCall K (fun xs H Q=>r xs H Q\/r' xs H Q) (fun ds=>(g ds).or (g' ds)):=by
 intro vs H Q ds d rs e k;have e:(g ds).or (g' ds)=some d:=e
 cases e1:g ds with
 | some z=>rw [e1] at e;cases e;exact .inl (h vs H Q ds _ rs e1 k)
 | none=>rw [e1] at e;exact .inr (h' vs H Q ds d rs (by simpa using e) k)
theorem Reps.one {vs:List V} {d:D} (h:Reps K H vs [d]):∃v,vs=[v]/\Rep K H v d:=by
 obtain ⟨hl,h⟩:=h;match vs,hl with
 | [v],_=>exact ⟨v,rfl,h 0 v d rfl rfl⟩
theorem Reps.two {vs:List V} {d e:D} (h:Reps K H vs [d,e]):∃v u,vs=[v,u]/\Rep K H v d/\Rep K H u e:=by
 obtain ⟨hl,h⟩:=h;match vs,hl with
 | [v,u],_=>exact ⟨v,u,rfl,h 0 v d rfl rfl,h 1 u e rfl rfl⟩
end
def zM:List D->Option D
 | [.list xs]=>some (.int xs.length)
 | [.tuple xs]=>some (.int xs.length)
 | _=>none
def u3:List D->Option D
 | [.str x]=>if x.length<=sizeLine then some (.int x.length) else none
 | _=>none
abbrev aV:List D->Option D:=fun ds=>(zM ds).or (u3 ds)
theorem CC {K:Fg}:GCall K (fun xs H Q=>(∃p ys,xs=[.ref p]/\(SqL K H p ys\/SqT K H p ys)/\Q (.int ys.length) H)\/∃z,xs=[.str z]/\z.length<=sizeLine/\Q (.int z.length) H) aV:=by
 refine GCall.or (g:=zM) (g':=u3) (r:=fun xs H Q=>∃p ys,xs=[.ref p]/\(SqL K H p ys\/SqT K H p ys)/\Q (.int ys.length) H) (r':=fun xs H Q=>∃z,xs=[.str z]/\z.length<=sizeLine/\Q (.int z.length) H) ?_ ?_
 ·intro vs H Q ds d rs e k
  match ds,e with
  | [.list xs],e=>
   obtain ⟨v,rfl,r⟩:=rs.one
   cases e
   cases r with
   | @lst p us _ hq hl _=>exact ⟨p,us,rfl,.inl hq,by rw [hl];exact k _ (.int _)⟩
  | [.tuple xs],e=>
   obtain ⟨v,rfl,r⟩:=rs.one
   cases e
   cases r with
   | @tup p us _ hq hl _=>exact ⟨p,us,rfl,.inr hq,by rw [hl];exact k _ (.int _)⟩
 ·intro vs H Q ds d rs e k
  match ds,e with
  | [.str x],e=>
   obtain ⟨v,rfl,r⟩:=rs.one;simp only [u3] at e
   split at e
   ·rename_i z
    cases e
    cases r;exact ⟨x,rfl,z,k _ (.int _)⟩
   ·cases e
def mT:List D->Option D
 | [.int i]=>some (.int i)
 | [.bool b]=>some (.int (if b then 1 else 0))
 | _=>none
theorem CD {K:Fg}:GCall K (fun xs H Q=>(∃i,xs=[.int i]/\Q (.int i) H)\/∃k,xs=[.bl k]/\Q (.int (if k then 1 else 0)) H) mT:=by
 intro vs H Q ds d rs e k;match ds,e with
 | [.int i],e=>
  obtain ⟨v,rfl,r⟩:=rs.one
  cases e;cases r;exact .inl ⟨i,rfl,k _ (.int _)⟩
 | [.bool b],e=>
  obtain ⟨v,rfl,r⟩:=rs.one
  cases e;cases r;exact .inr ⟨b,rfl,k _ (.int _)⟩
def LC:List D->Option D
 | [.int i,.int j]=>some (.int (if j>i then j else i))
 | _=>none
def rH:List D->Option (List Bool)
 | []=>some []
 | .bool b::r=>(rH r).map (b :: ·)
 | _=>none
theorem gB:∀{ds:List D} {bs:List Bool},rH ds=some bs->ds=bs.map PyData.bool
 | [],bs,h=>by cases h;rfl
 | .bool b::r,bs,h=>by
  simp only [rH] at h
  cases e:rH r with
  | none=>rw [e] at h;cases h
  | some cs=>rw [e] at h;cases h;rw [gB e];rfl
 | .none::_,_,h=>by cases h
 | .int _::_,_,h=>by cases h
 | .str _::_,_,h=>by cases h
 | .list _::_,_,h=>by cases h
 | .tuple _::_,_,h=>by cases h
 | .dict _::_,_,h=>by cases h
def bK (any:Bool):List D->Option D
 | [.list xs]=>(rH xs).map fun bs=>.bool (if any then bs.any id else bs.all id)
 | _=>none
theorem fR {K:Fg} {H:Hp}:∀{vs:List V} {bs:List Bool},Reps K H vs (bs.map PyData.bool)->vs=bs.map V.bl
 | [],[],_=>rfl
 | v::vs,b::bs,⟨hl,h⟩=>by
  have r:=h 0 v (.bool b) rfl rfl
  cases r;rw [fR (bs:=bs) (vs:=vs) ⟨by simpa using hl,fun i v d h1 h2=>h (i+1) v d (by simpa using h1) (by simpa using h2)⟩]
  rfl
 | [],_::_,⟨hl,_⟩=>by simp at hl
 | _::_,[],⟨hl,_⟩=>by simp at hl
def BA (K:Fg) (any:Bool):List V->Hp->VK->Prop:=fun xs H Q=>∃(p:Addr) (bs:List Bool),xs=[.ref p]/\SqL K H p (bs.map V.bl)/\Q (.bl (if any then bs.any id else bs.all id)) H
theorem u0 {K:Fg} {any:Bool}:GCall K (BA K any) (bK any):=by
 intro vs H Q ds d rs e k;match ds,e with
 | [.list xs],e=>
  obtain ⟨v,rfl,r⟩:=rs.one;simp only [bK] at e
  cases eb:rH xs with
  | none=>rw [eb] at e;cases e
  | some bs=>
   rw [eb] at e
   cases e;have:=gB eb
   subst this
   cases r with
   | @lst p us _ hq hl hr=>
    have:=fR ⟨hl,hr⟩
    subst this;exact ⟨p,bs,rfl,hq,k _ (.bl _)⟩
section
variable {X:Cx}
theorem iX {bs:List Bool}:∀{its:List Value},Vals (bs.map V.bl) its->its=bs.map Value.bool:=by
 induction bs with
 | nil=>intro its h;cases h;rfl
 | cons b bs ih=>
  intro its h
  cases h with
  | cons r t=>
   cases (show _=Value.bool b from r)
   rw [ih t];rfl
theorem p9 (bs:List Bool):(List.range bs.length).all (fun i=>bs.getD i false)=bs.all id:=by
 rw [Bool.eq_iff_iff,all_eq_true,all_eq_true];constructor
 ·intro h b hb
  obtain ⟨i,hi,e⟩:=List.mem_iff_getElem.mp hb;have:=h i (List.mem_range.mpr hi)
  rw [LU,LR hi] at this;rw [<-e];simpa using this
 ·intro h i hi
  have hi:=List.mem_range.mp hi
  rw [LU,LR hi];exact h _ (getElem_mem hi)
theorem p8 (bs:List Bool):(List.range bs.length).any (fun i=>bs.getD i false)=bs.any id:=by
 rw [Bool.eq_iff_iff,any_eq_true,any_eq_true];constructor
 ·rintro ⟨i,hi,h⟩
  have hi:=List.mem_range.mp hi
  rw [LU,LR hi] at h;exact ⟨_,getElem_mem hi,h⟩
 ·rintro ⟨b,hb,h⟩
  obtain ⟨i,hi,e⟩:=List.mem_iff_getElem.mp hb;refine ⟨i,List.mem_range.mpr hi,?_⟩
  rw [LU,LR hi,e];exact h
theorem eu {prog:Program} {w:World} {A:Around} {bs:List Bool}:TruthOf prog w A (fun i v=>(bs.map Value.bool).toArray[i]?=some v) (fun i=>bs.getD i false):=by
 intro i v s Q E hP hQ;simp only [getElem?_toArray,getElem?_map] at hP
 cases e:bs[i]? with
 | none=>rw [e] at hP;cases hP
 | some b=>
  rw [e] at hP
  cases hP;have hQ:Q (bs.getD i false) s:=hQ
  rw [LU,e] at hQ;exact wpAny_truthy_bool hQ
theorem rj (hc:X.calm=true):CallR X (.builtin "all") (BA X.K false):=by
 intro pins s σ H vs us Q I rv h;obtain ⟨p,bs,rfl,hq,q⟩:=h;obtain ⟨u,rfl,ru⟩:=vals1 rv
 cases ru;obtain ⟨its,rv,pl,hz⟩:=I.list hq;have:=iX rv
 subst this;have hd:=I.ok.hd hc
 refine call_all_walk (wpAny_pyIter_list pl.isList ?_)
 have ne:p≠s.heap.objs.size:=by
  obtain ⟨o,n,e,_⟩:=pl;exact Nat.ne_of_lt (Heap.lt_size e)
 refine ⟨s.heap.objs.size,_,_,_,_,_,fun i=>bs.getD i false,rfl,Walks.list (prog:=X.prog) (w:=X.w) (A:=X.A.in1) hd s.heap.objs.size p ne (bs.map Value.bool).toArray,⟨⟨_,Heap.get?_push_size _ rfl,rfl,rfl⟩,pl.isList.at fun o e=>L1 _ e⟩,eu,fun h' tk hk=>?_⟩
 refine ⟨.bl _,H,I.kept (h':=h') (t':=tk) fun b o e=>hk b o (fun z=>?_) (L1 _ e),rfl,?_⟩
 ·have z:b=s.heap.objs.size:=by simpa using z
  exact absurd (Heap.lt_size e) (by rw [z];exact Nat.lt_irrefl _)
 ·rw [size_toArray,length_map,p9]
  exact q
theorem rh (hc:X.calm=true):CallR X (.builtin "any") (BA X.K true):=by
 intro pins s σ H vs us Q I rv h;obtain ⟨p,bs,rfl,hq,q⟩:=h;obtain ⟨u,rfl,ru⟩:=vals1 rv
 cases ru;obtain ⟨its,rv,pl,hz⟩:=I.list hq;have:=iX rv
 subst this;have hd:=I.ok.hd hc
 refine call_any_walk (wpAny_pyIter_list pl.isList ?_)
 have ne:p≠s.heap.objs.size:=by
  obtain ⟨o,n,e,_⟩:=pl;exact Nat.ne_of_lt (Heap.lt_size e)
 refine ⟨s.heap.objs.size,_,_,_,_,_,fun i=>bs.getD i false,rfl,Walks.list (prog:=X.prog) (w:=X.w) (A:=X.A.in1) hd s.heap.objs.size p ne (bs.map Value.bool).toArray,⟨⟨_,Heap.get?_push_size _ rfl,rfl,rfl⟩,pl.isList.at fun o e=>L1 _ e⟩,eu,fun h' tk hk=>?_⟩
 refine ⟨.bl _,H,I.kept (h':=h') (t':=tk) fun b o e=>hk b o (fun z=>?_) (L1 _ e),rfl,?_⟩
 ·have z:b=s.heap.objs.size:=by simpa using z
  exact absurd (Heap.lt_size e) (by rw [z];exact Nat.lt_irrefl _)
 ·rw [size_toArray,length_map,p8]
  exact q
end
def lQ (s:Sh) (j:Nat) (d:D):Option Sh:=match s with
 | .leaf=>some .leaf
 | .view=>some (if aZ d then .leaf else .view)
 | .lst s=>some s
 | .tup ss=>ss[j]?
def ai (fa fb:F1):F1:=aK fa fun p=>aK fb fun q=>fun Γ=>match q.d with
 | .int i=>(match p.d with
  | .list ds=>(match cx ds.length i with
   | some j=>(match ds[j]? with
    | some d=>(match lQ p.s j d with
     | some s=>.ok ⟨s,d⟩ Γ
     | none=>.no)
    | none=>.no)
   | none=>.no)
  | .tuple ds=>(match cx ds.length i with
   | some j=>(match ds[j]? with
    | some d=>(match lQ p.s j d with
     | some s=>.ok ⟨s,d⟩ Γ
     | none=>.no)
    | none=>.no)
   | none=>.no)
  | .str z=>if z.length<=sizeLine then (match cn z.cps.toList i with
   | some c=>.ok ⟨.leaf,.str ⟨#[c]⟩⟩ Γ
   | none=>.no) else .no
  | _=>.no)
 | _=>.no
theorem Own.item {K:Fg} {O:List Addr} {H:Hp} {s s':Sh} {G:List Addr} {p:Addr} {ds:List D} {j:Nat} {d:D} (h:Own K O H s G (.ref p) (.list ds)) (hd:ds[j]?=some d) (hs:lQ s j d=some s') :
  ∃vs v G',SqL K H p vs/\vs.length=ds.length/\vs[j]?=some v/\(∀a∈G',a∈G)/\G'.Nodup/\Own K O H s' G' v d:=by
 have hi:=(LY hd).1
 cases h with
 | view r=>
  cases r with
  | @lst _ vs _ hq hl hr=>
   have hv:vs[j]?=some (vs[j]'(by omega)):=LR _
   have r':=hr j _ d hv hd
   simp only [lQ,Option.some.injEq] at hs
   cases e:aZ d with
   | true=>
    rw [e] at hs
    cases hs;exact ⟨vs,_,[],hq,hl,hv,(fun _ z=>nomatch z),nodup_nil,.leaf (r'.sc e).rep⟩
   | false=>
    rw [e] at hs
    cases hs;exact ⟨vs,_,[],hq,hl,hv,(fun _ z=>nomatch z),nodup_nil,.view r'⟩
 | leaf r=>
  cases r with
  | @lst _ vs _ hq hl hr=>
   have hv:vs[j]?=some (vs[j]'(by omega)):=LR _
   cases hs;exact ⟨vs,_,[],hid_le.seq hq,hl,hv,(fun _ z=>nomatch z),nodup_nil,.leaf (hr j _ d hv hd)⟩
 | @lst s₀ _ vs _ Fs hv hp hl hf nd hr=>
  have hv':vs[j]?=some (vs[j]'(by omega)):=LR _
  have hF:Fs[j]?=some (Fs[j]'(by omega)):=LR _
  cases hs;refine ⟨vs,_,_,.of hp,hl,hv',fun a ha=>LW _ (ik hF ha),?_,hr j _ d _ hv' hd hF⟩
  exact ((List.nodup_cons.mp nd).2).sublist (List.sublist_flatten_of_mem (mem_of_getElem? hF))
theorem Own.itemT {K:Fg} {O:List Addr} {H:Hp} {s s':Sh} {G:List Addr} {p:Addr} {ds:List D} {j:Nat} {d:D} (h:Own K O H s G (.ref p) (.tuple ds)) (hd:ds[j]?=some d) (hs:lQ s j d=some s') :
  ∃vs v G',SqT K H p vs/\vs.length=ds.length/\vs[j]?=some v/\(∀a∈G',a∈G)/\G'.Nodup/\Own K O H s' G' v d:=by
 have hi:=(LY hd).1
 cases h with
 | view r=>
  cases r with
  | @tup _ vs _ hq hl hr=>
   have hv:vs[j]?=some (vs[j]'(by omega)):=LR _
   have r':=hr j _ d hv hd
   simp only [lQ,Option.some.injEq] at hs
   cases e:aZ d with
   | true=>
    rw [e] at hs
    cases hs;exact ⟨vs,_,[],hq,hl,hv,(fun _ z=>nomatch z),nodup_nil,.leaf (r'.sc e).rep⟩
   | false=>
    rw [e] at hs
    cases hs;exact ⟨vs,_,[],hq,hl,hv,(fun _ z=>nomatch z),nodup_nil,.view r'⟩
 | leaf r=>
  cases r with
  | @tup _ vs _ hq hl hr=>
   have hv:vs[j]?=some (vs[j]'(by omega)):=LR _
   cases hs;exact ⟨vs,_,[],cP hid_le hq,hl,hv,(fun _ z=>nomatch z),nodup_nil,.leaf (hr j _ d hv hd)⟩
 | @tup ss _ vs _ Fs hv hp hn hl hf hl2 nd hr=>
  have hv':vs[j]?=some (vs[j]'(by omega)):=LR _
  have hF:Fs[j]?=some (Fs[j]'(by omega)):=LR _
  have hs:ss[j]?=some s':=hs
  refine ⟨vs,_,_,.of hp,hl,hv',fun a ha=>ik hF ha,?_,hr j _ d _ _ hv' hd hF hs⟩
  exact nd.sublist (List.sublist_flatten_of_mem (mem_of_getElem? hF))
theorem Wants.part {K:Fg} {W:XW} {σ:St} {He H H2:Hp} {O G G':List Addr} {Fs Fs2:List (List Addr)} {Γ':Ev} {Q:VK} {s:Sh} {v:V} {d:D} (h:Wants K W He O Fs H σ Q (.ok ⟨s,d⟩ Γ')) (e:Same H H2)
  (E:EnvOk K He (G++O) Fs2 H2 σ Γ') (sub:∀a∈G',a∈G) (nd:G'.Nodup) (new:∀a∈G++Fs2.flatten,a∈Fs.flatten\/H a=none) (o:Own K (G++O++Fs2.flatten) H2 s G' v d):Q v H2:=by
 have sub2:∀a∈G'++O,a∈G++O:=fun a ha=>by
  rcases LP ha with z | z
  ·exact LO _ (sub a z)
  ·exact LN _ z
 obtain ⟨n1,n2,n3⟩:=LX E.ndO;refine h v H2 G' Fs2 ⟨e,E.drop sub2 (List.nodup_append.mpr ⟨nd,n2,fun a ha b hb=>n3 a (sub a ha) b hb⟩),fun a ha=>new a ?_,o.perm fun a ha=>?_⟩
 ·rcases LP ha with z | z
  ·exact LO _ (sub a z)
  ·exact LN _ z
 ·rcases LP ha with z | z
  ·exact LO _ (sub2 a z)
  ·exact LN _ z
theorem vy {α β:Type} {xs:List α} {ys:List β} {i:Int} {j:Nat} {v:α} (hl:xs.length=ys.length) (h:cx ys.length i=some j) (hv:xs[j]?=some v):cn xs i=some v:=by
 unfold cn;rw [hl,h];exact hv
section
variable {K:Fg} {W:XW} {σ:St} {H:Hp} {Q:VK} {fa fb:F1}
theorem Bi (h:tE K W (ai fa fb) σ H Q):wK (Kh K) (tE K W fa) (tE K W fb) σ H Q:=by
 refine C7 h ?_
 intro He O Fs Γ2 p q v u H1 H2 G1 G2 Fs2 nd s1 s2 E new o1 o2 w;obtain ⟨ps,pd⟩:=p;obtain ⟨qs,qd⟩:=q;have ri:=o2.rep
 cases qd<;>try exact w.elim
 rename_i i
 cases ri;have E':EnvOk K He ((G2++G1)++O) Fs2 H2 σ Γ2:=by rw [append_assoc];exact E
 have new':∀a∈(G2++G1)++Fs2.flatten,a∈Fs.flatten\/H a=none:=fun a ha=>new a (by rw [<-append_assoc];exact ha)
 have o1':Own K ((G2++G1)++O++Fs2.flatten) H2 ps G1 v pd:=o1.perm fun a ha=>by rw [append_assoc G2] at ha;exact ha
 have rp:=o1.rep
 cases pd with
 | list ds=>
  obtain ⟨p0,rfl⟩:∃p0,v=.ref p0:=by cases rp;exact ⟨_,rfl⟩
  have w:Wants K W He O Fs H σ Q (match cx ds.length i with | some j=>(match ds[j]? with | some d=>(match lQ ps j d with | some s=>.ok ⟨s,d⟩ Γ2 | none=>.no) | none=>.no) | none=>.no):=w
  cases e1:cx ds.length i with
  | none=>rw [e1] at w;exact w.elim
  | some j=>
   rw [e1] at w;have w:Wants K W He O Fs H σ Q (match ds[j]? with | some d=>(match lQ ps j d with | some s=>.ok ⟨s,d⟩ Γ2 | none=>.no) | none=>.no):=w
   cases e2:ds[j]? with
   | none=>rw [e2] at w;exact w.elim
   | some d=>
    rw [e2] at w;have w:Wants K W He O Fs H σ Q (match lQ ps j d with | some s=>.ok ⟨s,d⟩ Γ2 | none=>.no):=w
    cases e3:lQ ps j d with
    | none=>rw [e3] at w;exact w.elim
    | some s=>
     rw [e3] at w;obtain ⟨vs,v',G',h1,h2,h3,h4,h5,h6⟩:=o1'.item e2 e3
     exact .inl ⟨p0,vs,i,v',rfl,rfl,h1,vy h2 e1 h3,Wants.part w (s1.trans s2) E' (fun a ha=>LN _ (h4 a ha)) h5 new' h6⟩
 | tuple ds=>
  obtain ⟨p0,rfl⟩:∃p0,v=.ref p0:=by cases rp;exact ⟨_,rfl⟩
  have w:Wants K W He O Fs H σ Q (match cx ds.length i with | some j=>(match ds[j]? with | some d=>(match lQ ps j d with | some s=>.ok ⟨s,d⟩ Γ2 | none=>.no) | none=>.no) | none=>.no):=w
  cases e1:cx ds.length i with
  | none=>rw [e1] at w;exact w.elim
  | some j=>
   rw [e1] at w;have w:Wants K W He O Fs H σ Q (match ds[j]? with | some d=>(match lQ ps j d with | some s=>.ok ⟨s,d⟩ Γ2 | none=>.no) | none=>.no):=w
   cases e2:ds[j]? with
   | none=>rw [e2] at w;exact w.elim
   | some d=>
    rw [e2] at w;have w:Wants K W He O Fs H σ Q (match lQ ps j d with | some s=>.ok ⟨s,d⟩ Γ2 | none=>.no):=w
    cases e3:lQ ps j d with
    | none=>rw [e3] at w;exact w.elim
    | some s=>
     rw [e3] at w;obtain ⟨vs,v',G',h1,h2,h3,h4,h5,h6⟩:=o1'.itemT e2 e3
     exact .inr (.inl ⟨p0,vs,i,v',rfl,rfl,h1,vy h2 e1 h3,Wants.part w (s1.trans s2) E' (fun a ha=>LN _ (h4 a ha)) h5 new' h6⟩)
 | str z=>
  cases rp;have w:Wants K W He O Fs H σ Q (if z.length<=sizeLine then (match cn z.cps.toList i with | some c=>.ok ⟨.leaf,.str ⟨#[c]⟩⟩ Γ2 | none=>.no) else .no):=w
  by_cases hz:z.length<=sizeLine
  ·rw [if_pos hz] at w
   cases e1:cn z.cps.toList i with
   | none=>rw [e1] at w;exact w.elim
   | some c=>
    rw [e1] at w;exact .inr (.inr ⟨z,i,c,rfl,rfl,hz,e1,Wants.scal w (.str _) (s1.trans s2) E (fun a ha=>LN _ (LN _ ha)) nd fun a ha=>new a (LN _ (LN _ ha))⟩)
  ·rw [if_neg hz] at w
   exact w.elim
 | none=>exact w.elim
 | bool b=>exact w.elim
 | int k=>exact w.elim
 | dict k=>exact w.elim
end
theorem kJ (s:Sh):∀Gs:List (List Addr),((Gs.map (aG s)).flatten).Sublist Gs.flatten
 | []=>List.Sublist.refl _
 | G::Gs=>by
  simp only [map_cons,flatten_cons]
  refine List.Sublist.append ?_ (kJ s Gs)
  unfold aG;split
  ·exact List.nil_sublist _
  ·exact List.Sublist.refl _
theorem iJ:∀Gs:List (List Addr),(Gs.map (aG .leaf)).flatten=[]
 | []=>rfl
 | _::Gs=>by simp only [map_cons,flatten_cons,iJ Gs];rfl
section
variable {K:Fg} {W:XW} {σ:St} {He H H':Hp} {O:List Addr} {Fs Fs' Gs:List (List Addr)} {Γ':Ev} {ps:List PV} {vs:List V} {Q:VK}
theorem AftL.newList {s:Sh} {p:Addr} (A:AftL K He O Fs H σ Γ' ps vs H' Gs Fs') (hs:s.isView=false) (hc:ps.all (T.coer s)=true) (hp:H' p=none) :
  Aft K He O Fs H σ Γ' ⟨.lst s,.list (ps.map (·.d))⟩ (.ref p) (bb H' p (.lst vs)) (p::(Gs.map (aG s)).flatten) Fs':=by
 obtain ⟨n1,n2,n3⟩:=LX A.env.ndO;obtain ⟨m1,m2,m3⟩:=LX A.env.nd;have hsub:=kJ s Gs
 have E1:EnvOk K He ((Gs.map (aG s)).flatten++O) Fs' H' σ Γ':=A.env.drop (fun a ha=>by
   rcases LP ha with z | z
   ·exact LO _ (hsub.subset z)
   ·exact LN _ z) (List.nodup_append.mpr ⟨n1.sublist hsub,n2,fun a ha b hb=>n3 a (hsub.subset ha) b hb⟩)
 have E2:=E1.hide (G:=[p]) (fD (o:=.lst vs) hp) (by simp) (fun a ha=>by simp at ha;rw [ha];exact hp) (fun a ha=>by simp at ha;rw [ha,dA];exact Option.some_ne_none _)
 have pn:∀{a},a∈Gs.flatten++O++Fs'.flatten->a≠p:=fun {a} ha z=>A.env.inH a ha (by rw [z];exact hp)
 refine ⟨A.same.trans (fD hp),E2,fun a ha=>?_,?_⟩
 ·rcases LP ha with z | z
  ·rcases LQ z with z | z
   ·rw [z];exact .inr (A.same.free hp)
   ·exact A.new a (LO _ (hsub.subset z))
  ·exact A.new a (LN _ z)
 ·refine .lst hs dA (by rw [length_map];exact A.len1) (by rw [length_map,length_map];exact A.len2) ?_ fun i v d F h1 h2 h3=>?_
  ·refine List.nodup_cons.mpr ⟨fun z=>pn (LO _ (LO _ (hsub.subset z))) rfl,n1.sublist hsub⟩
  ·rw [getElem?_map] at h2 h3
   cases e2:ps[i]? with
   | none=>rw [e2] at h2;cases h2
   | some q=>
    cases e3:Gs[i]? with
    | none=>rw [e3] at h3;cases h3
    | some G=>
     rw [e2] at h2;rw [e3] at h3
     cases h2
     cases h3;have cq:T.coer s q=true:=List.all_eq_true.mp hc q (mem_of_getElem? e2)
     have o1:=(A.own i v q G h1 e2 e3).mono (O':=p::(Gs.flatten++O++Fs'.flatten)) (fD (o:=.lst vs) hp) fun a ha=>by
      rcases LQ ha with z | z
      ·rw [z];exact .inr hp
      ·exact .inl z
     refine o1.coer cq (fun a ha=>?_) fun a ha hO=>?_
     ·rw [append_assoc] at ha
      rcases LP ha with z | z
      ·rcases LQ z with z | z
       ·rw [z];exact mem_cons_self
       ·exact LW _ (LO _ (LO _ (hsub.subset z)))
      ·rcases LP z with z | z
       ·exact LW _ (LO _ (LN _ z))
       ·exact LW _ (LN _ z)
     ·have hG:a∈Gs.flatten:=ik e3 ha
      cases s with
      | leaf=>
       rw [iJ] at hO;exfalso
       rw [append_assoc] at hO;rcases LP hO with z | z
       ·have z:a=p:=by simpa using z
        exact pn (LO _ (LO _ hG)) z
       ·rcases LP z with z | z
        ·exact n3 a hG a z rfl
        ·exact m3 a (LO _ hG) a z rfl
      | view=>cases hs
      | lst s=>exact ha
      | tup ss=>exact ha
def aW (s:Sh) (fl:FL):F1:=fun Γ=>(fl Γ).bind fun ps Γ'=>if !s.isView&&ps.all (T.coer s)&&decide (ps.length<=sizeLine) then .ok ⟨.lst s,.list (ps.map (·.d))⟩ Γ' else .no
theorem xl {s:Sh} {fl:FL} (h:tE K W (aW s fl) σ H Q):AJ (tA K W fl) σ H Q:=by
 obtain ⟨He,O,Fs,Γ,E,h⟩:=h;refine ⟨He,O,Fs,Γ,E,?_⟩
 unfold aW at h
 cases e:fl Γ with
 | ok ps Γ'=>
  rw [e] at h;intro vs H' Gs Fs' A
  have h:Wants K W He O Fs H σ Q (if (!s.isView&&ps.all (T.coer s)&&decide (ps.length<=sizeLine))=true then .ok ⟨.lst s,.list (ps.map (·.d))⟩ Γ' else .no):=h
  by_cases hc:(!s.isView&&ps.all (T.coer s)&&decide (ps.length<=sizeLine))=true
  ·rw [if_pos hc] at h
   simp only [Bool.and_eq_true,decide_eq_true_eq,Bool.not_eq_true'] at hc
   exact ⟨by rw [A.len1];exact hc.2,fun p hp=>h _ _ _ _ (A.newList hc.1.1 hc.1.2 hp)⟩
  ·rw [if_neg hc] at h
   exact h.elim
 | er c Γ'=>rw [e] at h;exact h
 | no=>rw [e] at h;exact h
def zo (p:PV):Sh:=if p.s.isView then .leaf else p.s
def tok (p:PV):Bool:=!p.s.isView||aZ p.d
theorem AftL.newTup {p:Addr} (A:AftL K He O Fs H σ Γ' ps vs H' Gs Fs') (hc:ps.all tok=true) (hp:H' p=none) :
  Aft K He O Fs H σ Γ' ⟨.tup (ps.map zo),.tuple (ps.map (·.d))⟩ (.ref p) (bb H' p (.tup vs)) Gs.flatten Fs':=by
 obtain ⟨n1,n2,n3⟩:=LX A.env.ndO;have pn:p∉Gs.flatten++O++Fs'.flatten:=fun ha=>A.env.inH p ha hp
 refine ⟨A.same.trans (fD hp),A.env.grow (fD hp),A.new,?_⟩
 refine .tup (fun s hs=>?_) dA pn (by rw [length_map];exact A.len1) (by rw [length_map];exact A.len2) (by rw [length_map,length_map]) n1 fun i v d F s h1 h2 h3 h4=>?_
 ·obtain ⟨q,_,rfl⟩:=List.mem_map.mp hs
  unfold zo;split
  ·rfl
  ·rename_i z;simpa using z
 ·rw [getElem?_map] at h2 h4
  cases e2:ps[i]? with
  | none=>rw [e2] at h2;cases h2
  | some q=>
   rw [e2] at h2 h4
   cases h2
   cases h4;have cq:tok q=true:=List.all_eq_true.mp hc q (mem_of_getElem? e2)
   have o1:=(A.own i v q F h1 e2 h3).mono (O':=Gs.flatten++O++Fs'.flatten) (fD (o:=.tup vs) hp) fun a ha=>.inl ha
   unfold zo
   cases hv:q.s.isView with
   | false=>exact o1
   | true=>
    unfold tok at cq;rw [hv] at cq;obtain ⟨s,d⟩:=q
    cases s with
    | view=>
     cases o1 with
     | view r=>exact .leaf (r.sc (by simpa using cq)).rep
    | _=>cases hv
def bg (fl:FL):F1:=fun Γ=>(fl Γ).bind fun ps Γ'=>if ps.all tok&&decide (ps.length<=sizeLine) then .ok ⟨.tup (ps.map zo),.tuple (ps.map (·.d))⟩ Γ' else .no
theorem A6 {fl:FL} (h:tE K W (bg fl) σ H Q):Em (tA K W fl) σ H Q:=by
 obtain ⟨He,O,Fs,Γ,E,h⟩:=h;refine ⟨He,O,Fs,Γ,E,?_⟩
 unfold bg at h
 cases e:fl Γ with
 | ok ps Γ'=>
  rw [e] at h;intro vs H' Gs Fs' A
  have h:Wants K W He O Fs H σ Q (if (ps.all tok&&decide (ps.length<=sizeLine))=true then .ok ⟨.tup (ps.map zo),.tuple (ps.map (·.d))⟩ Γ' else .no):=h
  by_cases hc:(ps.all tok&&decide (ps.length<=sizeLine))=true
  ·rw [if_pos hc] at h
   simp only [Bool.and_eq_true,decide_eq_true_eq] at hc
   exact ⟨by rw [A.len1];exact hc.2,fun p hp=>h _ _ _ _ (A.newTup hc.1 hp)⟩
  ·rw [if_neg hc] at h
   exact h.elim
 | er c Γ'=>rw [e] at h;exact h
 | no=>rw [e] at h;exact h
end
def bH (p:PV) (ds:List D):Bool:=!p.s.isView||ds.all aZ
theorem Own.items {K:Fg} {O O':List Addr} {H:Hp} {s:Sh} {G:List Addr} {v:V} {ds:List D} (h:Own K O H s G v (.list ds)) (hc:bH ⟨s,.list ds⟩ ds=true) (h1:∀a∈O',a∈O) (h2:∀a∈G,a∉O') :
  ∃p vs,v=.ref p/\SqL K H p vs/\(s.isView=false->SqL K (bt H O') p vs)/\Reps K (bt H O') vs ds:=by
 have hr:=h.rep
 cases hv:s.isView with
 | false=>
  have r:=h.freeze hv h1 h2
  cases r with
  | @lst p vs _ hq hl hr=>exact ⟨p,vs,rfl,hid_le.seq hq,fun _=>hq,hl,hr⟩
 | true=>
  unfold bH at hc;have hc:ds.all aZ=true:=by simpa [hv] using hc
  cases hr with
  | @lst p vs _ hq hl hr=>exact ⟨p,vs,rfl,hq,nofun,hl,fun i v d e1 e2=>((hr i v d e1 e2).sc (List.all_eq_true.mp hc d (mem_of_getElem? e2))).rep⟩
theorem Own.itemsT {K:Fg} {O O':List Addr} {H:Hp} {s:Sh} {G:List Addr} {v:V} {ds:List D} (h:Own K O H s G v (.tuple ds)) (hc:bH ⟨s,.tuple ds⟩ ds=true) (h1:∀a∈O',a∈O) (h2:∀a∈G,a∉O') :
  ∃p vs,v=.ref p/\SqT K H p vs/\(s.isView=false->SqT K (bt H O') p vs)/\Reps K (bt H O') vs ds:=by
 have hr:=h.rep
 cases hv:s.isView with
 | false=>
  have r:=h.freeze hv h1 h2
  cases r with
  | @tup p vs _ hq hl hr=>exact ⟨p,vs,rfl,cP hid_le hq,fun _=>hq,hl,hr⟩
 | true=>
  unfold bH at hc;have hc:ds.all aZ=true:=by simpa [hv] using hc
  cases hr with
  | @tup p vs _ hq hl hr=>exact ⟨p,vs,rfl,hq,nofun,hl,fun i v d e1 e2=>((hr i v d e1 e2).sc (List.all_eq_true.mp hc d (mem_of_getElem? e2))).rep⟩
theorem DV {K:Fg} {σ:St} {He H H1:Hp} {O:List Addr} {Fs Fs1:List (List Addr)} {Γ1:Ev} {vs:List V} {ds:List D} {p:Addr} (E:EnvOk K He O Fs1 H1 σ Γ1) (s:Same H H1) (n:∀a∈Fs1.flatten,a∈Fs.flatten\/H a=none)
  (hr:Reps K (bt H1 (O++Fs1.flatten)) vs ds) (hp:H1 p=none):Aft K He O Fs H σ Γ1 ⟨.lst .leaf,.list ds⟩ (.ref p) (bb H1 p (.lst vs)) [p] Fs1:=by
 have E2:=E.hide (G:=[p]) (fD (o:=.lst vs) hp) (by simp) (fun a ha=>by simp at ha;rw [ha];exact hp) (fun a ha=>by simp at ha;rw [ha,dA];exact Option.some_ne_none _)
 refine ⟨s.trans (fD hp),E2,fun a ha=>?_,?_⟩
 ·rcases LP ha with z | z
  ·have z:a=p:=by simpa using z
   rw [z];exact .inr (s.free hp)
  ·exact n a z
 ·have fl:(List.replicate ds.length ([]:List Addr)).flatten=[]:=by simp
  have:[p]=p::(List.replicate ds.length ([]:List Addr)).flatten:=by rw [fl]
  rw [this];refine .lst rfl dA hr.1 (by simp) (by rw [fl];simp) fun i v d F h1 h2 h3=>?_
  rw [getElem?_replicate] at h3;split at h3
  ·cases h3
   refine .leaf ((hr.2 i v d h1 h2).mono (nD (fD hp) fun a ha=>?_))
   rw [fl] at ha;rcases LP ha with z | z
   ·rcases LP z with z | z
    ·have z:a=p:=by simpa using z
     rw [z];exact .inr hp
    ·exact .inl (LO _ z)
   ·exact .inl (LN _ z)
  ·cases h3
def zb (fa:F1):F1:=aK fa fun p Γ=>match p.d with
 | .list ds=>if bH p ds then .ok ⟨.lst .leaf,.list ds⟩ Γ else .no
 | .tuple ds=>if bH p ds then .ok ⟨.lst .leaf,.list ds⟩ Γ else .no
 | _=>.no
section
variable {K:Fg} {W:XW} {σ:St} {H:Hp} {Q:VK} {fa fb:F1}
theorem Aft.disj {He H1:Hp} {O G:List Addr} {Fs Fs1:List (List Addr)} {Γ1:Ev} {p:PV} {v:V} (A:Aft K He O Fs H σ Γ1 p v H1 G Fs1):∀a∈G,a∉O++Fs1.flatten:=fun a ha z=>by
 have nd:=A.env.nd
 rw [append_assoc] at nd;exact (LX nd).2.2 a ha a z rfl
theorem cU {G O F:List Addr}:∀a∈O++F,a∈G++O++F:=fun a ha=>by
 rw [append_assoc];exact LN _ ha
theorem pY (h:tE K W (zb fa) σ H Q):AL (fun xs H Q=>∃p ys,xs=[.ref p]/\(SqL K H p ys\/SqT K H p ys)/\∀l,H l=none->Q (.ref l) (bb H l (.lst ys))) (tA K W (ab fa af)) σ H Q:=by
 have h1:tE K W fa σ H fun x H1=>∃p ys,x=.ref p/\(SqL K H1 p ys\/SqT K H1 p ys)/\∀l,H1 l=none->Q (.ref l) (bb H1 l (.lst ys)):=by
  refine vX h fun He O Fs Γ1 p v H1 G Fs1 nd A w=>?_
  obtain ⟨s,d⟩:=p
  cases d with
  | list ds=>
   have w:Wants K W He O Fs H σ Q (if bH ⟨s,.list ds⟩ ds then .ok ⟨.lst .leaf,.list ds⟩ Γ1 else .no):=w
   cases hc:bH ⟨s,.list ds⟩ ds with
   | false=>rw [hc] at w;exact w.elim
   | true=>
    rw [hc] at w;obtain ⟨p,vs,rfl,hq,_,hr⟩:=A.own.items (O':=O++Fs1.flatten) hc cU A.disj
    exact ⟨p,vs,rfl,.inl hq,fun l hl=>w _ _ _ _ (DV A.go A.same A.newF hr hl)⟩
  | tuple ds=>
   have w:Wants K W He O Fs H σ Q (if bH ⟨s,.tuple ds⟩ ds then .ok ⟨.lst .leaf,.list ds⟩ Γ1 else .no):=w
   cases hc:bH ⟨s,.tuple ds⟩ ds with
   | false=>rw [hc] at w;exact w.elim
   | true=>
    rw [hc] at w;obtain ⟨p,vs,rfl,hq,_,hr⟩:=A.own.itemsT (O':=O++Fs1.flatten) hc cU A.disj
    exact ⟨p,vs,rfl,.inr hq,fun l hl=>w _ _ _ _ (DV A.go A.same A.newF hr hl)⟩
  | _=>exact w.elim
 obtain ⟨He,O,Fs,Γ,E,h1⟩:=h1;refine ⟨He,O,Fs,Γ,E,?_⟩
 unfold ab af
 cases e:fa Γ with
 | ok p Γ'=>
  rw [e] at h1;intro vs H' Gs Fs' A
  match vs,Gs,A.len1,A.len2 with
  | [v],[G],_,_=>
   have A':Aft K He O Fs H σ Γ' p v H' G Fs':=⟨A.same,by simpa using A.env,by simpa using A.new,by simpa using A.own 0 v p G rfl rfl rfl⟩
   obtain ⟨q,ys,rfl,h2,h3⟩:=h1 v H' G Fs' A'
   exact ⟨q,ys,rfl,h2,h3⟩
 | er c Γ'=>rw [e] at h1;exact h1
 | no=>rw [e] at h1;exact h1
end
structure vF (J:It) (P:Hp->Prop) (vs:List V):Prop where
 go:∀(i:Nat) H v,P H->vs[i]?=some v->J.go i H/\∀x H',J.yld i H x H'->H'=H/\x=v
 stop:∀H,P H->J.stop vs.length H
theorem ye {K:Fg} {a:Addr} {vs:List V}:vF (HG K a) (fun H=>SqL K H a vs) vs:=
 ⟨fun i H v hp hv=>⟨⟨vs,v,hp,hv⟩,fun x H' ⟨e,q⟩=>⟨e,Option.some.inj ((q vs hp).symm.trans hv)⟩⟩,fun H hp=>⟨vs,hp,L3 _⟩⟩
theorem Cq {K:Fg} {a:Addr} {vs:List V}:vF (HE K a) (fun H=>SqT K H a vs) vs:=
 ⟨fun i H v hp hv=>⟨⟨vs,v,hp,hv⟩,fun x H' ⟨e,q⟩=>⟨e,Option.some.inj ((q vs hp).symm.trans hv)⟩⟩,fun H hp=>⟨vs,hp,L3 _⟩⟩
def cV (lo:Int) (n:Nat):List V:=(List.range n).map fun i=>.int (lo+(i:Nat))
def bA (lo:Int) (n:Nat):List D:=(List.range n).map fun i=>.int (lo+(i:Nat))
theorem uO {lo:Int} {n:Nat}:vF (C4 lo n) (fun _=>True) (cV lo n):=by
 refine ⟨fun i H v _ hv=>?_,fun H _=>?_⟩
 ·unfold cV at hv
  rw [getElem?_map] at hv
  cases e:(List.range n)[i]? with
  | none=>rw [e] at hv;cases hv
  | some k=>
   rw [e] at hv;obtain ⟨h1,h2⟩:=LY e
   simp at h1 h2
   subst h2
   cases hv;exact ⟨h1,fun x H' ⟨q1,q2⟩=>⟨q1,q2⟩⟩
 ·show n<=(cV lo n).length
  simp [cV]
theorem IM {K:Fg} {H:Hp} {lo:Int} {n:Nat}:Reps K H (cV lo n) (bA lo n):=by
 refine ⟨by simp [cV,bA],fun i v d h1 h2=>?_⟩
 unfold cV at h1;unfold bA at h2;rw [getElem?_map] at h1 h2
 cases e:(List.range n)[i]? with
 | none=>rw [e] at h1;cases h1
 | some k=>
  rw [e] at h1 h2
  cases h1
  cases h2;exact .int _
structure HF where
 ds:List D
 st:Bool
abbrev FI:=Ev->Out HF
def DG (K:Fg) (W:XW) (He:Hp) (O:List Addr) (Fs:List (List Addr)) (H:Hp) (σ:St) (R:It->Hp->Prop) (o:Out HF):Prop:=match o with
 | .ok t Γ'=>∀J H' Fs' vs P,Same H H'->EnvOk K He O Fs' H' σ Γ'->(∀a∈Fs'.flatten,a∈Fs.flatten\/H a=none)->vF J P vs->P H'->(∀H2,Same H' H2->P H2)->(t.st=true->∀H2,Same (bt H' Fs'.flatten) H2->P H2) ->
   Reps K (bt H' (O++Fs'.flatten)) vs t.ds->R J H'
 | .er c Γ'=>∀H' Fs',Same H H'->EnvOk K He O Fs' H' σ Γ'->W c σ H'
 | .no=>False
def tI (K:Fg) (W:XW) (f:FI):TI:=fun σ H R=>∃He O Fs Γ,EnvOk K He O Fs H σ Γ/\DG K W He O Fs H σ R (f Γ)
theorem lP {X:Cx} {tg iter:Expr} {t t':TI} (h:PI X tg iter t) (i:∀σ H R,t' σ H R->t σ H R):PI X tg iter t':=fun pins s σ H R I q=>h pins s σ H R I (i σ H R q)
def aN (fa:F1):FI:=fun Γ=>(fa Γ).bind fun p Γ'=>match p.d with
 | .list ds=>if bH p ds then .ok ⟨ds,!p.s.isView⟩ Γ' else .no
 | _=>.no
def cZ (fa:F1):FI:=fun Γ=>(fa Γ).bind fun p Γ'=>match p.d with
 | .tuple ds=>if bH p ds then .ok ⟨ds,!p.s.isView⟩ Γ' else .no
 | _=>.no
section
variable {K:Fg} {W:XW} {σ:St} {H:Hp} {R:It->Hp->Prop} {fa fb:F1}
theorem sub_hid {H:Hp} {O F:List Addr}:Same (bt H (O++F)) (bt H F):=nD (Same.refl _) fun a ha=>.inl (LN _ ha)
theorem xo (h:tI K W (aN fa) σ H R):iM K (tE K W fa) σ H R:=by
 obtain ⟨He,O,Fs,Γ,E,h⟩:=h;refine ⟨He,O,Fs,Γ,E,?_⟩
 unfold aN at h
 cases e:fa Γ with
 | ok p Γ1=>
  rw [e] at h;intro v H1 G Fs1 A;obtain ⟨s,d⟩:=p
  cases d with
  | list ds=>
   have h:DG K W He O Fs H σ R (if bH ⟨s,.list ds⟩ ds then .ok ⟨ds,!s.isView⟩ Γ1 else .no):=h
   cases hc:bH ⟨s,.list ds⟩ ds with
   | false=>rw [hc] at h;exact h.elim
   | true=>
    rw [hc] at h;obtain ⟨p,vs,rfl,hq,hst,hr⟩:=A.own.items (O':=O++Fs1.flatten) hc cU A.disj
    exact ⟨p,rfl,⟨vs,hq⟩,h (HG K p) H1 Fs1 vs (fun H=>SqL K H p vs) A.same A.go A.newF ye hq (fun H2 s2=>s2.seq hq) (fun ht H2 s2=>s2.seq (sub_hid.seq (hst (by simpa using ht)))) hr⟩
  | _=>exact h.elim
 | er c Γ'=>rw [e] at h;exact h
 | no=>rw [e] at h;exact h
theorem xn (h:tI K W (cZ fa) σ H R):Fe K (tE K W fa) σ H R:=by
 obtain ⟨He,O,Fs,Γ,E,h⟩:=h;refine ⟨He,O,Fs,Γ,E,?_⟩
 unfold cZ at h
 cases e:fa Γ with
 | ok p Γ1=>
  rw [e] at h;intro v H1 G Fs1 A;obtain ⟨s,d⟩:=p
  cases d with
  | tuple ds=>
   have h:DG K W He O Fs H σ R (if bH ⟨s,.tuple ds⟩ ds then .ok ⟨ds,!s.isView⟩ Γ1 else .no):=h
   cases hc:bH ⟨s,.tuple ds⟩ ds with
   | false=>rw [hc] at h;exact h.elim
   | true=>
    rw [hc] at h;obtain ⟨p,vs,rfl,hq,hst,hr⟩:=A.own.itemsT (O':=O++Fs1.flatten) hc cU A.disj
    exact ⟨p,rfl,⟨vs,hq⟩,h (HE K p) H1 Fs1 vs (fun H=>SqT K H p vs) A.same A.go A.newF Cq hq (fun H2 s2=>cP s2 hq) (fun ht H2 s2=>cP s2 (cP sub_hid (hst (by simpa using ht)))) hr⟩
  | _=>exact h.elim
 | er c Γ'=>rw [e] at h;exact h
 | no=>rw [e] at h;exact h
def bV (j:Int):Bool:=decide (-(2 ^ 62)<=j)&&decide (j<2 ^ 62)
def gP:List D->Option Int
 | [.int j]=>if bV j then some j else none
 | _=>none
def pW:List D->Option (Int×Int)
 | [.int i,.int j]=>if bV i&&bV j then some (i,j) else none
 | _=>none
theorem nZ {ds:List D} {j:Int} (h:gP ds=some j):ds=[.int j]/\-(2 ^ 62)<=j/\j<2 ^ 62:=by
 unfold gP at h;split at h
 ·split at h
  ·rename_i hc
   cases h;simp only [bV,Bool.and_eq_true,decide_eq_true_eq] at hc
   exact ⟨rfl,hc.1,hc.2⟩
  ·cases h
 ·cases h
theorem w5 {ds:List D} {i j:Int} (h:pW ds=some (i,j)):ds=[.int i,.int j]/\(-(2 ^ 62)<=i/\i<2 ^ 62/\-(2 ^ 62)<=j/\j<2 ^ 62):=by
 unfold pW at h;split at h
 ·split at h
  ·rename_i hc
   cases h;simp only [bV,Bool.and_eq_true,decide_eq_true_eq] at hc
   exact ⟨rfl,hc.1.1,hc.1.2,hc.2.1,hc.2.2⟩
  ·cases h
 ·cases h
def dz (fl:FL):FI:=fun Γ=>(fl Γ).bind fun ps Γ'=>match gP (ps.map (·.d)) with
 | some j=>.ok ⟨bA 0 j.toNat,true⟩ Γ'
 | none=>.no
def rE (fl:FL):FI:=fun Γ=>(fl Γ).bind fun ps Γ'=>match pW (ps.map (·.d)) with
 | some (i,j)=>.ok ⟨bA i (j-i).toNat,true⟩ Γ'
 | none=>.no
theorem Bk {fl:FL} (h:tI K W (dz fl) σ H R):zK (tA K W fl) σ H R:=by
 obtain ⟨He,O,Fs,Γ,E,h⟩:=h;refine ⟨He,O,Fs,Γ,E,?_⟩
 unfold dz at h
 cases e:fl Γ with
 | ok ps Γ1=>
  rw [e] at h;intro vs H1 Gs Fs1 A;have h:DG K W He O Fs H σ R (match gP (ps.map (·.d)) with | some j=>.ok ⟨bA 0 j.toNat,true⟩ Γ1 | none=>.no):=h
  have rs:=A.reps
  cases e1:gP (ps.map (·.d)) with
  | none=>rw [e1] at h;exact h.elim
  | some j=>
   rw [e1] at h;obtain ⟨e2,h1,h2⟩:=nZ e1;rw [e2] at rs;obtain ⟨v,rfl,r⟩:=rs.one
   cases r;exact ⟨j,rfl,h1,h2,h (C4 0 j.toNat) H1 Fs1 (cV 0 j.toNat) (fun _=>True) A.same A.env.dropL (fun a ha=>A.new a (LN _ ha)) uO trivial (fun _ _=>trivial) (fun _ _ _=>trivial) IM⟩
 | er c Γ'=>rw [e] at h;exact h
 | no=>rw [e] at h;exact h
theorem Bj {fl:FL} (h:tI K W (rE fl) σ H R):zJ (tA K W fl) σ H R:=by
 obtain ⟨He,O,Fs,Γ,E,h⟩:=h;refine ⟨He,O,Fs,Γ,E,?_⟩
 unfold rE at h
 cases e:fl Γ with
 | ok ps Γ1=>
  rw [e] at h;intro vs H1 Gs Fs1 A;have h:DG K W He O Fs H σ R (match pW (ps.map (·.d)) with | some (i,j)=>.ok ⟨bA i (j-i).toNat,true⟩ Γ1 | none=>.no):=h
  have rs:=A.reps
  cases e1:pW (ps.map (·.d)) with
  | none=>rw [e1] at h;exact h.elim
  | some ij=>
   obtain ⟨i,j⟩:=ij;rw [e1] at h;obtain ⟨e2,hb⟩:=w5 e1;rw [e2] at rs;obtain ⟨v,u,rfl,r,r'⟩:=rs.two
   cases r
   cases r'
   exact ⟨i,j,rfl,hb,h (C4 i (j-i).toNat) H1 Fs1 (cV i (j-i).toNat) (fun _=>True) A.same A.env.dropL (fun a ha=>A.new a (LN _ ha)) uO trivial (fun _ _=>trivial) (fun _ _ _=>trivial) IM⟩
 | er c Γ'=>rw [e] at h;exact h
 | no=>rw [e] at h;exact h
end
def pq (i:Nat) (fc:FB) (fe:F1) (s:Sh):List D->Ev->List D->Out (List D)
 | [],Γ,acc=>.ok acc Γ
 | d::r,Γ,acc=>match fc (Γ.set i (L5 d)) with
  | .ok true Γ1=>(match fe Γ1 with
   | .ok p Γ2=>if T.coer s p&&decide (acc.length<sizeLine) then pq i fc fe s r (Γ2.set i none) (acc++[p.d]) else .no
   | _=>.no)
  | .ok false Γ1=>if acc.length<sizeLine then pq i fc fe s r (Γ1.set i none) acc else .no
  | _=>.no
def ax (s:Sh) (i:Nat) (fi:FI) (fc:FB) (fe:F1):F1:=fun Γ=>(fi Γ).bind fun t Γ1=>match pq i fc fe s t.ds (Γ1.set i none) [] with
 | .ok ds Γ2=>if !s.isView&&decide (i<Γ1.length) then .ok ⟨.lst s,.list ds⟩ (Γ2.set i (Γ1.getD i none)) else .no
 | _=>.no
abbrev W0:XW:=fun _ _ _=>False
section
variable {K:Fg} {He H H1 H2:Hp} {O G:List Addr} {Fs Fs1 Fs2:List (List Addr)} {σ:St} {Γ Γ1 Γ2:Ev}
theorem IB {is:List Nat} {σ:St} {j:Nat} (h:j∉is):(aX is σ)[j]?=σ[j]?:=by
 unfold aX;rw [List.getElem?_mapIdx]
 cases σ[j]? with
 | none=>rfl
 | some o=>simp [h]
theorem GP {Γ:Ev} {i j:Nat} {p:PV} (h:(Γ.set i none)[j]?=some (some p)):j≠i/\Γ[j]?=some (some p):=by
 by_cases hj:j=i
 ·subst hj
  rw [List.getElem?_set] at h;split at h
  ·split at h<;>cases h
  ·rename_i z;exact absurd rfl z
 ·rw [getElem?_set_ne (Ne.symm hj)] at h
  exact ⟨hj,h⟩
theorem EnvOk.shut {i:Nat} (E:EnvOk K He O Fs H σ Γ) (hi:i<Γ.length) :
  ∃F,Fs[i]?=some F/\EnvOk K He (F++O) (Fs.set i []) H (aX [i] σ) (Γ.set i none)/\∀a,a∈F++(Fs.set i []).flatten↔a∈Fs.flatten:=by
 obtain ⟨F,hF⟩:=E.lt hi;have pm:(F++(Fs.set i []).flatten).Perm Fs.flatten:=by simpa using jG (G:=[]) hF
 have pm2:(F++O++(Fs.set i []).flatten).Perm (O++Fs.flatten):=by
  rw [append_assoc];exact (km _ _ _).trans (List.Perm.append_left _ pm)
 refine ⟨F,hF,⟨by rw [zi,length_set];exact E.len1,by rw [length_set,length_set];exact E.len2,E.same,pm2.nodup_iff.mpr E.nd,fun a ha=>E.inH a (pm2.mem_iff.mp ha),fun a ha=>E.fresh a (pm.mem_iff.mp (LN _ ha)),fun j q hq=>?_⟩,fun a=>pm.mem_iff⟩
 obtain ⟨hj,hq⟩:=GP hq;obtain ⟨w1,v',F',e1,e2,e3⟩:=E.slot j q hq;exact ⟨w1,v',F',by rw [IB (by simpa using hj)];exact e1,by rw [getElem?_set_ne (Ne.symm hj)];exact e2,e3.mono (Same.refl _) fun a ha=>.inl (pm2.mem_iff.mp ha)⟩
theorem EnvOk.forget {i:Nat} {x:Option V} (E:EnvOk K He O Fs H ((aX [i] σ).set i x) Γ) (hi:i<Γ.length):EnvOk K He O (Fs.set i []) H (aX [i] σ) (Γ.set i none):=by
 obtain ⟨F,hF⟩:=E.lt hi;have pm:(F++(Fs.set i []).flatten).Perm Fs.flatten:=by simpa using jG (G:=[]) hF
 have sub:∀a∈O++(Fs.set i []).flatten,a∈O++Fs.flatten:=fun a ha=>by
  rcases LP ha with z | z
  ·exact LO _ z
  ·exact LN _ (pm.mem_iff.mp (LN _ z))
 have l1:=E.len1
 rw [length_set] at l1;obtain ⟨n1,n2,n3⟩:=LX E.nd;have n4:((Fs.set i []).flatten).Nodup:=(LX (pm.nodup_iff.mpr n2)).2.1
 refine ⟨by rw [length_set];exact l1,by rw [length_set,length_set];exact E.len2,E.same,List.nodup_append.mpr ⟨n1,n4,fun a ha b hb=>n3 a ha b (pm.mem_iff.mp (LN _ hb))⟩,fun a ha=>E.inH a (sub a ha),fun a ha=>E.fresh a (pm.mem_iff.mp (LN _ ha)),fun j q hq=>?_⟩
 obtain ⟨hj,hq⟩:=GP hq;obtain ⟨w1,v',F',e1,e2,e3⟩:=E.slot j q hq;rw [getElem?_set_ne (Ne.symm hj)] at e1;exact ⟨w1,v',F',e1,by rw [getElem?_set_ne (Ne.symm hj)];exact e2,e3.mono (Same.refl _) fun a ha=>.inl (sub a ha)⟩
theorem EnvOk.reopen {i:Nat} {F:List Addr} (E1:EnvOk K He O Fs1 H1 σ Γ1) (hF:Fs1[i]?=some F) (E2:EnvOk K He (G++(F++O)) Fs2 H2 (aX [i] σ) Γ2) (hl:Γ2.length=Γ1.length) (s:Same H1 H2)
  (hn:Γ2[i]?=some none) (hF2:Fs2[i]?=some []) (new:∀a∈G++Fs2.flatten,a∈Fs1.flatten\/H1 a=none):EnvOk K He (G++O) (Fs2.set i F) H2 σ (Γ2.set i (Γ1.getD i none)):=by
 have pm:((Fs2.set i F).flatten).Perm (F++Fs2.flatten):=by simpa using jG (G:=F) hF2
 have pm2:(G++O++(Fs2.set i F).flatten).Perm (G++(F++O)++Fs2.flatten):=by
  refine (List.Perm.append_left _ pm).trans ?_
  rw [append_assoc,append_assoc];refine List.Perm.append_left _ ?_
  rw [append_assoc];exact km _ _ _
 have hi:i<Γ2.length:=(LY hn).1
 refine ⟨by rw [length_set,hl];exact E1.len1,by rw [length_set,length_set];exact E2.len2,E2.same,pm2.nodup_iff.mpr E2.nd,fun a ha=>E2.inH a (pm2.mem_iff.mp ha),fun a ha=>?_,fun j q hq=>?_⟩
 ·rcases LP (pm.mem_iff.mp ha) with z | z
  ·exact E1.fresh a (ik hF z)
  ·exact E2.fresh a z
 ·by_cases hj:j=i
  ·subst hj
   rw [getElem?_set_self hi] at hq;have hq:Γ1.getD j none=some q:=Option.some.inj hq
   rw [LU] at hq;have hq':Γ1[j]?=some (some q):=by
    cases e:Γ1[j]? with
    | none=>rw [e] at hq;cases hq
    | some o=>rw [e] at hq;simp only [Option.getD_some] at hq;rw [hq]
   obtain ⟨w1,v',F',e1,e2,e3⟩:=E1.slot j q hq'
   rw [hF] at e2
   cases e2;refine ⟨w1,v',F,e1,getElem?_set_self (by rw [E2.len2];exact hi),e3.mono s fun a ha=>?_⟩
   rcases LP ha with z | z
   ·rcases LP z with z | z
    ·exact (new a (LO _ z)).elim (fun y=>.inl (LN _ y)) .inr
    ·exact .inl (LO _ z)
   ·rcases LP (pm.mem_iff.mp z) with y | y
    ·exact .inl (LN _ (ik hF y))
    ·exact (new a (LN _ y)).elim (fun y=>.inl (LN _ y)) .inr
  ·rw [getElem?_set_ne (Ne.symm hj)] at hq
   obtain ⟨w1,v',F',e1,e2,e3⟩:=E2.slot j q hq;rw [IB (by simpa using hj)] at e1
   exact ⟨w1,v',F',e1,by rw [getElem?_set_ne (Ne.symm hj)];exact e2,e3.mono (Same.refl _) fun a ha=>.inl (pm2.mem_iff.mp ha)⟩
theorem EnvOk.mutO {p:Addr} {o:HO} {xs:List V} (E:EnvOk K He O Fs H σ Γ) (hp:p∈O) (hl:H p=some (.lst xs)) (hn:He p=none):EnvOk K He O Fs (bb H p o) σ Γ:=by
 obtain ⟨n1,n2,n3⟩:=LX E.nd;refine ⟨E.len1,E.len2,fun b u e=>?_,E.nd,fun a ha=>?_,E.fresh,fun j q hq=>?_⟩
 ·rw [cw (vO e hn)]
  exact E.same b u e
 ·by_cases h:a=p
  ·rw [h,dA];exact Option.some_ne_none _
  ·rw [cw h];exact E.inH a ha
 ·obtain ⟨w1,v',F',e1,e2,e3⟩:=E.slot j q hq
  exact ⟨w1,v',F',e1,e2,e3.mut w1 (LO _ hp) (fun z=>n3 p hp p (ik e2 z) rfl) hl⟩
end
structure KN (K:Fg) (He:Hp) (O F:List Addr) (Fs1:List (List Addr)) (H1:Hp) (σ:St) (i:Nat) (s:Sh) (A0:Addr) (n:Nat) (ys:List V) (H:Hp) (Γk:Ev) (Fk Gs:List (List Addr)) (acc:List D):Prop where
 env:EnvOk K He (A0::Gs.flatten++(F++O)) Fk H (aX [i] σ) Γk
 same:Same H1 H
 at_:H A0=some (.lst ys)
 new:∀a∈Gs.flatten++Fk.flatten,a∈Fs1.flatten\/H1 a=none
 l1:ys.length=acc.length
 l2:Gs.length=acc.length
 own:∀(j:Nat) v d G,ys[j]?=some v->acc[j]?=some d->Gs[j]?=some G->Own K (A0::Gs.flatten++(F++O)++Fk.flatten) H s G v d
 noneG:Γk[i]?=some none
 noneF:Fk[i]?=some []
 len:Γk.length=n
theorem wt {α:Type} (Gs:List (List α)) (G:List α):(Gs++[G]).flatten=Gs.flatten++G:=by simp
section
variable {K:Fg} {W:XW} {σ:St} {H:Hp} {Q:VK} {fe:F1} {fc:FB} {fi:FI} {s:Sh} {i:Nat}
theorem og (h:tE K W (ax s i fi fc fe) σ H Q):ez [i] (tI K W fi) (bJ i) (tT K W0 fc) (tE K W0 fe) σ H Q:=by
 obtain ⟨He,O,Fs,Γ,E,h⟩:=h;refine ⟨He,O,Fs,Γ,E,?_⟩
 unfold ax at h
 cases e:fi Γ with
 | er c Γ'=>rw [e] at h;exact h
 | no=>rw [e] at h;exact h
 | ok t Γ1=>
  rw [e] at h;intro J H1 Fs1 vs P s1 E1 n1 it hP hP1 _ hr A0 hD;have h:Wants K W He O Fs H σ Q (match pq i fc fe s t.ds (Γ1.set i none) [] with | .ok ds Γ2=>if !s.isView&&decide (i<Γ1.length) then .ok ⟨.lst s,.list ds⟩ (Γ2.set i (Γ1.getD i none)) else .no | _=>.no):=h
  cases eg:pq i fc fe s t.ds (Γ1.set i none) [] with
  | er c Γ'=>rw [eg] at h;exact h.elim
  | no=>rw [eg] at h;exact h.elim
  | ok ds' Γ2=>
   rw [eg] at h;have h:Wants K W He O Fs H σ Q (if (!s.isView&&decide (i<Γ1.length))=true then .ok ⟨.lst s,.list ds'⟩ (Γ2.set i (Γ1.getD i none)) else .no):=h
   by_cases hc:(!s.isView&&decide (i<Γ1.length))=true
   case neg=>rw [if_neg hc] at h;exact h.elim
   rw [if_pos hc] at h;simp only [Bool.and_eq_true,decide_eq_true_eq,Bool.not_eq_true'] at hc
   obtain ⟨hsv,hi⟩:=hc;obtain ⟨F,hF,E0,hmem⟩:=E1.shut hi;have hHeD:He A0=none:=E1.same.free hD
   have E0':EnvOk K He (A0::([]:List (List Addr)).flatten++(F++O)) (Fs1.set i []) (bb H1 A0 (.lst [])) (aX [i] σ) (Γ1.set i none):=
    E0.hide (G:=[A0]) (fD hD) (by simp) (fun a ha=>by simp at ha;rw [ha];exact hD) (fun a ha=>by simp at ha;rw [ha,dA];exact Option.some_ne_none _)
   refine ⟨fun k m ys H'=>m=vs.length-k/\k<=vs.length/\∃Γk Fk Gs acc,KN K He O F Fs1 H1 σ i s A0 Γ1.length ys H' Γk Fk Gs acc/\pq i fc fe s (t.ds.drop k) Γk acc=.ok ds' Γ2,⟨vs.length,by simp,Nat.zero_le _,Γ1.set i none,Fs1.set i [],[],[],⟨E0',fD hD,dA,fun a ha=>.inl ((hmem a).mp (LN _ (by simpa using ha))),rfl,rfl,fun j v d G h1=>by simp at h1,getElem?_set_self hi,getElem?_set_self (by rw [E1.len2];exact hi),by rw [length_set]⟩,by simpa using eg⟩,?_⟩
   rintro k m ys H' ⟨rfl,hk,Γk,Fk,Gs,acc,g,eg'⟩
   refine ⟨g.at_,?_⟩
   have hPk:P H':=hP1 H' g.same
   have hlen:vs.length=t.ds.length:=hr.1
   by_cases hlt:k<vs.length
   case neg=>
    have hke:k=vs.length:=by omega
    left
    have:t.ds.drop k=[]:=drop_eq_nil_of_le (by omega)
    rw [this] at eg';have eg'':(Out.ok acc Γk:Out (List D))=.ok ds' Γ2:=eg'
    injection eg'' with e1 e2
    subst e1;subst e2;refine ⟨by rw [hke];exact it.stop H' hPk,?_⟩
    have E3:EnvOk K He ((A0::Gs.flatten)++O) (Fk.set i F) H' σ (Γk.set i (Γ1.getD i none)):=
     EnvOk.reopen (G:=A0::Gs.flatten) E1 hF g.env g.len g.same g.noneG g.noneF fun a ha=>by
      rcases LP ha with z | z
      ·rcases LQ z with z | z
       ·rw [z];exact .inr hD
       ·exact g.new a (LO _ z)
      ·exact g.new a (LN _ z)
    have pmF:((Fk.set i F).flatten).Perm (F++Fk.flatten):=by simpa using jG (G:=F) g.noneF
    obtain ⟨n1',_,n3'⟩:=LX g.env.ndO;refine h (.ref A0) H' (A0::Gs.flatten) (Fk.set i F) ⟨s1.trans g.same,E3,fun a ha=>?_,?_⟩
    ·have up:a∈Fs1.flatten\/H1 a=none->a∈Fs.flatten\/H a=none:=fun z=>z.elim (n1 a) fun y=>.inr (s1.free y)
     rcases LP ha with z | z
     ·rcases LQ z with z | z
      ·exact up (.inr (by rw [z];exact hD))
      ·exact up (g.new a (LO _ z))
     ·rcases LP (pmF.mem_iff.mp z) with y | y
      ·exact up (.inl (ik hF y))
      ·exact up (g.new a (LN _ y))
    ·refine .lst hsv g.at_ g.l1 g.l2 n1' fun j v d G h1 h2 h3=>(g.own j v d G h1 h2 h3).perm fun a ha=>?_
     rw [append_assoc] at ha ⊢;rcases LP ha with z | z
     ·exact LO _ z
     ·refine LN _ ?_
      rcases LP z with z | z
      ·exact LO _ (LN _ z)
      ·rcases LP (pmF.mem_iff.mp z) with y | y
       ·exact LO _ (LO _ y)
       ·exact LN _ y
   case pos=>
    right
    have hv:vs[k]?=some vs[k]:=LR hlt
    have hkd:k<t.ds.length:=by omega
    have hd:t.ds[k]?=some t.ds[k]:=LR hkd
    have hdr:t.ds.drop k=t.ds[k]::t.ds.drop (k+1):=drop_eq_getElem_cons hkd
    rw [hdr] at eg';generalize hdk:t.ds[k]=d at hd eg'
    generalize hvk:vs[k]=v at hv
    obtain ⟨hgo,hyld⟩:=it.go k H' v hPk hv
    simp only [pq] at eg'
    have hik:i<Γk.length:=by rw [g.len];exact hi
    have rep:Rep K (bt H' (A0::Gs.flatten++(F++O)++Fk.flatten)) v d:=(hr.2 k v d hv hd).mono (nD g.same fun a ha=>by
     rcases LP ha with z | z
     ·rcases LP z with z | z
      ·rcases LQ z with z | z
       ·rw [z];exact .inr hD
       ·exact (g.new a (LO _ z)).elim (fun y=>.inl (LN _ y)) .inr
      ·rcases LP z with z | z
       ·exact .inl (LN _ (ik hF z))
       ·exact .inl (LO _ z)
     ·exact (g.new a (LN _ z)).elim (fun y=>.inl (LN _ y)) .inr)
    have Ep:EnvOk K He (A0::Gs.flatten++(F++O)) (Fk.set i []) H' ((aX [i] σ).set i (some v)) (Γk.set i (L5 d)):=
     EnvOk.put (G:=[]) (p:=⟨.leaf,d⟩) (v:=v) g.env (.leaf rep) rfl (fun a ha=>by simp at ha) hik
    have hsl:ys.length<sizeLine:=by
     rw [g.l1]
     cases ec:fc (Γk.set i (L5 d)) with
     | no=>rw [ec] at eg';cases eg'
     | er c Γ'=>rw [ec] at eg';cases eg'
     | ok b Γa=>
      rw [ec] at eg'
      cases b with
      | false=>
       dsimp only at eg'
       split at eg'
       ·assumption
       ·cases eg'
      | true=>
       dsimp only at eg'
       split at eg'
       ·split at eg'
        ·rename_i z
         simp only [Bool.and_eq_true,decide_eq_true_eq] at z
         exact z.2
        ·cases eg'
       ·cases eg'
    refine ⟨hgo,hsl,fun x Hx hx=>?_⟩
    obtain ⟨rfl,rfl⟩:=hyld x Hx hx;show KJ (aX [i] σ) ((aX [i] σ).set i (some x))/\_
    refine ⟨⟨by rw [length_set],fun j u hj=>?_⟩,?_⟩
    ·have:=(GD hj).1
     rw [getElem?_set_ne (by simp at this;exact fun z=>this z.symm)]
     exact hj
    refine ⟨He,_,_,_,Ep,?_⟩
    cases ec:fc (Γk.set i (L5 d)) with
    | no=>rw [ec] at eg';cases eg'
    | er c Γ'=>rw [ec] at eg';cases eg'
    | ok b Γa=>
     rw [ec] at eg';intro H3 Fs3 s3 E3 n3;have lena:Γa.length=Γ1.length:=by
      have:=E3.len1
      rw [length_set,zi,E1.len1] at this;exact this.symm
     have n3':∀a∈Fs3.flatten,a∈Fs1.flatten\/H1 a=none:=fun a ha=>(n3 a ha).elim (fun z=>by
      have pm:((Fk.set i []).flatten).Perm Fk.flatten:=by simpa using jG (G:=[]) g.noneF
      exact g.new a (LN _ (pm.mem_iff.mp z))) fun z=>.inr (g.same.free z)
     cases b with
     | false=>
      dsimp only at eg'
      split at eg'
      case isFalse=>cases eg'
      refine jm ⟨vs.length-(k+1),by omega,rfl,hlt,Γa.set i none,Fs3.set i [],Gs,acc,⟨E3.forget (by rw [lena];exact hi),g.same.trans s3,s3 _ _ g.at_,fun a ha=>?_,g.l1,g.l2,fun j v d G h1 h2 h3=>(g.own j v d G h1 h2 h3).mono s3 fun a ha=>?_,getElem?_set_self (by rw [lena];exact hi),getElem?_set_self (by rw [E3.len2,lena];exact hi),by rw [length_set];exact lena⟩,eg'⟩
      ·rcases LP ha with z | z
       ·exact g.new a (LO _ z)
       ·obtain ⟨F3,hF3⟩:=E3.lt (i:=i) (by rw [lena];exact hi)
        have pm:(F3++(Fs3.set i []).flatten).Perm Fs3.flatten:=by simpa using jG (G:=[]) hF3
        exact n3' a (pm.mem_iff.mp (LN _ z))
      ·rcases LP ha with z | z
       ·exact .inl (LO _ z)
       ·obtain ⟨F3,hF3⟩:=E3.lt (i:=i) (by rw [lena];exact hi)
        have pm:(F3++(Fs3.set i []).flatten).Perm Fs3.flatten:=by simpa using jG (G:=[]) hF3
        have pm2:((Fk.set i []).flatten).Perm Fk.flatten:=by simpa using jG (G:=[]) g.noneF
        exact (n3 a (pm.mem_iff.mp (LN _ z))).elim (fun y=>.inl (LN _ (pm2.mem_iff.mp y))) .inr
     | true=>
      refine jl ⟨He,_,_,_,E3,?_⟩
      dsimp only at eg'
      cases ee:fe Γa with
      | no=>rw [ee] at eg';cases eg'
      | er c Γ'=>rw [ee] at eg';cases eg'
      | ok p Γb=>
       rw [ee] at eg';dsimp only at eg'
       split at eg'
       case isFalse=>cases eg'
       rename_i hco;simp only [Bool.and_eq_true,decide_eq_true_eq] at hco
       obtain ⟨hco,_⟩:=hco;intro u H4 G Fs4 A4;have lenb:Γb.length=Γ1.length:=by
        have:=A4.env.len1
        rw [length_set,zi,E1.len1] at this;exact this.symm
       have hib:i<Γb.length:=by rw [lenb];exact hi
       have at4:H4 A0=some (.lst ys):=A4.same _ _ (s3 _ _ g.at_)
       have s14:Same H1 H4:=(g.same.trans s3).trans A4.same
       have pmk:((Fk.set i []).flatten).Perm Fk.flatten:=by simpa using jG (G:=[]) g.noneF
       obtain ⟨F4,hF4⟩:=A4.env.lt hib;have pm4:(F4++(Fs4.set i []).flatten).Perm Fs4.flatten:=by simpa using jG (G:=[]) hF4
       have new4:∀a∈G++Fs4.flatten,a∈Fs1.flatten\/H1 a=none:=fun a ha=>(A4.new a ha).elim (n3' a) fun z=>.inr ((g.same.trans s3).free z)
       have hG':∀a∈aG s G,a∈G:=fun a ha=>Jd ha
       obtain ⟨k1,k2,k3⟩:=LX A4.env.ndO;have ndk:(aG s G).Nodup:=by
        cases s<;>first | exact nodup_nil | exact k1
       have pmO:(A0::(Gs++[aG s G]).flatten++(F++O)).Perm (aG s G++(A0::Gs.flatten++(F++O))):=by
        rw [wt];show (A0::((Gs.flatten++aG s G)++(F++O))).Perm _
        refine List.Perm.trans ?_ List.perm_middle.symm
        refine List.Perm.cons _ ?_
        rw [append_assoc];exact km _ _ _
       have E5:EnvOk K He (aG s G++(A0::Gs.flatten++(F++O))) Fs4 H4 ((aX [i] σ).set i (some x)) Γb:=A4.env.drop (fun a ha=>by
        rcases LP ha with z | z
        ·exact LO _ (hG' a z)
        ·exact LN _ z) (List.nodup_append.mpr ⟨ndk,k2,fun a ha b hb=>k3 a (hG' a ha) b hb⟩)
       have E6:=(E5.perm pmO).forget hib
       have hDin:A0∈A0::(Gs++[aG s G]).flatten++(F++O):=mem_cons_self
       have E7:=E6.mutO (o:=.lst (ys++[u])) hDin at4 hHeD
       have subH:∀a∈A0::(Gs++[aG s G]).flatten++(F++O)++(Fs4.set i []).flatten,a∈G++(A0::Gs.flatten++(F++O))++Fs4.flatten:=fun a ha=>by
        rcases LP ha with z | z
        ·rcases LP (pmO.mem_iff.mp z) with y | y
         ·exact LO _ (LO _ (hG' a y))
         ·exact LO _ (LN _ y)
        ·exact LN _ (pm4.mem_iff.mp (LN _ z))
       have Dnot:∀{j:Nat} {Gj:List Addr},Gs[j]?=some Gj->A0∉Gj:=fun {j Gj} hj z=>by
        have nd:=g.env.ndO
        exact (List.nodup_cons.mp nd).1 (LO _ (ik hj z))
       refine ⟨at4,vs.length-(k+1),by omega,rfl,hlt,Γb.set i none,Fs4.set i [],Gs++[aG s G],acc++[p.d],⟨E7,fun b o hb=>?_,dA,fun a ha=>?_,by simp [g.l1],by simp [g.l2],fun j w d' G' h1 h2 h3=>?_,getElem?_set_self hib,getElem?_set_self (by rw [A4.env.len2];exact hib),by rw [length_set];exact lenb⟩,eg'⟩
       ·rw [cw (vO hb hD)]
        exact s14 b o hb
       ·rcases LP ha with z | z
        ·rw [wt] at z
         rcases LP z with z | z
         ·exact g.new a (LO _ z)
         ·exact new4 a (LO _ (hG' a z))
        ·exact new4 a (LN _ (pm4.mem_iff.mp (LN _ z)))
       ·by_cases hj:j<ys.length
        ·rw [getElem?_append_left hj] at h1
         rw [getElem?_append_left (by rw [<-g.l1];exact hj)] at h2
         rw [getElem?_append_left (by rw [g.l2,<-g.l1];exact hj)] at h3
         have o1:=g.own j w d' G' h1 h2 h3
         have o2:=o1.mono (O':=A0::(Gs++[aG s G]).flatten++(F++O)++(Fs4.set i []).flatten) (s3.trans A4.same) fun a ha=>by
          have up:a∈G++Fs4.flatten->a∈A0::Gs.flatten++(F++O)++Fk.flatten\/Hx a=none:=fun z=>(A4.new a z).elim (fun y=>(n3 a y).elim (fun y=>.inl (LN _ (pmk.mem_iff.mp y))) .inr) fun y=>.inr (s3.free y)
          rcases LP (subH a ha) with z | z
          ·rcases LP z with z | z
           ·exact up (LO _ z)
           ·exact .inl (LO _ z)
          ·exact up (LN _ z)
         exact o2.mut hsv (LO _ hDin) (Dnot h3) at4
        ·have hj':j=ys.length:=by
          have:=(LY h1).1
          rw [length_append,length_singleton] at this;omega
         subst hj'
         rw [getElem?_append_right (L3 _),Nat.sub_self] at h1;rw [getElem?_append_right (by rw [g.l1];exact L3 _),show ys.length-acc.length=0 by rw [g.l1];exact Nat.sub_self _] at h2
         rw [getElem?_append_right (by rw [g.l2,g.l1];exact L3 _),show ys.length-Gs.length=0 by rw [g.l2,g.l1];exact Nat.sub_self _] at h3
         cases h1
         cases h2
         cases h3;have o3:=A4.own.coer (s:=s) (O':=A0::(Gs++[aG s G]).flatten++(F++O)++(Fs4.set i []).flatten) hco subH fun a ha hO=>by
          cases s with
          | leaf=>
           exfalso
           have hO':a∈(A0::Gs.flatten++(F++O))++(Fs4.set i []).flatten:=by
            rw [wt] at hO;simpa [aG] using hO
           rcases LP hO' with z | z
           ·exact k3 a ha a z rfl
           ·have nd:=A4.env.nd
            exact (LX nd).2.2 a (LO _ ha) a (pm4.mem_iff.mp (LN _ z)) rfl
          | view=>cases hsv
          | lst s=>exact ha
          | tup ss=>exact ha
         refine o3.mut hsv (LO _ hDin) (fun z=>?_) at4
         exact k3 A0 (hG' A0 z) A0 mem_cons_self rfl
end
inductive cu where
 | nx (e:Ev) | bk (e:Ev) | ct (e:Ev) | rt (p:PV) | er (c:Str) (e:Ev) | no
abbrev FS:=Ev->cu
structure RetOk (K:Fg) (He:Hp) (O:List Addr) (p:PV) (v:V) (H':Hp) (G:List Addr):Prop where
 same:Same He H'
 fresh:∀a∈G,He a=none
 inH:∀a∈G,H' a≠none
 nd:G.Nodup
 own:Own K (G++O) H' p.s G v p.d
 nv:p.s.isView=false
def gF (K:Fg) (W:XW) (He:Hp) (O:List Addr) (D:cQ):cu->Prop
 | .nx Γ'=>∀σ' H' Fs',EnvOk K He O Fs' H' σ' Γ'->D.nx σ' H'
 | .bk Γ'=>∀σ' H' Fs',EnvOk K He O Fs' H' σ' Γ'->D.bk σ' H'
 | .ct Γ'=>∀σ' H' Fs',EnvOk K He O Fs' H' σ' Γ'->D.ct σ' H'
 | .rt p=>∀v H' G,RetOk K He O p v H' G->D.rt v H'
 | .er c Γ'=>∀σ' H' Fs',EnvOk K He O Fs' H' σ' Γ'->W c σ' H'
 | .no=>False
def tS (K:Fg) (W:XW) (g:FS):TS:=fun D σ H=>∃He O Fs Γ,EnvOk K He O Fs H σ Γ/\gF K W He O D (g Γ)
def aQ:FS:=fun Γ=>.nx Γ
def ak (g1 g2:FS):FS:=fun Γ=>match g1 Γ with
 | .nx Γ'=>g2 Γ'
 | o=>o
def d0 (f:F1) (k:PV->Ev->cu):FS:=fun Γ=>match f Γ with
 | .ok p Γ'=>k p Γ'
 | .er c Γ'=>.er c Γ'
 | .no=>.no
def b7 (c:FB) (a b:FS):FS:=fun Γ=>match c Γ with
 | .ok t Γ'=>if t then a Γ' else b Γ'
 | .er c Γ'=>.er c Γ'
 | .no=>.no
section
variable {K:Fg} {W:XW} {σ:St} {H:Hp} {D:cQ} {fa fb:F1} {ga gb:FB} {g1 g2:FS}
theorem xj (h:tS K W aQ D σ H):sC D σ H:=by
 obtain ⟨He,O,Fs,Γ,E,h⟩:=h;exact h σ H Fs E
theorem A9 (h:tS K W (ak g1 g2) D σ H):wJ (tS K W g1) (tS K W g2) D σ H:=by
 obtain ⟨He,O,Fs,Γ,E,h⟩:=h;refine ⟨He,O,Fs,Γ,E,?_⟩
 unfold ak at h
 cases e:g1 Γ with
 | nx Γ'=>rw [e] at h;exact fun σ' H' Fs' E'=>⟨He,O,Fs',Γ',E',h⟩
 | bk Γ'=>rw [e] at h;exact h
 | ct Γ'=>rw [e] at h;exact h
 | rt p=>rw [e] at h;exact h
 | er c Γ'=>rw [e] at h;exact h
 | no=>rw [e] at h;exact h
theorem cY {k:PV->Ev->cu} {R:VK} (h:tS K W (d0 fa k) D σ H)
  (hk:∀He O Fs Γ1 p v H1 G Fs1,EnvOk K He O Fs H σ Γ1\/True->(∀a∈G,He a=none)->Aft K He O Fs H σ Γ1 p v H1 G Fs1->gF K W He O D (k p Γ1)->R v H1):tE K W fa σ H R:=by
 obtain ⟨He,O,Fs,Γ,E,h⟩:=h;refine ⟨He,O,Fs,Γ,E,?_⟩
 unfold d0 at h
 cases e:fa Γ with
 | ok p Γ1=>rw [e] at h;exact fun v H' G Fs' A=>hk He O Fs Γ1 p v H' G Fs' (.inr trivial) (A.freshG E) A h
 | er c Γ1=>rw [e] at h;exact fun H' Fs' s E'=>h σ H' Fs' E'
 | no=>rw [e] at h;exact h
theorem Bh (h:tS K W (b7 ga g1 g2) D σ H):AK (tT K W ga) (tS K W g1) (tS K W g2) D σ H:=by
 obtain ⟨He,O,Fs,Γ,E,h⟩:=h;refine ⟨He,O,Fs,Γ,E,?_⟩
 unfold b7 at h
 cases e:ga Γ with
 | ok b Γ1=>
  rw [e] at h;intro H' Fs' s E' n
  cases b with
  | true=>exact jl ⟨He,O,Fs',Γ1,E',h⟩
  | false=>exact jm ⟨He,O,Fs',Γ1,E',h⟩
 | er c Γ1=>rw [e] at h;exact fun H' Fs' s E'=>h σ H' Fs' E'
 | no=>rw [e] at h;exact h
def aF (f:F1):FS:=d0 f fun p _=>if p.s.isView then (if aZ p.d then .rt ⟨.leaf,p.d⟩ else .no) else .rt p
theorem Ba (h:tS K W (aF fa) D σ H):AG (tE K W fa) D σ H:=by
 refine cY h fun He O Fs Γ1 p v H1 G Fs1 _ fr A w=>?_
 obtain ⟨n1,n2,n3⟩:=LX A.env.ndO;have inH:∀a∈G,H1 a≠none:=fun a ha=>A.env.inH a (LO _ (LO _ ha))
 cases hv:p.s.isView with
 | false=>
  have w:gF K W He O D (.rt p):=by simpa [hv] using w
  exact w v H1 G ⟨A.env.same,fr,inH,n1,A.own.perm fun a ha=>LO _ ha,hv⟩
 | true=>
  cases hs:aZ p.d with
  | false=>rw [hv,hs] at w;exact w.elim
  | true=>
   have w:gF K W He O D (.rt ⟨.leaf,p.d⟩):=by simpa [hv,hs] using w
   exact w v H1 [] ⟨A.env.same,(fun _ z=>nomatch z),(fun _ z=>nomatch z),nodup_nil,.leaf (A.own.rep.sc hs).rep,rfl⟩
def aA (own:Bool) (i:Nat) (f:F1):FS:=d0 f fun p Γ=>if i<Γ.length then (if own&&!p.s.isView then .nx (Γ.set i (some p)) else if T.coer .leaf p then .nx (Γ.set i (L5 p.d)) else .no) else .no
theorem tp {own:Bool} {i:Nat} (h:tS K W (aA own i fa) D σ H):jZ (tE K W fa) (bJ i) D σ H:=by
 refine cY h fun He O Fs Γ1 p v H1 G Fs1 _ fr A w=>?_
 show D.nx (σ.set i (some v)) H1
 have w:gF K W He O D (if i<Γ1.length then (if own&&!p.s.isView then .nx (Γ1.set i (some p)) else if T.coer .leaf p then .nx (Γ1.set i (L5 p.d)) else .no) else .no):=w
 by_cases hi:i<Γ1.length
 case neg=>rw [if_neg hi] at w;exact w.elim
 rw [if_pos hi] at w
 cases ho:(own&&!p.s.isView) with
 | true=>
  rw [ho] at w;have hv:p.s.isView=false:=by
   simp only [Bool.and_eq_true,Bool.not_eq_true'] at ho
   exact ho.2
  exact w _ H1 _ (EnvOk.put A.env A.own hv fr hi)
 | false=>
  rw [ho] at w
  cases hc:T.coer .leaf p with
  | false=>rw [hc] at w;exact w.elim
  | true=>
   rw [hc] at w;have o:=A.own.coer (s:=.leaf) (O':=O++Fs1.flatten) hc cU fun a ha z=>absurd z (A.disj a ha)
   exact w _ H1 _ (EnvOk.put (G:=[]) (p:=⟨.leaf,p.d⟩) (v:=v) A.go o rfl (fun a ha=>by simp at ha) hi)
def bS (f:F1):FS:=d0 f fun _ Γ=>.nx Γ
theorem xr (h:tS K W (bS fa) D σ H):jX (tE K W fa) D σ H:=
 cY h fun He O Fs Γ1 p v H1 G Fs1 _ fr A w=>w σ H1 Fs1 A.go
theorem rO {α:Type} {l:List α} {i:Nat} {x:α} (h:l[i]?=some x):l.set i x=l:=by
 apply ext_getElem?
 intro j;by_cases hj:j=i
 ·subst hj
  rw [getElem?_set_self (LY h).1,h]
 ·rw [getElem?_set_ne (Ne.symm hj)]
def yS (i:Nat) (p:PV) (Γ:Ev):cu:=match Γ[i]? with
 | some (some ⟨.lst s,.list ds⟩)=>if T.coer s p&&decide (ds.length<sizeLine) then .nx (Γ.set i (some ⟨.lst s,.list (ds++[p.d])⟩)) else .no
 | _=>.no
def De:Option (Option PV)->Bool
 | some (some ⟨.lst _,.list _⟩)=>true
 | _=>false
def cX (i:Nat) (f:F1):FS:=fun Γ=>if De Γ[i]? then d0 f (yS i) Γ else .no
theorem yR {He H:Hp} {O G:List Addr} {Fs:List (List Addr)} {Γ:Ev} {i:Nat} {s:Sh} {ds:List L4} {p:PV} {v:V} (E:EnvOk K He (G++O) Fs H σ Γ) (o:Own K (G++O++Fs.flatten) H p.s G v p.d) (fr:∀a∈G,He a=none)
  (h:Γ[i]?=some (some ⟨.lst s,.list ds⟩)) (hc:T.coer s p=true) :
  ∃l vs,σ[i]?=some (some (.ref l))/\H l=some (.lst vs)/\vs.length=ds.length/\∃Fs',EnvOk K He O Fs' (bb H l (.lst (vs++[v]))) σ (Γ.set i (some ⟨.lst s,.list (ds++[p.d])⟩)):=by
 obtain ⟨hv,u,F,h1,E1,o1,sub⟩:=E.move h;have hi:i<Γ.length:=(LY h).1
 cases o1 with
 | @lst _ l vs _ Fs0 hsv hp hl hf nd q=>
  refine ⟨l,vs,h1,hp,hl,Fs.set i (l::(Fs0++[aG s G]).flatten),?_⟩
  have hlF:l∈Fs.flatten:=sub l (LO _ mem_cons_self)
  have hHe:He l=none:=E.fresh l hlF
  have hG':∀a∈aG s G,a∈G:=fun a ha=>Jd ha
  obtain ⟨k1,k2,k3⟩:=LX E1.ndO;obtain ⟨g1,g2,g3⟩:=LX k2;have ndk:(aG s G).Nodup:=by
   cases s<;>first | exact nodup_nil | exact g1
  have pmO:((l::(Fs0++[aG s G]).flatten)++O).Perm ((l::Fs0.flatten)++(aG s G++O)):=by
   rw [wt];show (l::((Fs0.flatten++aG s G)++O)).Perm (l::(Fs0.flatten++(aG s G++O)))
   rw [append_assoc]
  have E2:EnvOk K He ((l::Fs0.flatten)++(aG s G++O)) (Fs.set i []) H σ (Γ.set i none):=E1.drop (fun a ha=>by
   rcases LP ha with z | z
   ·exact LO _ z
   ·refine LN _ ?_
    rcases LP z with z | z
    ·exact LO _ (hG' a z)
    ·exact LN _ z) (List.nodup_append.mpr ⟨k1,List.nodup_append.mpr ⟨ndk,g2,fun a ha b hb=>g3 a (hG' a ha) b hb⟩,fun a ha b hb=>k3 a ha b (by
     rcases LP hb with z | z
     ·exact LO _ (hG' b z)
     ·exact LN _ z)⟩)
  have E3:=E2.perm pmO
  have hlin:l∈(l::(Fs0++[aG s G]).flatten)++O:=mem_cons_self
  have E4:=E3.mutO (o:=.lst (vs++[v])) hlin hp hHe
  have lnG:l∉G:=fun z=>k3 l mem_cons_self l (LO _ z) rfl
  have subH:∀a∈(l::(Fs0++[aG s G]).flatten)++O++(Fs.set i []).flatten,a∈(l::Fs0.flatten)++(G++O)++(Fs.set i []).flatten:=fun a ha=>by
   rcases LP ha with z | z
   ·refine LO _ ?_
    rcases LP (pmO.mem_iff.mp z) with y | y
    ·exact LO _ y
    ·refine LN _ ?_
     rcases LP y with y | y
     ·exact LO _ (hG' a y)
     ·exact LN _ y
   ·exact LN _ z
  have ownL:Own K ((l::(Fs0++[aG s G]).flatten)++O++(Fs.set i []).flatten) (bb H l (.lst (vs++[v]))) (.lst s) (l::(Fs0++[aG s G]).flatten) (.ref l) (.list (ds++[p.d])):=by
   refine .lst hsv dA (by simp [hl]) (by simp [hf]) ?_ fun j w d' G' e1 e2 e3=>?_
   ·have nd2:=E3.ndO
    exact (LX nd2).1
   ·by_cases hj:j<vs.length
    ·rw [getElem?_append_left hj] at e1
     rw [getElem?_append_left (by omega)] at e2
     rw [getElem?_append_left (by omega)] at e3
     exact ((q j w d' G' e1 e2 e3).perm subH).mut hsv (LO _ hlin) (fun z=>(List.nodup_cons.mp nd).1 (ik e3 z)) hp
    ·have hj':j=vs.length:=by
      have:=(LY e1).1
      rw [length_append,length_singleton] at this;omega
     subst hj'
     rw [getElem?_append_right (L3 _),Nat.sub_self] at e1;rw [getElem?_append_right (by omega),show vs.length-ds.length=0 by omega] at e2
     rw [getElem?_append_right (by omega),show vs.length-Fs0.length=0 by omega] at e3
     cases e1
     cases e2
     cases e3;have osub:∀a∈(l::(Fs0++[aG s G]).flatten)++O++(Fs.set i []).flatten,a∈G++O++Fs.flatten:=fun a ha=>by
      rcases LP (subH a ha) with z | z
      ·rcases LP z with z | z
       ·exact LN _ (sub a (LO _ z))
       ·exact LO _ z
      ·exact LN _ (sub a (LN _ z))
     have o3:=o.coer (s:=s) hc osub fun a ha hO=>by
      cases s with
      | leaf=>
       exfalso
       rw [wt] at hO;have hO':a∈(l::Fs0.flatten)++O++(Fs.set i []).flatten:=by simpa [aG] using hO
       have ndE:=E.nd
       rw [append_assoc] at ndE;have dis:=(LX ndE).2.2
       rcases LP hO' with z | z
       ·rcases LP z with z | z
        ·exact dis a ha a (LN _ (sub a (LO _ z))) rfl
        ·exact dis a ha a (LO _ z) rfl
       ·exact dis a ha a (LN _ (sub a (LN _ z))) rfl
      | view=>cases hsv
      | lst s=>exact ha
      | tup ss=>exact ha
     exact o3.mut hsv (LO _ hlin) (fun z=>lnG (hG' l z)) hp
  have fin:=EnvOk.put (i:=i) (p:=⟨.lst s,.list (ds++[p.d])⟩) (v:=.ref l) E4 ownL rfl (fun a ha=>?_) (by rw [length_set];exact hi)
  ·rw [set_set,set_set,rO h1] at fin
   exact fin
  ·rcases LQ ha with z | z
   ·rw [z];exact hHe
   ·rw [wt] at z
    rcases LP z with z | z
    ·exact E.fresh a (sub a (LO _ (LW _ z)))
    ·exact fr a (hG' a z)
theorem C6 {QL:List V->Hp->Prop} (h1:tE K W fa σ H fun v H'=>QL [v] H'):tA K W (ab fa af) σ H QL:=by
 obtain ⟨He,O,Fs,Γ,E,h1⟩:=h1;refine ⟨He,O,Fs,Γ,E,?_⟩
 unfold ab af
 cases e:fa Γ with
 | ok p Γ'=>
  rw [e] at h1;intro vs H' Gs Fs' A
  match vs,Gs,A.len1,A.len2 with
  | [v],[G],_,_=>exact h1 v H' G Fs' ⟨A.same,by simpa using A.env,by simpa using A.new,by simpa using A.own 0 v p G rfl rfl rfl⟩
 | er c Γ'=>rw [e] at h1;exact h1
 | no=>rw [e] at h1;exact h1
theorem qB {o:Option (Option PV)} (h:De o=true):∃s ds,o=some (some ⟨.lst s,.list ds⟩):=by
 unfold De at h;split at h
 ·exact ⟨_,_,rfl⟩
 ·cases h
theorem EnvOk.ownL {He H:Hp} {O:List Addr} {Fs:List (List Addr)} {Γ:Ev} {i:Nat} {s:Sh} {ds:List L4} (E:EnvOk K He O Fs H σ Γ) (h:Γ[i]?=some (some ⟨.lst s,.list ds⟩)):∃l vs,σ[i]?=some (some (.ref l))/\H l=some (.lst vs)/\vs.length=ds.length:=by
 obtain ⟨hv,v,F,h1,h2,h3⟩:=E.slot i _ h
 cases h3 with
 | @lst _ l vs _ Fs0 hsv hp hl hf nd q=>exact ⟨l,vs,h1,hp,hl⟩
theorem pZ {i:Nat} (h:tS K W (cX i fa) D σ H):jX (Er K "list" Ij (bI i) (tA K W (ab fa af))) D σ H:=by
 obtain ⟨He,O,Fs,Γ,E,h⟩:=h;unfold cX at h
 cases ho:De Γ[i]? with
 | false=>rw [ho] at h;exact h.elim
 | true=>
  rw [ho] at h;obtain ⟨s,ds,e0⟩:=qB ho;obtain ⟨l,vs,h1,h2,h3⟩:=E.ownL e0;refine ⟨.ref l,h1,.inl ⟨rfl,vs,.of h2⟩,C6 (cY (D:=D) ⟨He,O,Fs,Γ,E,h⟩ fun He O Fs Γ1 p v H1 G Fs1 _ fr A w=>?_)⟩
  unfold yS at w;split at w
  ·rename_i s1 ds1 e1
   cases hc:(T.coer s1 p&&decide (ds1.length<sizeLine)) with
   | false=>rw [hc] at w;exact w.elim
   | true=>
    rw [hc] at w;simp only [Bool.and_eq_true,decide_eq_true_eq] at hc
    obtain ⟨l1,vs1,q1,q2,q3,Fs',E'⟩:=yR A.env A.own fr e1 hc.1;rw [h1] at q1
    cases q1;exact ⟨l,vs1,v,rfl,rfl,q2,by rw [q3];exact hc.2,w σ _ Fs' E'⟩
  ·exact w.elim
def bp (i:Nat) (body:FS):List L4->Ev->cu
 | [],Γ=>.nx Γ
 | d::r,Γ=>if i<Γ.length then (match body (Γ.set i (L5 d)) with
  | .nx Γ'=>bp i body r Γ'
  | .ct Γ'=>bp i body r Γ'
  | .bk Γ'=>.nx Γ'
  | .rt p=>.rt p
  | .er c Γ'=>.er c Γ'
  | .no=>.no) else .no
def cJ (i:Nat) (fi:FI) (body:FS):FS:=fun Γ=>match fi Γ with
 | .ok t Γ1=>if t.st then bp i body t.ds Γ1 else .no
 | .er c Γ1=>.er c Γ1
 | .no=>.no
theorem EnvOk.rebase {He H:Hp} {O:List Addr} {Fs:List (List Addr)} {Γ:Ev} (E:EnvOk K He O Fs H σ Γ):EnvOk K (bt H Fs.flatten) O Fs H σ Γ/\Same He (bt H Fs.flatten):=
 ⟨⟨E.len1,E.len2,hid_le,E.nd,E.inH,fun a ha=>by unfold bt;rw [if_pos ha],E.slot⟩,fun b o e=>Dh (E.same b o e) fun z=>by have:=E.fresh b z;rw [e] at this;cases this⟩
theorem EnvOk.unbase {He He' H:Hp} {O:List Addr} {Fs:List (List Addr)} {Γ:Ev} (E:EnvOk K He' O Fs H σ Γ) (s:Same He He'):EnvOk K He O Fs H σ Γ:=
 ⟨E.len1,E.len2,s.trans E.same,E.nd,E.inH,fun a ha=>s.free (E.fresh a ha),E.slot⟩
theorem RetOk.unbase {He He' H:Hp} {O G:List Addr} {p:PV} {v:V} (r:RetOk K He' O p v H G) (s:Same He He'):RetOk K He O p v H G:=
 ⟨s.trans r.same,fun a ha=>s.free (r.fresh a ha),r.inH,r.nd,r.own,r.nv⟩
theorem Bm {i:Nat} {fi:FI} {body:FS} (h:tS K W (cJ i fi body) D σ H):wL (tI K W fi) (bJ i) (tS K W body) D σ H:=by
 obtain ⟨He,O,Fs,Γ,E,h⟩:=h;refine ⟨He,O,Fs,Γ,E,?_⟩
 unfold cJ at h
 cases e:fi Γ with
 | er c Γ1=>rw [e] at h;exact fun H' Fs' s E'=>h σ H' Fs' E'
 | no=>rw [e] at h;exact h
 | ok t Γ1=>
  rw [e] at h;intro J H1 Fs1 vs P s1 E1 n1 it hP hP1 hst hr;have h:gF K W He O D (if t.st then bp i body t.ds Γ1 else .no):=h
  cases ht:t.st with
  | false=>rw [ht] at h;exact h.elim
  | true=>
   rw [ht] at h;have h:gF K W He O D (bp i body t.ds Γ1):=h
   obtain ⟨E1',sHe⟩:=E1.rebase;have hlen:vs.length=t.ds.length:=hr.1
   refine ⟨fun k m σ' H'=>m=vs.length-k/\k<=vs.length/\∃Γk Fk,EnvOk K (bt H1 Fs1.flatten) O Fk H' σ' Γk/\gF K W He O D (bp i body (t.ds.drop k) Γk),⟨vs.length,by simp,Nat.zero_le _,Γ1,Fs1,E1',by simpa using h⟩,?_⟩
   rintro k m σ' H' ⟨rfl,hk,Γk,Fk,Ek,hw⟩
   have hPk:P H':=hst ht H' Ek.same
   by_cases hlt:k<vs.length
   case neg=>
    left
    have hke:k=vs.length:=by omega
    have:t.ds.drop k=[]:=drop_eq_nil_of_le (by omega)
    rw [this] at hw;exact ⟨by rw [hke];exact it.stop H' hPk,hw σ' H' Fk (Ek.unbase sHe)⟩
   case pos=>
    right
    have hv:vs[k]?=some vs[k]:=LR hlt
    have hkd:k<t.ds.length:=by omega
    have hd:t.ds[k]?=some t.ds[k]:=LR hkd
    have hdr:t.ds.drop k=t.ds[k]::t.ds.drop (k+1):=drop_eq_getElem_cons hkd
    rw [hdr] at hw;generalize hdk:t.ds[k]=d at hd hw
    generalize hvk:vs[k]=v at hv
    obtain ⟨hgo,hyld⟩:=it.go k H' v hPk hv
    simp only [bp] at hw
    by_cases hi:i<Γk.length
    case neg=>rw [if_neg hi] at hw;exact hw.elim
    rw [if_pos hi] at hw;have rep:Rep K (bt H' (O++Fk.flatten)) v d:=by
     refine (hr.2 k v d hv hd).mono fun b o hb=>?_
     have hb1:bt H1 Fs1.flatten b=some o:=sub_hid b o hb
     have hbO:b∉O:=fun z=>by
      unfold bt at hb;rw [if_pos (LO _ z)] at hb
      cases hb
     have hbF:b∉Fk.flatten:=fun z=>by
      have:=Ek.fresh b z
      rw [hb1] at this
      cases this
     exact Dh (Ek.same b o hb1) fun z=>(LP z).elim hbO hbF
    have Ep:EnvOk K (bt H1 Fs1.flatten) O (Fk.set i []) H' (σ'.set i (some v)) (Γk.set i (L5 d)):=
     EnvOk.put (G:=[]) (p:=⟨.leaf,d⟩) (v:=v) Ek (.leaf rep) rfl (fun a ha=>by simp at ha) hi
    refine ⟨hgo,fun σ2 H2=>∃Γk Fk,EnvOk K (bt H1 Fs1.flatten) O Fk H2 σ2 Γk/\gF K W He O D (bp i body (t.ds.drop (k+1)) Γk),fun σ2 H2 q=>⟨vs.length-(k+1),by omega,rfl,hlt,q⟩,fun x Hx hx=>?_⟩
    obtain ⟨rfl,rfl⟩:=hyld x Hx hx;show tS K W body _ (σ'.set i (some x)) Hx
    refine ⟨bt H1 Fs1.flatten,O,_,_,Ep,?_⟩
    cases eb:body (Γk.set i (L5 d)) with
    | nx Γ'=>rw [eb] at hw;exact fun σ2 H2 F2 E2=>⟨Γ',F2,E2,hw⟩
    | ct Γ'=>rw [eb] at hw;exact fun σ2 H2 F2 E2=>⟨Γ',F2,E2,hw⟩
    | bk Γ'=>rw [eb] at hw;exact fun σ2 H2 F2 E2=>hw σ2 H2 F2 (E2.unbase sHe)
    | rt p=>rw [eb] at hw;exact fun u H2 G r=>hw u H2 G (r.unbase sHe)
    | er c Γ'=>rw [eb] at hw;exact fun σ2 H2 F2 E2=>hw σ2 H2 F2 (E2.unbase sHe)
    | no=>rw [eb] at hw;exact hw
end
inductive Res where
 | ok (p:PV) | er (c:Str) | no
def pN (K:Fg) (n:Nat) (den:List L4->Res):Sp:=fun vs H Q _=>vs.length=n/\∃O ds,O.Nodup/\(∀a∈O,H a≠none)/\Reps K (bt H O) vs ds/\match den ds with
 | .ok p=>∀v H' G,RetOk K H O p v H' G->Q v H'
 | .er _=>False
 | .no=>False
def aI (n:Nat) (ds:List L4):Ev:=ds.map (fun d=>some ⟨.leaf,d⟩)++List.replicate (n-ds.length) none
def aB (n:Nat) (g:FS) (ds:List L4):Res:=match g (aI n ds) with
 | .nx _=>.ok ⟨.leaf,.none⟩
 | .rt p=>.ok p
 | .er c _=>.er c
 | _=>.no
section
variable {P:Program} {w:World} {K:Fg} {mg:Str->Option Value} {base:Heap}
theorem qH {N:List Str} {H:Hp} {O:List Addr} {vs:List V} {ds:List L4} (hn:vs.length<=N.length) (nd:O.Nodup) (inH:∀a∈O,H a≠none) (rs:Reps K (bt H O) vs ds) :
  EnvOk K H O (List.replicate N.length []) H (L2.start N vs) (aI N.length ds):=by
 have fl:(List.replicate N.length ([]:List Addr)).flatten=[]:=by simp
 have hl:=rs.1
 refine ⟨by simp [L2.start,aI,hl],by simp [aI];omega,Same.refl _,by rw [fl];simpa using nd,by rw [fl];simpa using inH,fun a ha=>by rw [fl] at ha;simp at ha,fun i p hp=>?_⟩
 unfold aI at hp;by_cases hi:i<ds.length
 ·rw [getElem?_append_left (by simpa using hi),getElem?_map,LR hi] at hp
  cases hp;refine ⟨rfl,vs[i]'(by omega),[],?_,?_,?_⟩
  ·unfold L2.start
   rw [getElem?_append_left (by simp;omega),getElem?_map,LR (by omega)]
   rfl
  ·rw [getElem?_replicate,if_pos (by omega)]
  ·refine .leaf ?_
   rw [fl,append_nil];exact rs.2 i _ _ (LR _) (LR hi)
 ·rw [getElem?_append_right (by simpa using hi),getElem?_replicate] at hp
  split at hp<;>cases hp
theorem CI {x qual:Str} {st:Stmt} {f:Addr} {fd:FuncData} {N ps:List Str} {k:Nat} {g:FS} (F:Fun K x qual st f fd) (S:cy N ps (fH st))
  (hb:∀(cdv:Value) (A:Around) (outer:List Env) (s:Shared) (H:Hp) (E:XK),Room k (A.deeper (envOfC qual (fH st) s.heap.objs.size f cdv)) ->
   PSs (lD nB P w K mg base N qual (fH st) f cdv A outer s H E).nox (rK st) (tS K W0 g)):dw P w K mg base nB (k+1) f fd ps (pN K ps.length (aB N.length g)):=by
 have hpl:ps.length<=N.length:=by have:=congrArg List.length S.pre;rw [length_take] at this;omega
 refine F.ok S (fun vs H Q E h=>h.1) (fun cdv A outer s H vs Q E hr h=>⟨_,hb cdv A outer s H E hr,?_⟩)
 obtain ⟨hl,O,ds,nd,inH,rs,w⟩:=h;refine ⟨H,O,List.replicate N.length [],aI N.length ds,qH (by omega) nd inH rs,?_⟩
 unfold aB at w
 cases e:g (aI N.length ds) with
 | nx Γ'=>
  rw [e] at w;exact fun σ' H' Fs' E'=>w .non H' [] ⟨E'.same,(fun _ z=>nomatch z),(fun _ z=>nomatch z),nodup_nil,.leaf .non,rfl⟩
 | rt p=>rw [e] at w;exact w
 | bk Γ'=>rw [e] at w;exact w.elim
 | ct Γ'=>rw [e] at w;exact w.elim
 | er c Γ'=>rw [e] at w;exact w.elim
 | no=>rw [e] at w;exact w.elim
end
def ag (n:Nat) (den:List L4->Res) (fl:FL):F1:=fun Γ=>(fl Γ).bind fun ps Γ'=>if ps.length=n then (match den (ps.map (·.d)) with
 | .ok p=>if ps.all (T.coer .leaf) then .ok p Γ' else if aZ p.d then .ok ⟨.leaf,p.d⟩ Γ' else .ok ⟨.view,p.d⟩ Γ'
 | _=>.no) else .no
section
variable {K:Fg} {W:XW} {σ:St} {H:Hp} {Q:VK} {fl:FL}
theorem xu {n:Nat} {den:List L4->Res} {E:XK} (h:tE K W (ag n den fl) σ H Q):sF (pN K n den) [] E (tA K W fl) σ H Q:=by
 obtain ⟨He,O,Fs,Γ,E0,h⟩:=h;refine ⟨He,O,Fs,Γ,E0,?_⟩
 unfold ag at h
 cases e:fl Γ with
 | er c Γ'=>rw [e] at h;exact h
 | no=>rw [e] at h;exact h
 | ok ps Γ1=>
  rw [e] at h;intro vs H1 Gs Fs1 A;have h:Wants K W He O Fs H σ Q (if ps.length=n then (match den (ps.map (·.d)) with | .ok p=>if ps.all (T.coer .leaf) then .ok p Γ1 else if aZ p.d then .ok ⟨.leaf,p.d⟩ Γ1 else .ok ⟨.view,p.d⟩ Γ1 | _=>.no) else .no):=h
  by_cases hn:ps.length=n
  case neg=>rw [if_neg hn] at h;exact h.elim
  rw [if_pos hn] at h;have hl:(vs++[]).length=n:=by rw [append_nil,A.len1];exact hn
  cases ed:den (ps.map (·.d)) with
  | er c=>rw [ed] at h;exact h.elim
  | no=>rw [ed] at h;exact h.elim
  | ok p=>
   rw [ed] at h;have h:Wants K W He O Fs H σ Q (if ps.all (T.coer .leaf) then .ok p Γ1 else if aZ p.d then .ok ⟨.leaf,p.d⟩ Γ1 else .ok ⟨.view,p.d⟩ Γ1):=h
   obtain ⟨n1,n2,n3⟩:=LX A.env.nd;obtain ⟨m1,m2,m3⟩:=LX n1;have newF:∀a∈Fs1.flatten,a∈Fs.flatten\/H a=none:=fun a ha=>A.new a (LN _ ha)
   cases hc:ps.all (T.coer .leaf) with
   | true=>
    rw [hc] at h;have h:Wants K W He O Fs H σ Q (.ok p Γ1):=h
    refine ⟨hl,O++Fs1.flatten,ps.map (·.d),A.env.dropL.nd,A.env.dropL.inH,?_,?_⟩
    ·rw [append_nil]
     refine ⟨A.reps.1,fun i v d h1 h2=>?_⟩
     rw [getElem?_map] at h2
     cases e2:ps[i]? with
     | none=>rw [e2] at h2;cases h2
     | some q=>
      rw [e2] at h2
      cases h2;have hi:=(LY e2).1
      have e3:Gs[i]?=some (Gs[i]'(by rw [A.len2];exact hi)):=LR _
      have o:=A.own i v q _ h1 e2 e3
      have o2:=o.coer (s:=.leaf) (O':=O++Fs1.flatten) (List.all_eq_true.mp hc q (mem_of_getElem? e2)) cU fun a ha z=>by
       exfalso
       have hG:=ik e3 ha
       rcases LP z with y | y
       ·exact m3 a hG a y rfl
       ·exact n3 a (LO _ hG) a y rfl
      cases o2 with
      | leaf r=>exact r
    ·rw [ed]
     intro v H2 G r;refine h v H2 G Fs1 ⟨A.same.trans r.same,A.env.dropL.hide r.same r.nd r.fresh r.inH,fun a ha=>?_,by rw [append_assoc];exact r.own⟩
     rcases LP ha with z | z
     ·exact .inr (A.same.free (r.fresh a z))
     ·exact newF a z
   | false=>
    rw [hc] at h;have h:Wants K W He O Fs H σ Q (if aZ p.d then .ok ⟨.leaf,p.d⟩ Γ1 else .ok ⟨.view,p.d⟩ Γ1):=h
    refine ⟨hl,[],ps.map (·.d),nodup_nil,(fun _ z=>nomatch z),by rw [append_nil,HW];exact A.reps,?_⟩
    rw [ed];intro v H2 G r
    cases hs:aZ p.d with
    | true=>
     rw [hs] at h;exact Wants.scal h (r.own.rep.sc hs) (A.same.trans r.same) (A.env.dropL.grow r.same) (fun a ha=>ha) E0.ndO newF
    | false=>
     rw [hs] at h;have h:Wants K W He O Fs H σ Q (.ok ⟨.view,p.d⟩ Γ1):=h
     exact h v H2 [] Fs1 ⟨A.same.trans r.same,by simpa using A.env.dropL.grow r.same,by simpa using newF,.view r.own.rep⟩
end
theorem zQ:bootBuiltins "len"=some (.builtin "len"):=by decide +kernel
theorem Fz:bootBuiltins "all"=some (.builtin "all"):=by decide +kernel
theorem Fy:bootBuiltins "any"=some (.builtin "any"):=by decide +kernel
theorem Fv:bootBuiltins "max"=some (.builtin "max"):=by decide +kernel
theorem vv:bootBuiltins "sorted"=some (.builtin "sorted"):=by decide +kernel
theorem jB:bootBuiltins "isinstance"=some (.builtin "isinstance"):=by decide +kernel
theorem Fw:bootBuiltins "int"=some (.type "int"):=by decide +kernel
theorem vw:bootBuiltins "list"=some (.type "list"):=by decide +kernel
theorem pb:bootBuiltins "tuple"=some (.type "tuple"):=by decide +kernel
theorem Fq:bootBuiltins "str"=some (.type "str"):=by decide +kernel
section
variable {X:Cx} {W:XW} {a b c e:Expr} {es:List Expr} {pos:Pos} {fa fb fc:F1} {fl:FL} {ga gb:FB} {g1 g2:FS}
theorem CU {op:CmpOp} {r:R2} {g:L4->L4->Option L4} (ho:OpR X (compareOp op) r) (hg:GOp X.K r g) (ha:PE X a (tE X.K W fa)) (hb:PE X b (tE X.K W fb)) (hm:behindInMarks op b=false:=by with_unfolding_all rfl) :
  PE X (.Compare a [op] [b] pos) (tE X.K W (az g fa fb)):=aR (xI ho ha hb hm) fun _ _ _=>eD hg
theorem CO {op:CmpOp} {r:R2} {g:L4->L4->Option L4} (ho:OpR X (compareOp op) r) (hg:GOp X.K r g) (ha:PE X a (tE X.K W fa)) (hb:PE X b (tE X.K W fb)) (hm:behindInMarks op b=false:=by with_unfolding_all rfl) :
  PT X (.Compare a [op] [b] pos) (tT X.K W (aP av (az g fa fb))):=vE (xB ho ha hb hm) fun σ H QB=>xf fun Q=>eD hg
theorem vk {op op':CmpOp} {r r':R2} {g g':L4->L4->Option L4} (ho:OpR X (compareOp op) r) (hg:GOp X.K r g) (ho':OpR X (compareOp op') r') (hg':GOp X.K r' g') (ha:PE X a (tE X.K W fa)) (hb:PE X b (tE X.K W fb)) (hc:PE X c (tE X.K W fc))
  (hm:lastMarks [op,op'] [b,c]=false:=by with_unfolding_all rfl):PE X (.Compare a [op,op'] [b,c] pos) (tE X.K W (yZ g g' fa fb fc)):=aR (uh ho ho' ha hb hc hm) fun _ _ _=>tx hg hg'
theorem da_nil:PA X [] (tA X.K W af):=zU FT fun _ _ _=>Be
theorem da_cons (ha:PE X e (tE X.K W fa)) (hr:PA X es (tA X.K W fl)) (hs:starEach (e::es) X.env=(false,eval e X.env)::starEach es X.env:=by rfl):PA X (e::es) (tA X.K W (ab fa fl)):=zU (DS ha hr hs) fun _ _ _=>xt
theorem o5 {x:Str} {id:String} {r:List V->Hp->VK->Prop} {g:List L4->Option L4} {p:Pos} (hc:CallR X (.builtin id) r) (hg:GCall X.K r g) (hv:bootBuiltins x=some (.builtin id)) (hm:X.mg x=none) (ha:PA X (e::es) (tA X.K W fl)) (hG:Gl X x:=by rfl)
  (hn:x ≠ "__name__":=by decide) (hdb:(x==("__debug__":Str))=false:=by decide) (he:starEach (e::es) X.env=(false,eval e X.env)::starEach es X.env:=by rfl) (hpl:(backTo pos (starEach es X.env)).any (·.1)=false:=by rfl) :
  PE X (.Call (.Name x p) (e::es) [] pos) (tE X.K W (ba g fl)):=aR (II hc hG hm hv ha hn hdb he hpl) fun _ _ _=>tF hg
theorem Fn {x:Str} {id:String} {r:List V->Hp->VK->Prop} {g:List L4->Option L4} {p:Pos} (hc:CallR X (.type id) r) (hg:GCall X.K r g) (hv:bootBuiltins x=some (.type id)) (hm:X.mg x=none) (ha:PA X (e::es) (tA X.K W fl)) (hG:Gl X x:=by rfl)
  (hn:x ≠ "__name__":=by decide) (hdb:(x==("__debug__":Str))=false:=by decide) (he:starEach (e::es) X.env=(false,eval e X.env)::starEach es X.env:=by rfl) (hpl:(backTo pos (starEach es X.env)).any (·.1)=false:=by rfl) :
  PE X (.Call (.Name x p) (e::es) [] pos) (tE X.K W (ba g fl)):=aR (Jo hc hG hm hv ha hn hdb he hpl) fun _ _ _=>tF hg
theorem qV {p:Pos} (hm:X.mg "list"=none) (ha:PE X e (tE X.K W fa)) (hG:Gl X "list":=by rfl) (hs:starEach [e] X.env=[(false,eval e X.env)]:=by rfl) :
  PE X (.Call (.Name "list" p) [e] [] pos) (tE X.K W (zb fa)):=aR (Jo jz hG hm vw (da_cons ha da_nil hs) (by decide) (by decide) hs rfl) fun _ _ _=>pY
theorem yE {f:Addr} {fd:FuncData} {ps:List Str} {k n:Nat} {den:List L4->Res} {x:Str} {p:Pos} (F:dw X.prog X.w X.K X.mg X.base nB k f fd ps (pN X.K n den)) (hr:Room k X.A) (hm:X.mg x=some (.ref f)) (hk:PySem.W.keepIn X.K (.ref f)=true)
  (hb:Binds X.K fd ps []) (ha:PA X (e::es) (tA X.K W fl)) (hg:Gl X x:=by rfl) (hdb:(x==("__debug__":Str))=false:=by decide) (he:starEach (e::es) X.env=(false,eval e X.env)::starEach es X.env:=by rfl)
  (hpl:(backTo pos (starEach es X.env)).any (·.1)=false:=by rfl):PE X (.Call (.Name x p) (e::es) [] pos) (tE X.K W (ag n den fl)):=aR (oB F hr hg hm hk hb .nil zE ha hdb he hpl) fun _ _ _=>xu
theorem Fm {tg:Expr} {p:Pos} (hm:X.mg "range"=none) (ha:PA X [a] (tA X.K W fl)) (hg:Gl X "range":=by rfl) (hs:starEach [a] X.env=[(false,eval a X.env)]:=by rfl):PI X tg (.Call (.Name "range" p) [a] [] pos) (tI X.K W (dz fl)):=lP (qf hg hm ha hs) fun _ _ _=>Bk
theorem Fl {tg:Expr} {p:Pos} (hm:X.mg "range"=none) (ha:PA X [a,b] (tA X.K W fl)) (hg:Gl X "range":=by rfl) (hs:starEach [a,b] X.env=[(false,eval a X.env),(false,eval b X.env)]:=by rfl) (hs2:starEach [b] X.env=[(false,eval b X.env)]:=by rfl) :
  PI X tg (.Call (.Name "range" p) [a,b] [] pos) (tI X.K W (rE fl)):=lP (qe hg hm ha hs hs2) fun _ _ _=>Bj
def aC:FB:=fun Γ=>.ok true Γ
theorem yD {scope:Scope} {x:Str} {px:Pos} {iter elt:Expr} {ifs:List Expr} {fi:FI} {fe:F1} {fc:FB} (s:Sh) (i:Nat) (S:cb X.N [i] X.env.scope scope) (hN:X.N.Nodup) (hi':PI X (.Name x px) iter (tI X.K W fi))
  (hc:∀cells C s₀ H₀ ex,PF (blk X scope cells C s₀ H₀ ex) ifs (tT X.K W0 fc)) (he:∀cells C s₀ H₀ ex,PE (blk X scope cells C s₀ H₀ ex) elt (tE X.K W0 fe))
  (hcalm:X.calm=true:=by rfl) (hx:X.N[i]?=some x:=by rfl) (hl:∀cells C s₀ H₀ ex,Loc (blk X scope cells C s₀ H₀ ex).env.scope x:=by first | exact fun _ _ _ _ _=>Or.inl rfl | exact fun _ _ _ _ _=>Or.inr rfl)
  (hf:∀cells C s₀ H₀ ex,(blk X scope cells C s₀ H₀ ex).fn x=true\/(blk X scope cells C s₀ H₀ ex).env.scope.names.lookup x=some .local:=by first | exact fun _ _ _ _ _=>Or.inr rfl | exact fun _ _ _ _ _=>Or.inl rfl)
  (hs:∀x,foldedSetIterable iter X.env x=pure x:=by intro _;rfl):PE X (.ListComp elt [⟨.Name x px,iter,ifs,0⟩] scope pos) (tE X.K W (ax s i fi fc fe)):=
 aR (Ib S hcalm hi' (fun cells C s₀ H₀ ex=>rL (X:=blk X scope cells C s₀ H₀ ex) (i:=i) hN hx (hl cells C s₀ H₀ ex) (hf cells C s₀ H₀ ex)) hc he hs) fun _ _ _=>og
theorem CP (own:Bool) (i:Nat) {x:Str} {pos':Pos} (hN:X.N.Nodup) (ha:PE X a (tE X.K W fa)) (hi:X.N[i]?=some x:=by rfl) (hx:Loc X.env.scope x:=by first | exact Or.inl rfl | exact Or.inr rfl) (hs:swapsWith a (some (.Name x pos')) pos.line X.env=pure false:=by rfl)
  (hf:X.fn x=true\/X.env.scope.names.lookup x=some .local:=by first | exact .inl rfl | exact .inr rfl):PS X (.Assign [.Name x pos'] a pos) (tS X.K W (aA own i fa)):=bN (Iw hN hi hx ha hs hf) fun _ _ _=>tp
theorem mY (own:Bool) (j:Nat) {scope:Scope} {x y:Str} {px pos' spos:Pos} {iter elt:Expr} {ifs:List Expr} {fi:FI} {fe:F1} {fc:FB} (s:Sh) (i:Nat) (S:cb X.N [i] X.env.scope scope) (hN:X.N.Nodup) (hi':PI X (.Name x px) iter (tI X.K W fi))
  (hc:∀cells C s₀ H₀ ex,PF (blk X scope cells C s₀ H₀ ex) ifs (tT X.K W0 fc)) (he:∀cells C s₀ H₀ ex,PE (blk X scope cells C s₀ H₀ ex) elt (tE X.K W0 fe))
  (hsw:swapsWith (.ListComp elt [⟨.Name x px,iter,ifs,0⟩] scope pos) (some (.Name y pos')) spos.line X.env=pure true:=by rfl)
  (hy:X.N[j]?=some y:=by rfl) (hly:X.env.scope.names.lookup y=some .local:=by rfl)
  (hcalm:X.calm=true:=by rfl) (hx:X.N[i]?=some x:=by rfl) (hl:∀cells C s₀ H₀ ex,Loc (blk X scope cells C s₀ H₀ ex).env.scope x:=by first | exact fun _ _ _ _ _=>Or.inl rfl | exact fun _ _ _ _ _=>Or.inr rfl)
  (hf:∀cells C s₀ H₀ ex,(blk X scope cells C s₀ H₀ ex).fn x=true\/(blk X scope cells C s₀ H₀ ex).env.scope.names.lookup x=some .local:=by first | exact fun _ _ _ _ _=>Or.inr rfl | exact fun _ _ _ _ _=>Or.inl rfl)
  (hs:∀x,foldedSetIterable iter X.env x=pure x:=by intro _;rfl):PS X (.Assign [.Name y pos'] (.ListComp elt [⟨.Name x px,iter,ifs,0⟩] scope pos) spos) (tS X.K W (aA own j (ax s i fi fc fe))):=
 bN (mB hN hy hly S hcalm hi' (fun cells C s₀ H₀ ex=>rL (X:=blk X scope cells C s₀ H₀ ex) (i:=i) hN hx (hl cells C s₀ H₀ ex) (hf cells C s₀ H₀ ex)) hc he hsw hs) fun D σ H h=>by
  have h2:jZ (tE X.K W (ax s i fi fc fe)) (bJ j) D σ H:=tp h
  exact og h2
theorem qJ (i:Nat) {x:Str} {p apos cpos:Pos} (ha:PE X a (tE X.K W fa)) (hN:X.N[i]?=some x:=by rfl) (hv:CY X.env.scope x:=by first | exact Or.inl rfl | exact Or.inr (Or.inl rfl) | exact Or.inr (Or.inr rfl)) (hd:(x==("__debug__":Str))=false:=by decide)
  (hcd:(x==("__classdict__":Str))=false:=by decide) (hs:starEach [a] X.env=[(false,eval a X.env)]:=by rfl)
  (hbase:attributeBase (.Name x p) "append" X.env (eval (.Name x p) X.env)=eval (.Name x p) X.env:=by rfl) (hline:(apos.endLine==cpos.line)=true:=by rfl)
  (hfew:((backTo cpos (starEach [a] X.env)).all (fun x=>!x.1)&&(backToKw cpos (keywordEach [] X.env)).all (fun x=>x.1.isSome)
   && decide ([a].length+([]:List Keyword).length+(if ([]:List Keyword).isEmpty then 0 else 1)<30))=true:=by rfl)
  (hsw:swapsWith (.Call (.Attribute (.Name x p) "append" apos) [a] [] cpos) none pos.line X.env=pure false:=by rfl) :
  PS X (.Expr (.Call (.Attribute (.Name x p) "append" apos) [a] [] cpos) pos) (tS X.K W (cX i fa)):=
 bN (Ga (oC PySem.F.plainAttrs_list PySem.F.slot_list_append PySem.F.type_list_append Jm (y4 hN hv hd hcd) (da_cons ha da_nil hs) hbase hfew hline hs rfl) hsw) fun _ _ _=>pZ
theorem CQ (i:Nat) {x:Str} {px:Pos} {iter:Expr} {body:List Stmt} {fi:FI} {g:FS} (hp:PassesOwn (model X.prog X.w) X.A X.env X.xe) (hN:X.N.Nodup) (hi':PI X (.Name x px) iter (tI X.K W fi)) (hb:PSs X body (tS X.K W g)) (hcalm:X.calm=true:=by rfl)
  (hx:X.N[i]?=some x:=by rfl) (hl:Loc X.env.scope x:=by first | exact Or.inl rfl | exact Or.inr rfl) (hf:X.fn x=true\/X.env.scope.names.lookup x=some .local:=by first | exact .inl rfl | exact .inr rfl)
  (hs:∀x,foldedSetIterable iter X.env x=pure x:=by intro _;rfl):PS X (.For (.Name x px) iter body [] pos) (tS X.K W (cJ i fi g)):=
 bN (Iv hp hcalm hi' (rL hN hx hl hf) hb hs) fun _ _ _=>Bm
end
structure Cp (X:Cx) (N gl:List Str) (vs cs ls lo gs:List Nat):Prop where
 hN:X.N=N
 nd:N.Nodup
 nm:∀x∈N,(x==("__debug__":Str))=false/\(x==("__classdict__":Str))=false
 ng:∀x∈gl,(x==("__debug__":Str))=false/\x ≠ "__name__"
 vis:∀(i:Nat) x,N[i]?=some x->vs.contains i=true->CY X.env.scope x
 cel:∀(i:Nat) x,N[i]?=some x->cs.contains i=true->X.env.scope.names.lookup x=some .cell\/X.env.scope.names.lookup x=some .free
 loc:∀(i:Nat) x,N[i]?=some x->ls.contains i=true->Loc X.env.scope x/\(X.fn x=true\/X.env.scope.names.lookup x=some .local)
 loo:∀(i:Nat) x,N[i]?=some x->lo.contains i=true->X.env.scope.names.lookup x=some .local
 glb:∀(j:Nat) x,gl[j]?=some x->gs.contains j=true->Gl X x
 calm:X.calm=true
 kind:X.env.scope.kind=.function
def y3 (sc:Scope) (ks:List NameKind) (o:Option Str):Bool:=match o with
 | some x=>(match sc.names.lookup x with
  | some k=>ks.any fun z=>decide (z=k)
  | none=>false)
 | none=>true
def o6 (N gl:List Str) (vs cs ls lo gs:List Nat) (sc:Scope):Bool:=
 decide (sc.kind=.function)&&(vs.all fun i=>y3 sc [.local,.cell,.free] N[i]?)&&(cs.all fun i=>y3 sc [.cell,.free] N[i]?)&&(ls.all fun i=>y3 sc [.local,.cell] N[i]?)&&(lo.all fun i=>y3 sc [.local] N[i]?)&&(gs.all fun j=>y3 sc [.globalImplicit] gl[j]?)
def B8 (N gl:List Str):Bool:=decide N.Nodup&&(N.all fun x=>!(x==("__debug__":Str))&&!(x==("__classdict__":Str)))&&(gl.all fun x=>!(x==("__debug__":Str))&&!decide (x = "__name__"))
theorem Dv {sc:Scope} {ks:List NameKind} {x:Str} (h:y3 sc ks (some x)=true):∃k∈ks,sc.names.lookup x=some k:=by
 unfold y3 at h;simp only at h
 split at h
 ·rename_i k e
  simp only [any_eq_true,decide_eq_true_eq] at h
  obtain ⟨z,hz,rfl⟩:=h;exact ⟨z,hz,e⟩
 ·cases h
theorem DH {P:Nat->Bool} {l:List Nat} {i:Nat} (h:l.all P=true) (hi:l.contains i=true):P i=true:=by
 rw [all_eq_true] at h;exact h i (by simpa using hi)
structure LL (N gl:List Str) (vs cs ls lo gs:List Nat) (sc:Scope):Prop where
 kind:sc.kind=.function
 vis:∀(i:Nat) x,N[i]?=some x->vs.contains i=true->CY sc x
 cel:∀(i:Nat) x,N[i]?=some x->cs.contains i=true->sc.names.lookup x=some .cell\/sc.names.lookup x=some .free
 loc:∀(i:Nat) x,N[i]?=some x->ls.contains i=true->Loc sc x
 loo:∀(i:Nat) x,N[i]?=some x->lo.contains i=true->sc.names.lookup x=some .local
 glb:∀(j:Nat) x,gl[j]?=some x->gs.contains j=true->sc.names.lookup x=some .globalImplicit
theorem HN {N gl:List Str} {vs cs ls lo gs:List Nat} {sc:Scope} (h:o6 N gl vs cs ls lo gs sc=true):LL N gl vs cs ls lo gs sc:=by
 unfold o6 at h;simp only [Bool.and_eq_true,decide_eq_true_eq] at h
 obtain ⟨⟨⟨⟨⟨h0,h1⟩,h2⟩,h3⟩,h4⟩,h5⟩:=h;refine ⟨h0,fun i x e hi=>?_,fun i x e hi=>?_,fun i x e hi=>?_,fun i x e hi=>?_,fun i x e hi=>?_⟩
 ·have q:=DH h1 hi
  rw [e] at q;obtain ⟨k,hk,q⟩:=Dv q;simp only [mem_cons,not_mem_nil,or_false] at hk
  rcases hk with rfl | rfl | rfl
  ·exact .inl q
  ·exact .inr (.inl q)
  ·exact .inr (.inr q)
 ·have q:=DH h2 hi
  rw [e] at q;obtain ⟨k,hk,q⟩:=Dv q;simp only [mem_cons,not_mem_nil,or_false] at hk
  rcases hk with rfl | rfl
  ·exact .inl q
  ·exact .inr q
 ·have q:=DH h3 hi
  rw [e] at q;obtain ⟨k,hk,q⟩:=Dv q;simp only [mem_cons,not_mem_nil,or_false] at hk
  rcases hk with rfl | rfl
  ·exact .inl q
  ·exact .inr q
 ·have q:=DH h4 hi
  rw [e] at q;obtain ⟨k,hk,q⟩:=Dv q;simp only [mem_cons,not_mem_nil,or_false] at hk
  rw [hk] at q;exact q
 ·have q:=DH h5 hi
  rw [e] at q;obtain ⟨k,hk,q⟩:=Dv q;simp only [mem_cons,not_mem_nil,or_false] at hk
  rw [hk] at q;exact q
theorem uz {N gl:List Str} (h:B8 N gl=true):N.Nodup/\(∀x∈N,(x==("__debug__":Str))=false/\(x==("__classdict__":Str))=false)/\∀x∈gl,(x==("__debug__":Str))=false/\x ≠ "__name__":=by
 unfold B8 at h;simp only [Bool.and_eq_true,decide_eq_true_eq,all_eq_true,Bool.not_eq_true',decide_eq_false_iff_not] at h
 exact ⟨h.1.1,h.1.2,h.2⟩
theorem Cp.fn {P:Program} {w:World} {K:Fg} {mg:Str->Option Value} {base:Heap} {N gl:List Str} {vs cs ls lo gs:List Nat} {qual:Str} {sc:Scope} {f:Addr} {cd:Value} {A:Around} {outer:List Env} {s:Shared} {H:Hp} {E:XK}
  (h:o6 N gl vs cs ls lo gs sc=true) (h':B8 N gl=true):Cp (lD nB P w K mg base N qual sc f cd A outer s H E).nox N gl vs cs ls lo gs:=by
 obtain ⟨a,b,c⟩:=uz h'
 have q:=HN h
 exact ⟨rfl,a,b,c,q.vis,q.cel,fun i x e hi=>⟨q.loc i x e hi,.inl rfl⟩,q.loo,q.glb,rfl,q.kind⟩
theorem zw {env:Env} {x:Str} {k:NameKind}:∀{names:List (Str×NameKind)},names.lookup x=some k ->
  (names.map fun (n,k)=>if (k==NameKind.free&&env.scope.kind==.function&&env.kindOf n==some .cell) then (n,NameKind.cell) else (n,k)).lookup x=some k \/
  (k=.free/\(names.map fun (n,k)=>if (k==NameKind.free&&env.scope.kind==.function&&env.kindOf n==some .cell) then (n,NameKind.cell) else (n,k)).lookup x=some .cell)
 | [],h=>by simp at h
 | (n,k')::r,h=>by
  have ih:=@zw env x k r
  rw [map_cons];show List.lookup x ((if (k'==NameKind.free&&env.scope.kind==.function&&env.kindOf n==some .cell)=true then (n,NameKind.cell) else (n,k'))::_)=_\/_/\List.lookup x ((if (k'==NameKind.free&&env.scope.kind==.function&&env.kindOf n==some .cell)=true then (n,NameKind.cell) else (n,k'))::_)=_
  by_cases hc:(k'==NameKind.free&&env.scope.kind==.function&&env.kindOf n==some .cell)=true
  ·rw [if_pos hc]
   cases hx:x==n with
   | true=>
    simp only [lookup_cons,hx] at h ⊢
    cases h;simp only [Bool.and_eq_true,beq_iff_eq] at hc
    exact .inr ⟨hc.1.1,trivial⟩
   | false=>
    simp only [lookup_cons,hx] at h ⊢
    exact ih h
  ·rw [if_neg hc]
   cases hx:x==n with
   | true=>
    simp only [lookup_cons,hx] at h ⊢
    cases h;exact .inl rfl
   | false=>
    simp only [lookup_cons,hx] at h ⊢
    exact ih h
theorem vW {scope:Scope} {env:Env} {x:Str} {k:NameKind} (h:scope.names.lookup x=some k):(relabel scope env).names.lookup x=some k\/(k=.free/\(relabel scope env).names.lookup x=some .cell):=zw h
theorem Cp.blk {X:Cx} {N gl:List Str} {vs cs ls lo gs vs' cs' ls' lo' gs':List Nat} {scope:Scope} (S:Cp X N gl vs cs ls lo gs) (h:o6 N gl vs' cs' ls' lo' gs' scope=true) (cells C s₀ H₀ ex) :
  Cp (blk X scope cells C s₀ H₀ ex) N gl vs' cs' ls' lo' gs':=by
 have q:=HN h
 refine ⟨S.hN,S.nd,S.nm,S.ng,fun i x e hi=>?_,fun i x e hi=>?_,fun i x e hi=>?_,fun i x e hi=>?_,fun i x e hi=>?_,S.calm,q.kind⟩
 ·show CY (relabel scope X.env) x
  rcases q.vis i x e hi with z | z | z
  ·rcases vW (env:=X.env) z with y | ⟨y,_⟩
   ·exact .inl y
   ·cases y
  ·rcases vW (env:=X.env) z with y | ⟨y,_⟩
   ·exact .inr (.inl y)
   ·cases y
  ·rcases vW (env:=X.env) z with y | ⟨_,y⟩
   ·exact .inr (.inr y)
   ·exact .inr (.inl y)
 ·show (relabel scope X.env).names.lookup x=some .cell\/(relabel scope X.env).names.lookup x=some .free
  rcases q.cel i x e hi with z | z
  ·rcases vW (env:=X.env) z with y | ⟨y,_⟩
   ·exact .inl y
   ·cases y
  ·rcases vW (env:=X.env) z with y | ⟨_,y⟩
   ·exact .inr y
   ·exact .inl y
 ·show Loc (relabel scope X.env) x/\((scope.names.any fun y=>y.1==x&&y.2==.cell)=true\/(relabel scope X.env).names.lookup x=some .local)
  rcases q.loc i x e hi with z | z
  ·rcases vW (env:=X.env) z with y | ⟨y,_⟩
   ·exact ⟨.inl y,.inr y⟩
   ·cases y
  ·rcases vW (env:=X.env) z with y | ⟨y,_⟩
   ·refine ⟨.inr y,.inl ?_⟩
    rw [any_eq_true];exact ⟨(x,.cell),fY z,by simp⟩
   ·cases y
 ·show (relabel scope X.env).names.lookup x=some .local
  rcases vW (env:=X.env) (q.loo i x e hi) with y | ⟨y,_⟩
  ·exact y
  ·cases y
 ·show (relabel scope X.env).names.lookup x=some .globalImplicit
  rcases vW (env:=X.env) (q.glb i x e hi) with y | ⟨y,_⟩
  ·exact y
  ·cases y
def iW (N:List Str) (i:Nat) (cs:List Nat) (sc:Scope):Bool:=
 decide (sc.kind=.function)&&(sc.names.all fun p=>!decide (p.2=.free)||cs.any fun j=>decide (N[j]?=some p.1)) &&
 ((List.range N.length).all fun j=>j==i||(sc.names.all fun p=>!decide (some p.1=N[j]?)||(!decide (p.2=.local)&&!decide (p.2=.cell)))) &&
 (sc.names.all fun p=>!decide (p.2=.local)||decide (sc.names.lookup p.1=some .local)) &&
 (sc.names.all fun p=>!decide (p.2=.free)||sc.names.all fun q=>!decide (q.1=p.1)||!decide (q.2=.cell))
theorem lG {X:Cx} {N gl:List Str} {vs cs ls lo gs:List Nat} {scope:Scope} {i:Nat} (S:Cp X N gl vs cs ls lo gs) (h:iW N i cs scope=true):cb X.N [i] X.env.scope scope:=by
 unfold iW at h;simp only [Bool.and_eq_true,decide_eq_true_eq,all_eq_true,Bool.or_eq_true,Bool.not_eq_true',decide_eq_false_iff_not,any_eq_true,mem_range,beq_iff_eq] at h
 obtain ⟨⟨⟨⟨h0,h1⟩,h2⟩,h3⟩,h4⟩:=h;refine ⟨h0,fun n hn=>?_,fun j x e hj=>?_,fun x hx e=>?_,fun n hn hc=>?_⟩
 ·rcases h1 _ hn with z | ⟨j,hj,e⟩
  ·exact absurd rfl z
  ·exact S.cel j n e (by simpa using hj)
 ·rw [S.hN] at e
  rcases h2 j (LY e).1 with z | z
  ·rw [z];exact List.mem_singleton.mpr rfl
  ·exfalso
   rcases hj with y | y
   ·rcases z _ y with w | w
    ·exact w e.symm
    ·exact w.1 rfl
   ·rcases z _ y with w | w
    ·exact w e.symm
    ·exact w.2 rfl
 ·rcases h3 x hx with z | z
  ·exact absurd e z
  ·exact z
 ·rcases h4 _ hn with z | z
  ·exact z rfl
  ·rcases z _ hc with w | w
   ·exact w rfl
   ·exact w rfl
structure Fx (X Y:Cx):Prop where
 prog:Y.prog=X.prog
 w:Y.w=X.w
 K:Y.K=X.K
 mg:Y.mg=X.mg
 base:Y.base=X.base
 A:Y.A=X.A
def Rm (X:Cx):Prop:=X.A.units+64<cLine
def FQ (X:Cx) (x:Str) (n:Nat) (den:List L4->Res):Prop:=∃(k:Nat) (f:Addr) (fd:FuncData) (ps:List Str),dw X.prog X.w X.K X.mg X.base nB k f fd ps (pN X.K n den)/\Room k X.A/\X.mg x=some (.ref f)/\PySem.W.keepIn X.K (.ref f)=true/\Binds X.K fd ps []
def Con (X:Cx) (x:Str) (d:L4):Prop:=∃u v,X.mg x=some u/\RelV v u/\∀H,Rep X.K H v d
section
variable {X:Cx} {N gl:List Str} {vs cs ls lo gs:List Nat} {W:XW} {a b c e:Expr} {es:List Expr} {pos p:Pos} {fa fb fc:F1} {fl:FL} {ga gb:FB} {g1 g2:FS}
theorem cm (S:Cp X N gl vs cs ls lo gs) (i:Nat) {x:Str} (hN:N[i]?=some x) (hv:vs.contains i=true):PE X (.Name x pos) (tE X.K W (bx i)):=by
 have m:=S.nm x (mem_of_getElem? hN)
 exact yB (y4 (by rw [S.hN];exact hN) (S.vis i x hN hv) m.1 m.2)
theorem Cp.g (S:Cp X N gl vs cs ls lo gs) {j:Nat} {x:Str} (hj:gl[j]?=some x) (hg:gs.contains j=true):Gl X x/\(x==("__debug__":Str))=false/\x ≠ "__name__":=
 ⟨S.glb j x hj hg,S.ng x (mem_of_getElem? hj)⟩
def EH:R2:=fun x y H Q=>oo (fun i j=>.bl (decide (i<j))) x y H Q\/∃i j,x=.str i/\y=.str j/\Q (.bl (decide (i.cps.toList<j.cps.toList))) H
theorem EX:OpR X (compareOp .Lt) EH:=op_lt.or qh
def CG:L4->L4->Option L4
 | .str i,.str j=>some (.bool (!decide (i.cps.toList<j.cps.toList)))
 | _,_=>none
abbrev mU:L4->L4->Option L4:=fun a b=>(LD a b).or (CG a b)
def By:R2:=fun x y H Q=>oo (fun i j=>.bl (decide (j<=i))) x y H Q\/∃i j,x=.str i/\y=.str j/\Q (.bl (!decide (i.cps.toList<j.cps.toList))) H
theorem qj:OpR X (compareOp .GtE) (fun x y H Q=>∃i j,x=.str i/\y=.str j/\Q (.bl (!decide (i.cps.toList<j.cps.toList))) H):=by
 intro pins s σ H x y v u Q I rx ry h;obtain ⟨i,j,rfl,rfl,q⟩:=h;obtain ⟨t,rfl⟩:=rx;obtain ⟨t',rfl⟩:=ry;exact PySem.P.ge_str (Da I q rfl)
theorem EY:OpR X (compareOp .GtE) By:=op_ge.or qj
theorem yk {K:Fg}:GOp K (fun x y H Q=>∃i j,x=.str i/\y=.str j/\Q (.bl (!decide (i.cps.toList<j.cps.toList))) H) CG:=by
 intro x y H Q a b d ra rb e k
 cases ra<;>cases rb<;>simp only [CG] at e<;>try cases e
 rename_i i j;exact ⟨i,j,rfl,rfl,k _ (.bl _)⟩
theorem CA {K:Fg}:GOp K By mU:=(Dc fun _ _=>.bl _).or yk
structure Ck (X:Cx) (op:CmpOp) (r:R2) (g:L4->L4->Option L4):Prop where
 o:OpR X (compareOp op) r
 g:GOp X.K r g
theorem qb (R:Rm X):Ck X .Lt EH iN:=⟨EX,Cz⟩
theorem EL (R:Rm X):Ck X .LtE (oo fun i j=>.bl (decide (i<=j))) DE:=⟨EU,Dc fun _ _=>.bl _⟩
theorem xx (R:Rm X):Ck X .Gt (oo fun i j=>.bl (decide (j<i))) qG:=⟨EV,Dc fun _ _=>.bl _⟩
theorem Ki (R:Rm X):Ck X .GtE By mU:=⟨EY,CA⟩
theorem bU (R:Rm X):Ck X .Eq (qa X.K false) bE:=⟨B3 R,CB⟩
theorem BD (R:Rm X):Ck X .NotEq (qa X.K true) qE:=⟨BY R,Cy⟩
theorem cG (R:Rm X):Ck X .In (tN X.K false) (bh false):=⟨B2 R,uZ⟩
theorem Ah (R:Rm X):Ck X .NotIn (tN X.K true) (bh true):=⟨qg R,uZ⟩
theorem ct {op:CmpOp} {r:R2} {g:L4->L4->Option L4} (k:Ck X op r g) (ha:PE X a (tE X.K W fa)) (hb:PE X b (tE X.K W fb)) (hm:behindInMarks op b=false):PT X (.Compare a [op] [b] pos) (tT X.K W (aP av (az g fa fb))):=CO k.o k.g ha hb hm
abbrev vV (X:Cx) (N gl:List Str) (vs cs ls lo gs:List Nat) (R:Cx->Prop):Prop:=∀Y:Cx,Cp Y N gl vs cs ls lo gs->Fx X Y->R Y
theorem co {scope:Scope} {x:Str} {px:Pos} {iter elt:Expr} {ifs:List Expr} {fi:FI} {fe:F1} {fc:FB} {vs' cs' lo' gs':List Nat} (S:Cp X N gl vs cs ls lo gs) (s:Sh) (i:Nat) (hx:N[i]?=some x) (h1:iW N i cs scope=true) (h2:o6 N gl vs' cs' [i] lo' gs' scope=true)
  (hi':PI X (.Name x px) iter (tI X.K W fi)) (hc:vV X N gl vs' cs' [i] lo' gs' fun Y=>PF Y ifs (tT Y.K W0 fc)) (he:vV X N gl vs' cs' [i] lo' gs' fun Y=>PE Y elt (tE Y.K W0 fe)) (hs:∀x,foldedSetIterable iter X.env x=pure x) :
  PE X (.ListComp elt [⟨.Name x px,iter,ifs,0⟩] scope pos) (tE X.K W (ax s i fi fc fe)):=by
 have B:=fun cells C s₀ H₀ ex=>S.blk h2 cells C s₀ H₀ ex
 have L:=fun cells C s₀ H₀ ex=>(B cells C s₀ H₀ ex).loc i x hx (by simp)
 exact yD (X:=X) s i (lG S h1) (by rw [S.hN];exact S.nd) hi' (fun cells C s₀ H₀ ex=>hc _ (B cells C s₀ H₀ ex) ⟨rfl,rfl,rfl,rfl,rfl,rfl⟩) (fun cells C s₀ H₀ ex=>he _ (B cells C s₀ H₀ ex) ⟨rfl,rfl,rfl,rfl,rfl,rfl⟩)
  S.calm (by rw [S.hN];exact hx) (fun cells C s₀ H₀ ex=>(L cells C s₀ H₀ ex).1) (fun cells C s₀ H₀ ex=>(L cells C s₀ H₀ ex).2) hs
theorem me {elt:Expr} {gens:List Comprehension} {scope:Scope} {y:Str} {pos':Pos} {line:Nat} (hk:X.env.scope.kind=.function) (hy:X.env.scope.names.lookup y=some .local) (hl:(pos'.line==pos.line)=true)
  (hn:(scope.names.any fun (n,k)=>n==y&&(k==NameKind.local||k==NameKind.cell))=false):swapsWith (.ListComp elt gens scope pos) (some (.Name y pos')) line X.env=pure true:=by
 have e1:(X.env.blockKind==ScopeKind.function)=true:=by unfold Env.blockKind;rw [hk];rfl
 have e2:(X.env.kindOf y==some NameKind.local)=true:=by unfold Env.kindOf;rw [hy];rfl
 show (pure (X.env.blockKind==.function&&X.env.kindOf y==some .local&&pos'.line==pos.line&&!(scope.names.any fun (n,k)=>n==y&&(k==NameKind.local||k==NameKind.cell))):Sem Bool)=pure true
 rw [e1,e2,hl,hn];rfl
theorem cs_append (S:Cp X N gl vs cs ls lo gs) (i:Nat) {x:Str} {apos cpos:Pos} (hi:N[i]?=some x) (hv:vs.contains i=true) (ha:PE X a (tE X.K W fa)) (hs:starEach [a] X.env=[(false,eval a X.env)])
  (hbase:attributeBase (.Name x p) "append" X.env (eval (.Name x p) X.env)=eval (.Name x p) X.env) (hline:(apos.endLine==cpos.line)=true)
  (hfew:((backTo cpos (starEach [a] X.env)).all (fun x=>!x.1)&&(backToKw cpos (keywordEach [] X.env)).all (fun x=>x.1.isSome)
   && decide ([a].length+([]:List Keyword).length+(if ([]:List Keyword).isEmpty then 0 else 1)<30))=true)
  (hsw:swapsWith (.Call (.Attribute (.Name x p) "append" apos) [a] [] cpos) none pos.line X.env=pure false) :
  PS X (.Expr (.Call (.Attribute (.Name x p) "append" apos) [a] [] cpos) pos) (tS X.K W (cX i fa)):=
 qJ i ha (by rw [S.hN];exact hi) (S.vis i x hi hv) (S.nm x (mem_of_getElem? hi)).1 (S.nm x (mem_of_getElem? hi)).2 hs hbase hline hfew hsw
end
def eU (g:L4->Option L4) (fa:F1):F1:=aK fa fun p Γ=>match g p.d with
 | some d=>.ok ⟨.leaf,d⟩ Γ
 | none=>.no
def bQ:L4->Option L4
 | .int i=>some (.int (-i))
 | _=>none
def LF (fa fb:F1):F1:=aK fa fun p=>aK fb fun q=>fun Γ=>match p.s,p.d,q.d with
 | .lst .leaf,.list ds,.int k=>if bV k&&decide (ds.length*k.toNat<=sizeLine) then .ok ⟨.lst .leaf,.list (List.replicate k.toNat ds).flatten⟩ Γ else .no
 | _,_,_=>.no
def zc:Option (Option PV)->Bool
 | some (some ⟨.lst .leaf,.list _⟩)=>true
 | _=>false
def AU (i:Nat) (p q:PV) (Γ:Ev):cu:=match Γ[i]? with
 | some (some ⟨.lst .leaf,.list ds⟩)=>(match q.d with
  | .int k=>(match cx ds.length k with
   | some j=>if T.coer .leaf p then .nx (Γ.set i (some ⟨.lst .leaf,.list (ds.set j p.d)⟩)) else .no
   | none=>.no)
  | _=>.no)
 | _=>.no
def dG (i:Nat) (fv fk:F1):FS:=fun Γ=>if zc Γ[i]? then d0 fv (fun p=>d0 fk (AU i p)) Γ else .no
def pV (i:Nat) (g:FS):FS:=fun Γ=>match Γ[i]? with
 | some (some p)=>g (Γ.set i (L5 p.d))
 | _=>.no
section
variable {K:Fg} {W:XW} {σ:St} {H:Hp} {Q:VK} {D:cQ} {fa fb:F1} {fl:FL}
theorem EA {r:V->Hp->VK->Prop} {g:L4->Option L4} (hg:∀x H Q a d,Rep K H x a->g a=some d->(∀v,Sc v d->Q v H)->r x H Q) (h:tE K W (eU g fa) σ H Q):KY r (tE K W fa) σ H Q:=by
 refine vX h fun He O Fs Γ1 p v H1 G Fs1 nd A h1=>?_
 cases e:g p.d with
 | none=>rw [e] at h1;exact h1.elim
 | some d=>
  rw [e] at h1;exact hg v H1 Q p.d d A.own.rep e fun u hu=>Wants.scal h1 hu A.same A.env.dropL (fun a ha=>ha) nd fun a ha=>A.new a (LN _ ha)
theorem I0:∀{Fs:List (List Addr)},(∀F∈Fs,F=[])->Fs.flatten=[]
 | [],_=>rfl
 | F::r,h=>by rw [flatten_cons,h F mem_cons_self,I0 fun G hG=>h G (LW _ hG)];rfl
theorem Own.leaves {O:List Addr} {G:List Addr} {v:V} {ds:List L4} (h:Own K O H (.lst .leaf) G v (.list ds)):∃l vs,v=.ref l/\G=[l]/\H l=some (.lst vs)/\vs.length=ds.length/\∀(j:Nat) u d,vs[j]?=some u->ds[j]?=some d->Rep K (bt H O) u d:=by
 cases h with
 | @lst _ l vs _ Fs hsv hp hl hf nd q=>
  have hF:∀F∈Fs,F=[]:=fun F hF=>by
   obtain ⟨j,hj,e⟩:=getElem_of_mem hF;have o:=q j (vs[j]'(by omega)) (ds[j]'(by omega)) F (LR _) (LR _) (by rw [LR hj,e])
   cases o;rfl
  refine ⟨l,vs,rfl,by rw [I0 hF],hp,hl,fun j u d h1 h2=>?_⟩
  have hj:=(LY h2).1
  have o:=q j u d (Fs[j]'(by omega)) h1 h2 (LR _)
  generalize Fs[j]'(by omega)=F at o
  cases o with
  | leaf r=>exact r
theorem Own.mkLeaves {O:List Addr} {l:Addr} {vs:List V} {ds:List L4} (hp:H l=some (.lst vs)) (hl:vs.length=ds.length) (q:∀(j:Nat) u d,vs[j]?=some u->ds[j]?=some d->Rep K (bt H O) u d):Own K O H (.lst .leaf) [l] (.ref l) (.list ds):=by
 have hF:(List.replicate ds.length ([]:List Addr)).flatten=[]:=I0 fun F hF=>(List.mem_replicate.mp hF).2
 have o:Own K O H (.lst .leaf) (l::(List.replicate ds.length ([]:List Addr)).flatten) (.ref l) (.list ds):=by
  refine .lst rfl hp hl (by simp) (by rw [hF];simp) fun j u d F h1 h2 h3=>?_
  have:F=[]:=(List.mem_replicate.mp (mem_of_getElem? h3)).2
  subst this;exact .leaf (q j u d h1 h2)
 rw [hF] at o;exact o
theorem AF {k:PV->PV->Ev->cu} {R:V->V->Hp->Prop} (h:tS K W (d0 fa fun p=>d0 fb (k p)) D σ H)
  (hk:∀He O Γ2 p q v u H1 H2 G1 G2 Fs2,O.Nodup->Same H H1->Same H1 H2->EnvOk K He (G2++(G1++O)) Fs2 H2 σ Γ2->(∀a∈G2++G1,He a=none) ->
   Own K (G2++(G1++O)++Fs2.flatten) H2 p.s G1 v p.d->Own K (G2++(G1++O)++Fs2.flatten) H2 q.s G2 u q.d->gF K W He O D (k p q Γ2)->R v u H2) :
  tE K W fa σ H fun v H1=>tE K W fb σ H1 fun u H2=>R v u H2:=by
 refine cY h fun He O Fs Γ1 p v H1 G1 Fs1 _ fr A1 h1=>?_
 refine ⟨He,G1++O,Fs1,Γ1,A1.env,?_⟩
 unfold d0 at h1;have nd:O.Nodup:=(LX A1.env.ndO).2.1
 cases e:fb Γ1 with
 | ok q Γ2=>
  rw [e] at h1;intro u H2 G2 Fs2 A2;refine hk He O Γ2 p q v u H1 H2 G1 G2 Fs2 nd A1.same A2.same A2.env (fun a ha=>?_) (A1.own.mono A2.same fun a ha=>?_) A2.own h1
  ·rcases LP ha with z | z
   ·exact A2.freshG A1.env a z
   ·exact fr a z
  ·rcases LP ha with z | z
   ·rcases LP z with z | z
    ·rcases A2.new a (LO _ z) with y | y
     ·exact .inl (LN _ y)
     ·exact .inr y
    ·exact .inl (LO _ z)
   ·rcases A2.new a (LN _ z) with y | y
    ·exact .inl (LN _ y)
    ·exact .inr y
 | er c Γ2=>
  rw [e] at h1;intro H2 Fs2 hs E2;exact h1 σ H2 Fs2 E2.dropL
 | no=>
  rw [e] at h1;exact h1
theorem IR {Q':VK} (h:tE K W fa σ H Q) (hq:∀v H',Q v H'->Q' v H'):tE K W fa σ H Q':=by
 obtain ⟨He,O,Fs,Γ,E,h⟩:=h;refine ⟨He,O,Fs,Γ,E,?_⟩
 cases e:fa Γ with
 | ok p Γ'=>rw [e] at h;exact fun v H' G Fs' A=>hq v H' (h v H' G Fs' A)
 | er c Γ'=>rw [e] at h;exact h
 | no=>rw [e] at h;exact h
theorem EnvOk.chg {He:Hp} {O:List Addr} {Fs:List (List Addr)} {Γ:Ev} {i:Nat} {ds:List L4} (E:EnvOk K He O Fs H σ Γ) (h:Γ[i]?=some (some ⟨.lst .leaf,.list ds⟩)) :
  ∃l vs,σ[i]?=some (some (.ref l))/\H l=some (.lst vs)/\vs.length=ds.length/\(∀(j:Nat) u d,vs[j]?=some u->ds[j]?=some d->Rep K (bt H (O++Fs.flatten)) u d) /\
   ∀(vs':List V) (ds':List L4),vs'.length=ds'.length->(∀(j:Nat) u d,vs'[j]?=some u->ds'[j]?=some d->Rep K (bt H (O++Fs.flatten)) u d)->∃Fs',EnvOk K He O Fs' (bb H l (.lst vs')) σ (Γ.set i (some ⟨.lst .leaf,.list ds'⟩)):=by
 obtain ⟨hv,v,F,h1,E1,o1,sub⟩:=E.move h;have hi:i<Γ.length:=(LY h).1
 obtain ⟨_,v0,F0,h10,h20,o0⟩:=E.slot i _ h;obtain ⟨l,vs,rfl,rfl,hp,hl,hr⟩:=o1.leaves;obtain ⟨l',vs',e0,e1,hp',hl',hr'⟩:=o0.leaves;rw [h1] at h10
 cases h10
 cases e0;rw [hp] at hp'
 cases hp'
 refine ⟨l,vs,h1,hp,hl,hr',fun ws ds' hw q=>?_⟩
 have hlF:l∈Fs.flatten:=sub l (LO _ (List.mem_singleton.mpr rfl))
 have hHe:He l=none:=E.fresh l hlF
 have E4:=E1.mutO (o:=.lst ws) (LO _ (List.mem_singleton.mpr rfl)) hp hHe
 have ownL:Own K ([l]++O++(Fs.set i []).flatten) (bb H l (.lst ws)) (.lst .leaf) [l] (.ref l) (.list ds'):=by
  refine Own.mkLeaves dA hw fun j u d a1 a2=>?_
  rw [FZ (LO _ (LO _ (List.mem_singleton.mpr rfl)))];refine (q j u d a1 a2).mono (nD (Same.refl _) fun a ha=>.inl ?_)
  rcases LP ha with z | z
  ·rcases LP z with z | z
   ·rw [List.mem_singleton.mp z];exact LN _ hlF
   ·exact LO _ z
  ·exact LN _ (sub a (LN _ z))
 have fin:=EnvOk.put (i:=i) (p:=⟨.lst .leaf,.list ds'⟩) (v:=.ref l) E4 ownL rfl (fun a ha=>by rw [List.mem_singleton.mp ha];exact hHe) (by rw [length_set];exact hi)
 rw [set_set,set_set,rO h1] at fin;exact ⟨_,fin⟩
theorem gc {o:Option (Option PV)} (h:zc o=true):∃ds,o=some (some ⟨.lst .leaf,.list ds⟩):=by
 unfold zc at h;split at h
 ·exact ⟨_,rfl⟩
 ·cases h
theorem xg {i:Nat} (h:tS K W (dG i fa fb) D σ H):jZ (tE K W fa) (L2.gSub (bI i) (tE K W fb) tM) D σ H:=by
 obtain ⟨He,O,Fs,Γ,E,h⟩:=h;unfold dG at h
 cases ho:zc Γ[i]? with
 | false=>rw [ho] at h;exact h.elim
 | true=>
  rw [ho] at h;obtain ⟨ds,e0⟩:=gc ho;obtain ⟨l,vs,h1,h2,h3,_,_⟩:=E.chg e0;refine IR (AF (D:=D) (R:=fun v u H2=>tM (.ref l) u v H2 fun H3=>D.nx σ H3) ⟨He,O,Fs,Γ,E,h⟩ fun He O Γ2 p q v u H1 H2 G1 G2 Fs2 nd s1 s2 E2 fr o1 o2 w=>?_) fun v H' q=>⟨.ref l,h1,q⟩
  unfold AU at w;split at w
  ·rename_i ds1 e1
   split at w
   ·rename_i k ek
    split at w
    ·rename_i j ej
     cases hc:T.coer .leaf p with
     | false=>rw [hc] at w;exact w.elim
     | true=>
      rw [hc] at w;have E3:EnvOk K He O Fs2 H2 σ Γ2:=E2.drop (fun a ha=>LN _ (LN _ ha)) nd
      obtain ⟨l1,vs1,q1,q2,q3,q4,q5⟩:=E3.chg e1;rw [h1] at q1
      cases q1;have hu:=o2.rep
      rw [ek] at hu
      cases hu;have ov:Own K (O++Fs2.flatten) H2 .leaf [] v p.d:=by
       refine o1.coer (s:=.leaf) hc (fun a ha=>?_) fun a ha z=>?_
       ·rcases LP ha with z | z
        ·exact LO _ (LN _ (LN _ z))
        ·exact LN _ z
       ·exfalso
        have ndE:=E2.nd
        rw [append_assoc] at ndE;have n2:=(LX ndE).2.1
        rw [append_assoc] at n2;exact (LX n2).2.2 a ha a z rfl
      cases ov with
      | leaf rv=>
       have ixl:cx vs1.length k=some j:=by rw [q3];exact ej
       obtain ⟨Fs',E4⟩:=q5 (vs1.set j v) (ds1.set j p.d) (by rw [length_set,length_set,q3]) fun m x d a1 a2=>by
        by_cases hm:m=j
        ·subst hm
         rw [List.getElem?_set] at a1 a2
         rw [if_pos rfl] at a1 a2
         split at a1
         ·split at a2
          ·cases a1;cases a2;exact rv
          ·cases a2
         ·cases a1
        ·rw [getElem?_set_ne (Ne.symm hm)] at a1 a2
         exact q4 m x d a1 a2
       exact ⟨l,vs1,k,j,rfl,rfl,q2,ixl,w σ _ Fs' E4⟩
    ·exact w.elim
   ·exact w.elim
  ·exact w.elim
theorem Bl {i:Nat} {g:FS} (h:tS K W (pV i g) D σ H):tS K W g D σ H:=by
 obtain ⟨He,O,Fs,Γ,E,h⟩:=h;unfold pV at h;split at h
 ·rename_i p e0
  obtain ⟨hv,v,F,h1,E1,o1,sub⟩:=E.move e0;have hi:i<Γ.length:=(LY e0).1
  have c:T.coer .leaf p=true:=by show (!p.s.isView||aZ p.d)=true;rw [hv];rfl
  have o:=o1.coer (s:=.leaf) (O':=O++(Fs.set i []).flatten) c cU fun a ha z=>by
   exfalso
   have nd:=E1.nd
   rw [append_assoc] at nd;exact (LX nd).2.2 a ha a z rfl
  have E2:EnvOk K He O ((Fs.set i []).set i []) H (σ.set i (some v)) ((Γ.set i none).set i (L5 p.d)):=
   EnvOk.put (G:=[]) (p:=⟨.leaf,p.d⟩) (v:=v) (by rw [nil_append];exact E1.dropL) (by rw [nil_append];exact o) rfl (fun a ha=>by simp at ha) (by rw [length_set];exact hi)
  rw [set_set,set_set,rO h1] at E2;exact ⟨He,O,_,_,E2,h⟩
 ·exact h.elim
end
section
variable {K:Fg} {W:XW} {σ:St} {H:Hp} {Q:VK} {D:cQ} {fa fb:F1} {fl:FL}
theorem iQ:∀{Gs:List (List Addr)} {i j:Nat} {A B:List Addr},Gs.flatten.Nodup->Gs[i]?=some A->Gs[j]?=some B->i≠j->∀a∈A,a∉B
 | G::Gs,0,j+1,A,B,nd,h1,h2,_,a,ha=>by
  rw [flatten_cons] at nd;simp at h1 h2
  subst h1;exact fun z=>(LX nd).2.2 a ha a (ik h2 z) rfl
 | G::Gs,i+1,0,A,B,nd,h1,h2,_,a,ha=>by
  rw [flatten_cons] at nd;simp at h1 h2
  subst h2;exact fun z=>(LX nd).2.2 a z a (ik h1 ha) rfl
 | G::Gs,i+1,j+1,A,B,nd,h1,h2,hij,a,ha=>by
  rw [flatten_cons] at nd;exact iQ (Gs:=Gs) (i:=i) (j:=j) (LX nd).2.1 (by simpa using h1) (by simpa using h2) (by omega) a ha
 | G::Gs,0,0,A,B,_,_,_,h,_,_=>absurd rfl h
 | [],i,j,A,B,_,h1,_,_,_,_=>by simp at h1
end
section
variable {X:Cx}
theorem sg:Lr X (unaryOp .USub) (fun x H Q=>∃i,x=.int i/\Q (.int (-i)) H):=by
 intro pins s σ H x v Q I rx h;obtain ⟨i,rfl,q⟩:=h;obtain ⟨t,rfl⟩:=rx;exact neg_int ⟨.int (-i),H,I.tok _,⟨_,rfl⟩,q⟩
end
section
variable {X:Cx}
variable {N gl:List Str} {vs cs ls lo gs:List Nat} {W:XW} {a b c e:Expr} {es:List Expr} {pos p:Pos} {fa fb fc:F1} {fl:FL} {g:FS}
theorem cs_setI (S:Cp X N gl vs cs ls lo gs) (i:Nat) {x:Str} {px pos':Pos} (hi:N[i]?=some x) (hv:vs.contains i=true) (ha:PE X a (tE X.K W fa)) (hb:PE X b (tE X.K W fb))
  (hs:swapsWithSole [.Subscript (.Name x px) b pos'] a pos.line X.env=pure false) (hw:swappedStores [.Subscript (.Name x px) b pos'] a X.env=pure none)
  (h1:(assignEach [.Subscript (.Name x px) b pos'] X.env).map (·.2)=[assign (.Subscript (.Name x px) b pos') X.env])
  (has:∀v,assign (.Subscript (.Name x px) b pos') X.env v=(do
   let ov <-holding [v] (eval (.Name x px) X.env)
   let iv <-holding [v,ov] (eval b X.env)
   standAt pos'
   holding [v,ov,iv] (setItem ov iv v)
   release [v,ov,iv] [])):PS X (.Assign [.Subscript (.Name x px) b pos'] a pos) (tS X.K W (dG i fa fb)):=by
 have m:=S.nm x (mem_of_getElem? hi)
 exact bN (tW ha (BM (y4 (by rw [S.hN];exact hi) (S.vis i x hi hv) m.1 m.2) hb sO has) hs hw h1) fun _ _ _=>xg
end
def y1:Expr->Bool
 | .Starred ..=>true
 | _=>false
theorem dB {e:Expr} {es:List Expr} {env:Env} (h:y1 e=false):starEach (e::es) env=(false,eval e env)::starEach es env:=by
 cases e<;>first | rfl | cases h
theorem cS {a:Expr} {env:Env} (h:y1 a=false):starEach [a] env=[(false,eval a env)]:=dB h
theorem IP {a b:Expr} {env:Env} (h:y1 a=false) (h2:y1 b=false):starEach [a,b] env=[(false,eval a env),(false,eval b env)]:=by rw [dB h,cS h2]
def DefOk (P:Program) (w:World) (K:Fg) (mg:Str->Option Value) (base:Heap) (j:Nat) (x:Str) (n:Nat) (den:List L4->Res):Prop:=
 ∃(f:Addr) (fd:FuncData) (ps:List Str),dw P w K mg base nB j f fd ps (pN K n den)/\mg x=some (.ref f)/\PySem.W.keepIn K (.ref f)=true/\Binds K fd ps []
def dP (K:Fg) (mg:Str->Option Value) (x:Str) (d:L4):Prop:=∃u v,mg x=some u/\RelV v u/\∀H,Rep K H v d
theorem DefOk.cal {X:Cx} {j k n:Nat} {x:Str} {den:List L4->Res} (h:DefOk X.prog X.w X.K X.mg X.base j x n den) (hr:Room k X.A) (hj:decide (j<=k)=true):FQ X x n den:=by
 obtain ⟨f,fd,ps,F,a,b,c⟩:=h;exact ⟨j,f,fd,ps,F,hr.mono (of_decide_eq_true hj),a,b,c⟩
def JN:L4->V
 | .none=>.non
 | .bool b=>.bl b
 | .int i=>.int i
 | .str x=>.str x
 | _=>.non
def rd:List Value->List L4->Bool
 | .int i _::r,.int j::ds=>decide (i=j)&&rd r ds
 | .str x _::r,.str y::ds=>decide (x=y)&&rd r ds
 | [],[]=>true
 | _,_=>false
theorem HS:∀{us:List Value} {ds:List L4},rd us ds=true->Vals (ds.map JN) us/\∀d∈ds,Sc (JN d) d
 | [],[],_=>⟨.nil,fun d hd=>(nomatch hd)⟩
 | .int i t::r,.int j::ds,h=>by
  simp only [rd,Bool.and_eq_true,decide_eq_true_eq] at h
  obtain ⟨rfl,h⟩:=h;obtain ⟨a,b⟩:=HS h;refine ⟨.cons ⟨t,rfl⟩ a,fun d hd=>?_⟩
  rcases LQ hd with z | z
  ·rw [z];exact .int i
  ·exact b d z
 | .str i t::r,.str j::ds,h=>by
  simp only [rd,Bool.and_eq_true,decide_eq_true_eq] at h
  obtain ⟨rfl,h⟩:=h;obtain ⟨a,b⟩:=HS h;refine ⟨.cons ⟨t,rfl⟩ a,fun d hd=>?_⟩
  rcases LQ hd with z | z
  ·rw [z];exact .str i
  ·exact b d z
def CV (its:Array Value) (ds:List L4):Bool:=decide (its.size<=sizeLine)&&rd its.toList ds
theorem yI {K:Fg} {mg:Str->Option Value} {x:Str} {a:Addr} {dd:Option Addr} {its:Array Value} {n:Nat} {sl:Array (Option Value)} {ds:List L4} (hm:mg x=some (.ref a)) (l:K.lookup a=some ⟨.type "tuple",dd,.seq its n,sl⟩) (h:CV its ds=true):dP K mg x (.tuple ds):=by
 unfold CV at h;simp only [Bool.and_eq_true,decide_eq_true_eq] at h
 obtain ⟨v,s⟩:=HS h.2;refine ⟨.ref a,.ref a,hm,rfl,fun H=>.tup (vs:=ds.map JN) (.inr ⟨_,its,n,l,rfl,rfl,h.1,v⟩) (by simp) fun i v d h1 h2=>?_⟩
 rw [getElem?_map,h2] at h1
 cases h1;exact (s d (mem_of_getElem? h2)).rep
theorem yK {K:Fg} {mg:Str->Option Value} {x:Str} {i:Int} {t:Tok} (hm:mg x=some (.int i t)):dP K mg x (.int i):=⟨.int i t,.int i,hm,⟨t,rfl⟩,fun H=>.int i⟩
theorem Ce {K:Fg} {m:List L4->Res} {H:Hp} {a:Addr} {ns:List Int} {E:XK} (h:m [.list (ns.map .int)]=.ok ⟨.leaf,.bool true⟩) (hS:SqL K H a (ns.map V.int)):pN K 1 m [.ref a] H (fun v _=>v=.bl true) E:=by
 refine ⟨rfl,[],[.list (ns.map .int)],nodup_nil,(fun _ z=>nomatch z),⟨rfl,fun i v d h1 h2=>?_⟩,?_⟩
 ·rw [HW]
  match i,h1,h2 with
  | 0,h1,h2=>
   cases h1
   cases h2;refine .lst hS (by simp) fun i v d h1 h2=>?_
   rw [getElem?_map] at h1 h2
   cases e:ns[i]? with
   | none=>rw [e] at h1;cases h1
   | some z=>
    rw [e] at h1 h2
    cases h1
    cases h2;exact .int z
  | i+1,h1,h2=>simp at h1
 ·rw [h]
  intro v H' G r
  have o:=r.own.rep
  cases o;rfl
end T
namespace TQ
open PySem PySem.Spec L2 T
open PyProof.Rows hiding St
structure Q (p:Prop):Prop where
 p:p
section
variable {X:Cx} {N gl:List Str} {vs cs ls lo gs:List Nat} {W:XW} {a b c e:Expr} {es:List Expr} {pos p:Pos} {fa fb fc:F1} {fl:FL} {ga gb:FB} {g1 g2 g:FS}
theorem JG (S:Cp X N gl vs cs ls lo gs) (i:Nat) {x:Str} (hN:N[i]?=some x) (hv:vs.contains i=true):Q (PE X (.Name x pos) (tE X.K W (ae i))):=⟨by
 have m:=S.nm x (mem_of_getElem? hN)
 exact CT (y4 (by rw [S.hN];exact hN) (S.vis i x hN hv) m.1 m.2)⟩
theorem gG (S:Cp X N gl vs cs ls lo gs) (i:Nat) {x:Str} (hN:N[i]?=some x) (hv:vs.contains i=true):Q (PE X (.Name x pos) (tE X.K W (bx i))):=⟨T.cm S i hN hv⟩
theorem cE (S:Cp X N gl vs cs ls lo gs) (j:Nat) {x:Str} {d:L4} (hj:gl[j]?=some x) (hg:gs.contains j=true) (h:Con X x d):Q (PE X (.Name x pos) (tE X.K W (eK d))):=⟨by
 obtain ⟨u,v,h1,h2,h3⟩:=h;have q:=S.g hj hg
 exact yC q.1 h1 h2 h3 q.2.1⟩
theorem aH {j:Int} {k pos}:Q (PE X (.Constant (.int j) k pos) (tE X.K W (eK (.int j)))):=⟨aR ud fun _ _ _=>tq fun _=>.int j⟩
theorem vN {j:Bool} {k pos}:Q (PE X (.Constant (.bool j) k pos) (tE X.K W (eK (.bool j)))):=⟨aR ET fun _ _ _=>tq fun _=>.bl j⟩
theorem zk {k pos}:Q (PE X (.Constant .none k pos) (tE X.K W (eK .none))):=⟨aR BQ fun _ _ _=>tq fun _=>.non⟩
theorem dR {j:Str} {k pos}:Q (PE X (.Constant (.str j) k pos) (tE X.K W (eK (.str j)))):=⟨aR ub fun _ _ _=>tq fun _=>.str j⟩
theorem nG (ha:Q (PE X a (tE X.K W fa))) (hb:Q (PE X b (tE X.K W fb))):Q (PE X (.BinOp a .Add b pos) (tE X.K W (az aJ fa fb))):=⟨have ha:=ha.p;have hb:=hb.p;aR (eJ B5 ha hb) fun _ _ _=>eD (Dc fun _ _=>.int _)⟩
theorem Gu (ha:Q (PE X a (tE X.K W fa))) (hb:Q (PE X b (tE X.K W fb))):Q (PE X (.BinOp a .Sub b pos) (tE X.K W (az gSub fa fb))):=⟨have ha:=ha.p;have hb:=hb.p;aR (eJ BW ha hb) fun _ _ _=>eD (Dc fun _ _=>.int _)⟩
theorem DZ (ha:Q (PE X a (tE X.K W fa))) (hb:Q (PE X b (tE X.K W fb))):Q (PE X (.BinOp a .Mult b pos) (tE X.K W (az kP fa fb))):=⟨have ha:=ha.p;have hb:=hb.p;aR (eJ BZ ha hb) fun _ _ _=>eD (oS (fun i j h=>by
 simp only [rl,Bool.or_eq_true,Bool.and_eq_true,decide_eq_true_eq] at h
 exact h) fun _ _=>.int _)⟩
theorem jJ (ha:Q (PE X a (tE X.K W fa))) (hb:Q (PE X b (tE X.K W fb))):Q (PE X (.BinOp a .FloorDiv b pos) (tE X.K W (az u5 fa fb))):=⟨have ha:=ha.p;have hb:=hb.p;aR (eJ xO ha hb) fun _ _ _=>eD (oS (fun i j h=>by
 simp only [yO,Bool.and_eq_true,decide_eq_true_eq] at h
 exact h) fun _ _=>.int _)⟩
theorem rB (ha:Q (PE X a (tE X.K W fa))) (hb:Q (PE X b (tE X.K W fb))):Q (PE X (.BinOp a .Mod b pos) (tE X.K W (az b8 fa fb))):=⟨have ha:=ha.p;have hb:=hb.p;aR (eJ B0 ha hb) fun _ _ _=>eD (oS (fun i j h=>by
 simp only [yN,decide_eq_true_eq] at h
 exact h) fun _ _=>.int _)⟩
theorem rU (ha:Q (PE X a (tE X.K W fa))) (hb:Q (PE X b (tE X.K W fb))):Q (PE X (.BinOp a .Pow b pos) (tE X.K W (az yp fa fb))):=⟨have ha:=ha.p;have hb:=hb.p;aR (eJ BX ha hb) fun _ _ _=>eD (oS (fun i j h=>by
 simp only [yM,Bool.and_eq_true,decide_eq_true_eq] at h
 exact ⟨h.1.1,h.1.2,h.2⟩) fun _ _=>.int _)⟩
theorem wm (ha:Q (PE X a (tE X.K W fa))):Q (PE X (.UnaryOp .USub a pos) (tE X.K W (eU bQ fa))):=⟨have ha:=ha.p;aR (zC sg ha) fun _ _ _=>EA fun x H Q a d r e k=>by
 cases r<;>simp only [bQ] at e<;>cases e
 exact ⟨_,rfl,k _ (.int _)⟩⟩
theorem rV (ha:Q (PE X a (tE X.K W fa))):Q (PE X (.UnaryOp .Not a pos) (tE X.K W (yx fa))):=⟨have ha:=ha.p;aR (BP ha) fun _ _ _=>Bc⟩
theorem JJ {op:CmpOp} {r:R2} {g:L4->L4->Option L4} (k:Ck X op r g) (ha:Q (PE X a (tE X.K W fa))) (hb:Q (PE X b (tE X.K W fb))) (hm:behindInMarks op b=false):Q (PE X (.Compare a [op] [b] pos) (tE X.K W (az g fa fb))):=⟨have ha:=ha.p;have hb:=hb.p;CU k.o k.g ha hb hm⟩
theorem zl {op op':CmpOp} {r r':R2} {g g':L4->L4->Option L4} (k:Ck X op r g) (k':Ck X op' r' g') (ha:Q (PE X a (tE X.K W fa))) (hb:Q (PE X b (tE X.K W fb))) (hc:Q (PE X c (tE X.K W fc))) (hm:lastMarks [op,op'] [b,c]=false):Q (PE X (.Compare a [op,op'] [b,c] pos) (tE X.K W (yZ g g' fa fb fc))):=⟨have ha:=ha.p;have hb:=hb.p;have hc:=hc.p;vk k.o k.g k'.o k'.g ha hb hc hm⟩
theorem zg {op} (h:Q (PE X a (tE X.K W fa))):Q (PE X (.BoolOp op [a] pos) (tE X.K W fa)):=⟨L2.pe_one h.p⟩
theorem ze (ha:Q (PE X a (tE X.K W fa))) (hb:Q (PE X (.BoolOp .And (b::es) pos) (tE X.K W fb))):Q (PE X (.BoolOp .And (a::b::es) pos) (tE X.K W (d7 fa fb))):=⟨have ha:=ha.p;have hb:=hb.p;aR (BU ha hb) fun _ _ _=>Br⟩
theorem DR (hc:Q (PT X c (tT X.K W ga))) (ha:Q (PE X a (tE X.K W fa))) (hb:Q (PE X b (tE X.K W fb))):Q (PE X (.IfExp c a b pos) (tE X.K W (rF ga fa fb))):=⟨have hc:=hc.p;have ha:=ha.p;have hb:=hb.p;aR (ue hc ha hb) fun _ _ _=>EB⟩
theorem rW (ha:Q (PE X a (tE X.K W fa))) (hb:Q (PE X b (tE X.K W fb))) (hs:Df b):Q (PE X (.Subscript a b pos) (tE X.K W (ai fa fb))):=⟨have ha:=ha.p;have hb:=hb.p;aR (zD uL ha hb hs) fun _ _ _=>Bi⟩
theorem nH (s:Sh) (h:Q (PA X es (tA X.K W fl))):Q (PE X (.List es pos) (tE X.K W (aW s fl))):=⟨have h:=h.p;aR (uc h) fun _ _ _=>xl⟩
theorem ff {x1} (h:Q (PA X es (tA X.K W fl))):Q (PE X (.Tuple es x1 pos) (tE X.K W (bg fl))):=⟨have h:=h.p;aR (BO h) fun _ _ _=>A6⟩
theorem vR :Q (PA X [] (tA X.K W af)):=⟨T.da_nil ⟩
theorem il (ha:Q (PE X e (tE X.K W fa))) (hr:Q (PA X es (tA X.K W fl))) (hs:starEach (e::es) X.env=(false,eval e X.env)::starEach es X.env):Q (PA X (e::es) (tA X.K W (ab fa fl))):=⟨T.da_cons ha.p hr.p hs⟩
theorem JI {scope:Scope} {x:Str} {px:Pos} {iter elt:Expr} {ifs:List Expr} {fi:FI} {fe:F1} {fc:FB} {vs' cs' lo' gs':List Nat} (S:Cp X N gl vs cs ls lo gs) (s:Sh) (i:Nat) (hx:N[i]?=some x) (h1:iW N i cs scope=true) (h2:o6 N gl vs' cs' [i] lo' gs' scope=true) (hi':Q (PI X (.Name x px) iter (tI X.K W fi))) (hc:vV X N gl vs' cs' [i] lo' gs' fun Y=>Q (PF Y ifs (tT Y.K W0 fc))) (he:vV X N gl vs' cs' [i] lo' gs' fun Y=>Q (PE Y elt (tE Y.K W0 fe))) (hs:∀x,foldedSetIterable iter X.env x=pure x):Q (PE X (.ListComp elt [⟨.Name x px,iter,ifs,0⟩] scope pos) (tE X.K W (ax s i fi fc fe))):=⟨T.co S s i hx h1 h2 hi'.p (fun Y S F=>(hc Y S F).p) (fun Y S F=>(he Y S F).p) hs⟩
theorem rQ {scope:Scope} {x y:Str} {px pos' spos:Pos} {iter elt:Expr} {ifs:List Expr} {fi:FI} {fe:F1} {fc:FB} {vs' cs' lo' gs':List Nat} (S:Cp X N gl vs cs ls lo gs) (own:Bool) (j:Nat) (s:Sh) (i:Nat) (hy:N[j]?=some y) (hyl:lo.contains j=true) (hx:N[i]?=some x) (hsl:(pos'.line==pos.line)=true) (hsn:(scope.names.any fun (n,k)=>n==y&&(k==NameKind.local||k==NameKind.cell))=false) (h1:iW N i cs scope=true) (h2:o6 N gl vs' cs' [i] lo' gs' scope=true) (hi':Q (PI X (.Name x px) iter (tI X.K W fi))) (hc:vV X N gl vs' cs' [i] lo' gs' fun Y=>Q (PF Y ifs (tT Y.K W0 fc))) (he:vV X N gl vs' cs' [i] lo' gs' fun Y=>Q (PE Y elt (tE Y.K W0 fe))) (hs:∀x,foldedSetIterable iter X.env x=pure x):Q (PS X (.Assign [.Name y pos'] (.ListComp elt [⟨.Name x px,iter,ifs,0⟩] scope pos) spos) (tS X.K W (aA own j (ax s i fi fc fe)))):=⟨by
 have hi':=hi'.p
 have hc:=fun Y S F=>(hc Y S F).p
 have he:=fun Y S F=>(he Y S F).p
 have B:=fun cells C s₀ H₀ ex=>S.blk h2 cells C s₀ H₀ ex
 have L:=fun cells C s₀ H₀ ex=>(B cells C s₀ H₀ ex).loc i x hx (by simp)
 exact mY (X:=X) own j s i (lG S h1) (by rw [S.hN];exact S.nd) hi' (fun cells C s₀ H₀ ex=>hc _ (B cells C s₀ H₀ ex) ⟨rfl,rfl,rfl,rfl,rfl,rfl⟩) (fun cells C s₀ H₀ ex=>he _ (B cells C s₀ H₀ ex) ⟨rfl,rfl,rfl,rfl,rfl,rfl⟩)
  (me S.kind (S.loo j y hy hyl) hsl hsn) (by rw [S.hN];exact hy) (S.loo j y hy hyl) S.calm (by rw [S.hN];exact hx) (fun cells C s₀ H₀ ex=>(L cells C s₀ H₀ ex).1) (fun cells C s₀ H₀ ex=>(L cells C s₀ H₀ ex).2) hs⟩
theorem sd (S:Cp X N gl vs cs ls lo gs) (j:Nat) (hj:gl[j]?=some ("len":Str)) (hg:gs.contains j=true) (hm:X.mg "len"=none) (ha:Q (PA X (e::es) (tA X.K W fl))) (he:starEach (e::es) X.env=(false,eval e X.env)::starEach es X.env) (hpl:(backTo pos (starEach es X.env)).any (·.1)=false):Q (PE X (.Call (.Name "len" p) (e::es) [] pos) (tE X.K W (ba aV fl))):=⟨have ha:=ha.p;o5 (call_len_seq.or jA) CC zQ hm ha (S.g hj hg).1 (S.g hj hg).2.2 (S.g hj hg).2.1 he hpl⟩
theorem rA (S:Cp X N gl vs cs ls lo gs) (j:Nat) (hj:gl[j]?=some ("all":Str)) (hg:gs.contains j=true) (hm:X.mg "all"=none) (ha:Q (PA X (e::es) (tA X.K W fl))) (he:starEach (e::es) X.env=(false,eval e X.env)::starEach es X.env) (hpl:(backTo pos (starEach es X.env)).any (·.1)=false):Q (PE X (.Call (.Name "all" p) (e::es) [] pos) (tE X.K W (ba (bK false) fl))):=⟨have ha:=ha.p;o5 (rj S.calm) u0 Fz hm ha (S.g hj hg).1 (S.g hj hg).2.2 (S.g hj hg).2.1 he hpl⟩
theorem jO (S:Cp X N gl vs cs ls lo gs) (j:Nat) (hj:gl[j]?=some ("any":Str)) (hg:gs.contains j=true) (hm:X.mg "any"=none) (ha:Q (PA X (e::es) (tA X.K W fl))) (he:starEach (e::es) X.env=(false,eval e X.env)::starEach es X.env) (hpl:(backTo pos (starEach es X.env)).any (·.1)=false):Q (PE X (.Call (.Name "any" p) (e::es) [] pos) (tE X.K W (ba (bK true) fl))):=⟨have ha:=ha.p;o5 (rh S.calm) u0 Fy hm ha (S.g hj hg).1 (S.g hj hg).2.2 (S.g hj hg).2.1 he hpl⟩
theorem se (S:Cp X N gl vs cs ls lo gs) (j:Nat) (hj:gl[j]?=some ("int":Str)) (hg:gs.contains j=true) (hm:X.mg "int"=none) (ha:Q (PA X (e::es) (tA X.K W fl))) (he:starEach (e::es) X.env=(false,eval e X.env)::starEach es X.env) (hpl:(backTo pos (starEach es X.env)).any (·.1)=false):Q (PE X (.Call (.Name "int" p) (e::es) [] pos) (tE X.K W (ba mT fl))):=⟨have ha:=ha.p;Fn rg CD Fw hm ha (S.g hj hg).1 (S.g hj hg).2.2 (S.g hj hg).2.1 he hpl⟩
theorem ip (S:Cp X N gl vs cs ls lo gs) (j:Nat) (hj:gl[j]?=some ("list":Str)) (hg:gs.contains j=true) (hm:X.mg "list"=none) (ha:Q (PE X e (tE X.K W fa))) (hs:starEach [e] X.env=[(false,eval e X.env)]):Q (PE X (.Call (.Name "list" p) [e] [] pos) (tE X.K W (zb fa))):=⟨have ha:=ha.p;qV hm ha (S.g hj hg).1 hs⟩
theorem JK {x:Str} {n:Nat} {den:List L4->Res} (S:Cp X N gl vs cs ls lo gs) (j:Nat) (hj:gl[j]?=some x) (hg:gs.contains j=true) (C:FQ X x n den) (ha:Q (PA X (e::es) (tA X.K W fl))) (he:starEach (e::es) X.env=(false,eval e X.env)::starEach es X.env) (hpl:(backTo pos (starEach es X.env)).any (·.1)=false):Q (PE X (.Call (.Name x p) (e::es) [] pos) (tE X.K W (ag n den fl))):=⟨by
 have ha:=ha.p
 obtain ⟨k,f,fd,ps,F,hr,hm,hk,hb⟩:=C;exact yE F hr hm hk hb ha (S.g hj hg).1 (S.g hj hg).2.1 he hpl⟩
theorem dC {tg:Expr} (S:Cp X N gl vs cs ls lo gs) (j:Nat) (hj:gl[j]?=some ("range":Str)) (hg:gs.contains j=true) (hm:X.mg "range"=none) (ha:Q (PA X [a] (tA X.K W fl))) (hs:starEach [a] X.env=[(false,eval a X.env)]):Q (PI X tg (.Call (.Name "range" p) [a] [] pos) (tI X.K W (dz fl))):=⟨have ha:=ha.p;Fm hm ha (S.g hj hg).1 hs⟩
theorem rZ {tg:Expr} (S:Cp X N gl vs cs ls lo gs) (j:Nat) (hj:gl[j]?=some ("range":Str)) (hg:gs.contains j=true) (hm:X.mg "range"=none) (ha:Q (PA X [a,b] (tA X.K W fl))) (hs:starEach [a,b] X.env=[(false,eval a X.env),(false,eval b X.env)]) (hs2:starEach [b] X.env=[(false,eval b X.env)]):Q (PI X tg (.Call (.Name "range" p) [a,b] [] pos) (tI X.K W (rE fl))):=⟨have ha:=ha.p;Fl hm ha (S.g hj hg).1 hs hs2⟩
theorem fE {tg:Expr} (ha:Q (PE X a (tE X.K W fa))):Q (PI X tg a (tI X.K W (aN fa))):=⟨have ha:=ha.p;lP (Ig ha) fun _ _ _=>xo⟩
theorem JH {op:CmpOp} {r:R2} {g:L4->L4->Option L4} (k:Ck X op r g) (ha:Q (PE X a (tE X.K W fa))) (hb:Q (PE X b (tE X.K W fb))) (hm:behindInMarks op b=false):Q (PT X (.Compare a [op] [b] pos) (tT X.K W (aP av (az g fa fb)))):=⟨T.ct k ha.p hb.p hm⟩
theorem zf (ha:Q (PT X a (tT X.K W ga))):Q (PT X (.UnaryOp .Not a pos) (tT X.K W (du ga))):=⟨have ha:=ha.p;vE (BI ha) fun _ _ _=>xv⟩
theorem GB (ha:Q (PT X a (tT X.K W ga))):Q (PW X (.BoolOp .And [a] pos) (tT X.K W ga)):=⟨have ha:=ha.p;xy ha⟩
theorem D0 (ha:Q (PT X a (tT X.K W ga))):Q (PW X (.BoolOp .Or [a] pos) (tT X.K W ga)):=⟨have ha:=ha.p;BG ha⟩
theorem Gv (ha:Q (PT X a (tT X.K W ga))) (hb:Q (PW X (.BoolOp .And (b::es) pos) (tT X.K W gb))):Q (PW X (.BoolOp .And (a::b::es) pos) (tT X.K W (d9 ga gb))):=⟨have ha:=ha.p;have hb:=hb.p;zT (BH ha hb) fun _ _ _=>xw⟩
theorem wg (ha:Q (PT X a (tT X.K W ga))) (hb:Q (PW X (.BoolOp .Or (b::es) pos) (tT X.K W gb))):Q (PW X (.BoolOp .Or (a::b::es) pos) (tT X.K W (jC ga gb))):=⟨have ha:=ha.p;have hb:=hb.p;zT (EN ha hb) fun _ _ _=>Bp⟩
theorem wj (h:Q (PW X a (tT X.K W ga))):Q (PT X a (tT X.K W ga)):=⟨L2.PW.pt h.p⟩
theorem lU (ha:Q (PE X a (tE X.K W fa))) (he:∀whole,isTrue a X.env whole=(do let v <-whole;standAt a.pos;holding [v] (truthy v))):Q (PT X a (tT X.K W (aP bu fa))):=⟨have ha:=ha.p;vE (tQ ha he) fun _ _ _=>A7⟩
theorem dS :Q (PSs X [] (tS X.K W aQ)):=⟨HI ox fun _ _ _=>xj⟩
theorem fF {st:Stmt} (h1:Q (PS X st (tS X.K W g1))):Q (PSs X [st] (tS X.K W g1)):=⟨have h1:=h1.p;Gb h1⟩
theorem aT {st:Stmt} {rest:List Stmt} (h1:Q (PS X st (tS X.K W g1))) (h2:Q (PSs X rest (tS X.K W g2))):Q (PSs X (st::rest) (tS X.K W (ak g1 g2))):=⟨have h1:=h1.p;have h2:=h2.p;HI (IK h1 h2) fun _ _ _=>A9⟩
theorem rY (i:Nat) {sts:List Stmt} (h:Q (PSs X sts (tS X.K W g))):Q (PSs X sts (tS X.K W (pV i g))):=⟨have h:=h.p;HI h fun _ _ _=>Bl⟩
theorem rT (ha:Q (PE X a (tE X.K W fa))):Q (PS X (.Return (some a) pos) (tS X.K W (aF fa))):=⟨have ha:=ha.p;bN (tU ha) fun _ _ _=>Ba⟩
theorem dQ {A B:List Stmt} (hc:Q (PT X c (tT X.K W ga))) (ha:Q (PSs X A (tS X.K W g1))) (hb:Q (PSs X B (tS X.K W g2))):Q (PS X (.If c A B pos) (tS X.K W (b7 ga g1 g2))):=⟨have hc:=hc.p;have ha:=ha.p;have hb:=hb.p;bN (zB hc ha hb) fun _ _ _=>Bh⟩
theorem Am (S:Cp X N gl vs cs ls lo gs) (i:Nat) {x:Str} {px:Pos} {iter:Expr} {body:List Stmt} {fi:FI} {g:FS} (hx:N[i]?=some x) (hl:ls.contains i=true) (hp:PassesOwn (model X.prog X.w) X.A X.env X.xe) (hi':Q (PI X (.Name x px) iter (tI X.K W fi))) (hb:Q (PSs X body (tS X.K W g))) (hs:∀x,foldedSetIterable iter X.env x=pure x):Q (PS X (.For (.Name x px) iter body [] pos) (tS X.K W (cJ i fi g))):=⟨have hi':=hi'.p;have hb:=hb.p;CQ i hp (by rw [S.hN];exact S.nd) hi' hb S.calm (by rw [S.hN];exact hx) (S.loc i x hx hl).1 (S.loc i x hx hl).2 hs⟩
theorem rX (S:Cp X N gl vs cs ls lo gs) (own:Bool) (i:Nat) {x:Str} {pos':Pos} (hi:N[i]?=some x) (hl:ls.contains i=true) (hs:swapsWith a (some (.Name x pos')) pos.line X.env=pure false) (ha:Q (PE X a (tE X.K W fa))):Q (PS X (.Assign [.Name x pos'] a pos) (tS X.K W (aA own i fa))):=⟨have ha:=ha.p;CP own i (by rw [S.hN];exact S.nd) ha (by rw [S.hN];exact hi) (S.loc i x hi hl).1 hs (S.loc i x hi hl).2⟩
theorem pD (S:Cp X N gl vs cs ls lo gs) (i:Nat) {x:Str} {px pos':Pos} (hi:N[i]?=some x) (hv:vs.contains i=true) (ha:Q (PE X a (tE X.K W fa))) (hb:Q (PE X b (tE X.K W fb))) (hs:swapsWithSole [.Subscript (.Name x px) b pos'] a pos.line X.env=pure false) (hw:swappedStores [.Subscript (.Name x px) b pos'] a X.env=pure none) (h1:(assignEach [.Subscript (.Name x px) b pos'] X.env).map (·.2)=[assign (.Subscript (.Name x px) b pos') X.env]) (has:∀v,assign (.Subscript (.Name x px) b pos') X.env v=(do
   let ov <-holding [v] (eval (.Name x px) X.env)
   let iv <-holding [v,ov] (eval b X.env)
   standAt pos'
   holding [v,ov,iv] (setItem ov iv v)
   release [v,ov,iv] [])):Q (PS X (.Assign [.Subscript (.Name x px) b pos'] a pos) (tS X.K W (dG i fa fb))):=⟨T.cs_setI S i hi hv ha.p hb.p hs hw h1 has⟩
theorem Ap (S:Cp X N gl vs cs ls lo gs) (i:Nat) {x:Str} {apos cpos:Pos} (hi:N[i]?=some x) (hv:vs.contains i=true) (ha:Q (PE X a (tE X.K W fa))) (hs:starEach [a] X.env=[(false,eval a X.env)]) (hbase:attributeBase (.Name x p) "append" X.env (eval (.Name x p) X.env)=eval (.Name x p) X.env) (hline:(apos.endLine==cpos.line)=true) (hfew:((backTo cpos (starEach [a] X.env)).all (fun x=>!x.1)&&(backToKw cpos (keywordEach [] X.env)).all (fun x=>x.1.isSome)
   && decide ([a].length+([]:List Keyword).length+(if ([]:List Keyword).isEmpty then 0 else 1)<30))=true) (hsw:swapsWith (.Call (.Attribute (.Name x p) "append" apos) [a] [] cpos) none pos.line X.env=pure false):Q (PS X (.Expr (.Call (.Attribute (.Name x p) "append" apos) [a] [] cpos) pos) (tS X.K W (cX i fa))):=⟨T.cs_append S i hi hv ha.p hs hbase hline hfew hsw⟩
theorem dU :Q (PF X [] (tT X.K W0 aC)):=⟨FG ua fun σ H Q h=>by
 obtain ⟨He,O,Fs,Γ,E,h⟩:=h;exact h H Fs (Same.refl _) E fun _ z=>.inl z⟩
theorem Do (h:Q (PT X c (tT X.K W0 ga))):Q (PF X [c] (tT X.K W0 ga)):=⟨have h:=h.p;BN h⟩
end
end TQ
namespace T
open PySem PySem.Spec L2
open PyProof.Rows hiding St
def Ez:FS:=fun _=>.no
def vS:L4->String
 | .none => "NoneType"
 | .bool _ => "bool"
 | .int _ => "int"
 | .str _ => "str"
 | .list _ => "list"
 | .tuple _ => "tuple"
 | .dict _ => "dict"
def kL (t c:String):Bool:=t==c||(t == "bool"&&c == "int")
def kinds:List String:=["bool", "int", "str", "list", "tuple"]
theorem ya {K:Fg} {c:String} (hc:c∈kinds):∀t∈["NoneType", "bool", "int", "str", "list", "tuple"],PySem.W.kitOne K (.type t) (.type c)=some (kL t c):=by
 intro t ht;unfold kinds at hc;simp only [mem_cons,not_mem_nil,or_false] at hc ht
 rcases hc with rfl | rfl | rfl | rfl | rfl<;>rcases ht with rfl | rfl | rfl | rfl | rfl | rfl<;>kernel_rfl
section
variable {X:Cx} {pins:List (Addr×Obj)} {σ:St} {H:Hp} {s:Shared} {A:Around} {E:Value->Shared->Prop} {Q:Value->Shared->Prop} {c:Value} {b:Bool}
theorem mP {x:V} {u:Value} {d:L4} (I:Inv X pins σ H s) (rx:RelV x u) (r:Rep X.K H x d) (e:PySem.W.kitOne X.K (.type (vS d)) c=some b) (h:∀tk,Q (.bool b) { s with toks:=tk }) :
  wpAny (model X.prog X.w) A (call (.builtin "isinstance") [u,c]) Q E s:=by
 cases r with
 | non=>exact An I rx .non e h
 | bl y=>exact An I rx (.bl y) e h
 | int i=>exact An I rx (.int i) e h
 | str y=>exact An I rx (.str y) e h
 | @lst p vs ds hs hl q=>
  rcases hs with (z | ⟨o,z⟩) | ⟨o,its,n,hk,hc,hd,hz,_⟩
  ·exact An I rx (.lst z) e h
  ·exact An I rx (.frz z) e h
  ·cases (show u=Value.ref p from rx)
   exact PySem.W.kia_one PySem.W.kitx_list I.kIn ⟨o,I.kIn _ o hk,hc⟩ e nofun h
 | @tup p vs ds hs hl q=>
  rcases hs with (z | ⟨o,z⟩) | ⟨o,its,n,hk,hc,hd,hz,_⟩
  ·exact An I rx (.tup z) e h
  ·cases (show u=Value.ref p from rx)
   obtain ⟨_,_,_,n,p1,h1,h2,_⟩:=(show ObjOk X.prog X.w H s.heap p (.frz o (.tup vs)) from I.hok p _ z);exact PySem.W.kia_one PySem.W.kitx_tuple I.kIn ⟨p1,h1,h2⟩ e nofun h
  ·cases (show u=Value.ref p from rx)
   exact PySem.W.kia_one PySem.W.kitx_tuple I.kIn ⟨o,I.kIn _ o hk,hc⟩ e nofun h
end
def Bx (K:Fg) (c:String):List V->Hp->VK->Prop:=fun xs H Q=>∃x d,xs=[x,.ty c]/\Rep K H x d/\Q (.bl (kL (vS d) c)) H
theorem vt {X:Cx} {c:String} (hc:c∈kinds):CallR X (.builtin "isinstance") (Bx X.K c):=by
 intro pins s σ H xs us Q I rv h;obtain ⟨x,d,rfl,r,q⟩:=h;match us,rv with
 | [u,t],.cons r1 (.cons r2 .nil)=>
  cases (show t=Value.type c from r2)
  have ht:vS d∈["NoneType", "bool", "int", "str", "list", "tuple"]:=by cases r<;>simp [vS]
  exact mP I r1 r (ya hc _ ht) fun tk=>⟨.bl _,H,I.tok tk,rfl,q⟩
def vb (c:String) (fa:F1):F1:=aK fa fun p Γ=>.ok ⟨.leaf,.bool (kL (vS p.d) c)⟩ Γ
theorem Bf {K:Fg} {W:XW} {σ:St} {H:Hp} {Q:VK} {fa:F1} {c:String} (h:tE K W (vb c fa) σ H Q):AL (Bx K c) (iy (tE K W fa) (iy (tC (.ty c)) sA)) σ H Q:=by
 show tE K W fa σ H fun x H1=>Bx K c [x,.ty c] H1 Q
 refine vX h fun He O Fs Γ1 p v H1 G Fs1 nd A w=>?_
 exact ⟨v,p.d,rfl,A.own.rep,Wants.scal w (.bl _) A.same A.env.dropL (fun a ha=>ha) nd fun a ha=>A.new a (LN _ ha)⟩
def nC (c:FB) (g:FS):Nat->Ev->cu
 | 0,_=>.no
 | n+1,Γ=>match c Γ with
  | .ok true Γ1=>(match g Γ1 with
   | .nx Γ2=>nC c g n Γ2
   | .ct Γ2=>nC c g n Γ2
   | .bk Γ2=>.nx Γ2
   | .rt p=>.rt p
   | .er e Γ2=>.er e Γ2
   | .no=>.no)
  | .ok false Γ1=>.nx Γ1
  | .er e Γ1=>.er e Γ1
  | .no=>.no
def pw (n:Nat) (c:FB) (g:FS):FS:=nC c g n
section
variable {K:Fg} {W:XW} {σ:St} {H:Hp} {Q:VK} {D:cQ} {fa fb:F1} {fl:FL}
theorem sZ {n:Nat} {c:FB} {g:FS} (h:tS K W (pw n c g) D σ H):sy (tT K W c) (tS K W g) D σ H:=by
 obtain ⟨He,O,Fs,Γ,E,h⟩:=h;refine ⟨fun m σ' H'=>∃Γk Fk,EnvOk K He O Fk H' σ' Γk/\gF K W He O D (nC c g m Γk),⟨n,Γ,Fs,E,h⟩,?_⟩
 rintro m σ' H' ⟨Γk,Fk,Ek,hw⟩
 cases m with
 | zero=>exact hw.elim
 | succ m=>
  refine ⟨He,O,Fk,Γk,Ek,?_⟩
  rw [nC] at hw
  cases e:c Γk with
  | er x Γ1=>rw [e] at hw;exact fun H2 Fs2 s E2=>hw σ' H2 Fs2 E2
  | no=>rw [e] at hw;exact hw
  | ok b Γ1=>
   rw [e] at hw;intro H2 Fs2 s2 E2 n2
   cases b with
   | false=>rw [if_neg Bool.false_ne_true];exact hw σ' H2 Fs2 E2
   | true=>
    rw [if_pos rfl];refine ⟨fun σ3 H3=>∃Γ3 F3,EnvOk K He O F3 H3 σ3 Γ3/\gF K W He O D (nC c g m Γ3),fun σ3 H3 q=>⟨m,Nat.lt_succ_self _,q⟩,He,O,Fs2,Γ1,E2,?_⟩
    have hw:gF K W He O D (match g Γ1 with | .nx Γ2=>nC c g m Γ2 | .ct Γ2=>nC c g m Γ2 | .bk Γ2=>.nx Γ2 | .rt p=>.rt p | .er e Γ2=>.er e Γ2 | .no=>.no):=hw
    cases eb:g Γ1 with
    | nx Γ'=>rw [eb] at hw;exact fun σ2 H2 F2 E2=>⟨Γ',F2,E2,hw⟩
    | ct Γ'=>rw [eb] at hw;exact fun σ2 H2 F2 E2=>⟨Γ',F2,E2,hw⟩
    | bk Γ'=>rw [eb] at hw;exact fun σ2 H2 F2 E2=>hw σ2 H2 F2 E2
    | rt p=>rw [eb] at hw;exact fun u H2 G r=>hw u H2 G r
    | er x Γ'=>rw [eb] at hw;exact fun σ2 H2 F2 E2=>hw σ2 H2 F2 E2
    | no=>rw [eb] at hw;exact hw
theorem EnvOk.chgF {He:Hp} {O:List Addr} {Fs:List (List Addr)} {Γ:Ev} {i:Nat} {ds:List L4} (E:EnvOk K He O Fs H σ Γ) (h:Γ[i]?=some (some ⟨.lst .leaf,.list ds⟩)) :
  ∃l vs,σ[i]?=some (some (.ref l))/\H l=some (.lst vs)/\vs.length=ds.length/\(∀(j:Nat) u d,vs[j]?=some u->ds[j]?=some d->Rep K (bt H (O++Fs.flatten)) u d) /\
   ∀(vs':List V) (ds':List L4),vs'.length=ds'.length->(∀(j:Nat) u d,vs'[j]?=some u->ds'[j]?=some d->Rep K (bt H (O++Fs.flatten)) u d)->EnvOk K He O Fs (bb H l (.lst vs')) σ (Γ.set i (some ⟨.lst .leaf,.list ds'⟩)):=by
 obtain ⟨hv,v,F,h1,E1,o1,sub⟩:=E.move h;have hi:i<Γ.length:=(LY h).1
 obtain ⟨_,v0,F0,h10,h20,o0⟩:=E.slot i _ h;obtain ⟨l,vs,rfl,rfl,hp,hl,hr⟩:=o1.leaves;obtain ⟨l',vs',e0,e1,hp',hl',hr'⟩:=o0.leaves;rw [h1] at h10
 cases h10
 cases e0;rw [hp] at hp'
 cases hp'
 refine ⟨l,vs,h1,hp,hl,hr',fun ws ds' hw q=>?_⟩
 have hlF:l∈Fs.flatten:=sub l (LO _ (List.mem_singleton.mpr rfl))
 have hHe:He l=none:=E.fresh l hlF
 have E4:=E1.mutO (o:=.lst ws) (LO _ (List.mem_singleton.mpr rfl)) hp hHe
 have ownL:Own K ([l]++O++(Fs.set i []).flatten) (bb H l (.lst ws)) (.lst .leaf) [l] (.ref l) (.list ds'):=by
  refine Own.mkLeaves dA hw fun j u d a1 a2=>?_
  rw [FZ (LO _ (LO _ (List.mem_singleton.mpr rfl)))];refine (q j u d a1 a2).mono (nD (Same.refl _) fun a ha=>.inl ?_)
  rcases LP ha with z | z
  ·rcases LP z with z | z
   ·rw [List.mem_singleton.mp z];exact LN _ hlF
   ·exact LO _ z
  ·exact LN _ (sub a (LN _ z))
 have fin:=EnvOk.put (i:=i) (p:=⟨.lst .leaf,.list ds'⟩) (v:=.ref l) E4 ownL rfl (fun a ha=>by rw [List.mem_singleton.mp ha];exact hHe) (by rw [length_set];exact hi)
 rw [set_set,set_set,rO h1] at fin;rw [e1] at h20;rw [rO h20] at fin;exact fin
def K5 (j i:Nat):FS:=fun Γ=>match Γ[i]? with
 | some (some ⟨.lst .leaf,.list ds⟩)=>(match ds.getLast? with
  | some d=>if j<Γ.length/\j≠i then .nx ((Γ.set i (some ⟨.lst .leaf,.list ds.dropLast⟩)).set j (L5 d)) else .no
  | none=>.no)
 | _=>.no
def DN:Option (Option PV)->Bool
 | some (some ⟨.lst (.lst .leaf),.list _⟩)=>true
 | _=>false
theorem mQ {o:Option (Option PV)} (h:DN o=true):∃ds,o=some (some ⟨.lst (.lst .leaf),.list ds⟩):=by
 unfold DN at h;split at h
 ·exact ⟨_,rfl⟩
 ·cases h
theorem EnvOk.chg2 {He:Hp} {O:List Addr} {Fs:List (List Addr)} {Γ:Ev} {i j:Nat} {ds es:List L4} (E:EnvOk K He O Fs H σ Γ) (h:Γ[i]?=some (some ⟨.lst (.lst .leaf),.list ds⟩)) (hj:ds[j]?=some (.list es)) :
  ∃l vs m ws,σ[i]?=some (some (.ref l))/\H l=some (.lst vs)/\vs.length=ds.length/\vs[j]?=some (.ref m)/\H m=some (.lst ws)/\ws.length=es.length/\(∀(k:Nat) u d,ws[k]?=some u->es[k]?=some d->Rep K (bt H (O++Fs.flatten)) u d) /\
   ∀(ws':List V) (es':List L4),ws'.length=es'.length->(∀(k:Nat) u d,ws'[k]?=some u->es'[k]?=some d->Rep K (bt H (O++Fs.flatten)) u d)->EnvOk K He O Fs (bb H m (.lst ws')) σ (Γ.set i (some ⟨.lst (.lst .leaf),.list (ds.set j (.list es'))⟩)):=by
 obtain ⟨hv,v,F,h1,E1,o1,sub⟩:=E.move h;have hi:i<Γ.length:=(LY h).1
 obtain ⟨_,v0,F0,h10,h20,o0⟩:=E.slot i _ h;have eF:F0=F:=by
  have q:=E.move h
  cases o0 with
  | @lst _ l0 vs0 _ Fs0 a1 a2 a3 a4 a5 a6=>
   cases o1 with
   | @lst _ l1 vs1 _ Fs1 b1 b2 b3 b4 b5 b6=>
    rw [h1] at h10
    cases h10;rw [a2] at b2
    cases b2;have:Fs0=Fs1:=by
     apply ext_getElem?
     intro k;by_cases hk:k<ds.length
     ·have c0:=a6 k (vs0[k]'(by omega)) (ds[k]'hk) (Fs0[k]'(by omega)) (LR _) (LR _) (LR _)
      have c1:=b6 k (vs0[k]'(by omega)) (ds[k]'hk) (Fs1[k]'(by omega)) (LR _) (LR _) (LR _)
      rw [LR (by omega),LR (by omega)]
      generalize Fs0[k]'(by omega)=A0 at c0
      generalize Fs1[k]'(by omega)=A1 at c1
      generalize vs0[k]'(by omega)=u at c0 c1
      generalize ds[k]'hk=d at c0 c1
      cases c0 with
      | lst x1 x2 x3 x4 x5 x6=>
       rename_i p0 vs2 ds2 Fs2;obtain ⟨l2,_,e2,e3,_⟩:=(Own.lst x1 x2 x3 x4 x5 x6).leaves;obtain ⟨l3,_,e4,e5,_⟩:=c1.leaves
       cases e2
       cases e4;rw [e3,e5]
     ·rw [getElem?_eq_none (by omega),getElem?_eq_none (by omega)]
    rw [this]
 subst eF;clear o0
 cases o1 with
 | @lst _ l vs _ Fs0 hsv hp hl hf nd q=>
  have hjl:j<ds.length:=(LY hj).1
  have vj:vs[j]?=some (vs[j]'(by omega)):=LR _
  have fj:Fs0[j]?=some (Fs0[j]'(by omega)):=LR _
  obtain ⟨m,ws,em,eG,hm,hwl,hwr⟩:=(q j _ _ _ vj hj fj).leaves;rw [em] at vj;rw [eG] at fj;have hmF:m∈Fs0.flatten:=ik fj (List.mem_singleton.mpr rfl)
  have lnm:l≠m:=fun z=>(List.nodup_cons.mp nd).1 (z▸hmF)
  have pm:((l::Fs0.flatten)++(Fs.set i []).flatten).Perm Fs.flatten:=by simpa using jG (G:=[]) h20
  have subA:∀a∈O++Fs.flatten,a∈(l::Fs0.flatten)++O++(Fs.set i []).flatten:=fun a ha=>by
   rcases LP ha with z | z
   ·exact LO _ (LN _ z)
   ·rcases LP (pm.mem_iff.mpr z) with y | y
    ·exact LO _ (LO _ y)
    ·exact LN _ y
  have subB:∀a∈(l::Fs0.flatten)++O++(Fs.set i []).flatten,a∈O++Fs.flatten:=fun a ha=>by
   rcases LP ha with z | z
   ·rcases LP z with z | z
    ·exact LN _ (pm.mem_iff.mp (LO _ z))
    ·exact LO _ z
   ·exact LN _ (pm.mem_iff.mp (LN _ z))
  refine ⟨l,vs,m,ws,h1,hp,hl,vj,hm,hwl,fun k u d a1 a2=>(hwr k u d a1 a2).mono (nD (Same.refl _) fun a ha=>.inl (subA a ha)),fun ws' es' hw q'=>?_⟩
  have hmO:m∈(l::Fs0.flatten)++O:=LO _ (LW _ hmF)
  have hfr:∀a∈l::Fs0.flatten,He a=none:=fun a ha=>E.fresh a (sub a (LO _ ha))
  have E4:=E1.mutO (o:=.lst ws') hmO hm (hfr m (LW _ hmF))
  have ownL:Own K ((l::Fs0.flatten)++O++(Fs.set i []).flatten) (bb H m (.lst ws')) (.lst (.lst .leaf)) (l::Fs0.flatten) (.ref l) (.list (ds.set j (.list es'))):=by
   refine .lst rfl (by rw [cw lnm];exact hp) (by rw [length_set];exact hl) (by rw [length_set];exact hf) nd fun k v d F e1 e2 e3=>?_
   by_cases hk:k=j
   ·subst hk
    rw [getElem?_set_self hjl] at e2
    cases e2;rw [vj] at e1
    cases e1;rw [fj] at e3
    cases e3;refine Own.mkLeaves dA hw fun n u d a1 a2=>?_
    rw [FZ (LO _ hmO)];exact (q' n u d a1 a2).mono (nD (Same.refl _) fun a ha=>.inl (subB a ha))
   ·rw [getElem?_set_ne (Ne.symm hk)] at e2
    exact (q k v d F e1 e2 e3).mut rfl (LO _ hmO) (fun z=>iQ (List.nodup_cons.mp nd).2 e3 fj hk m z (List.mem_singleton.mpr rfl)) hm
  have fin:=EnvOk.put (i:=i) (p:=⟨.lst (.lst .leaf),.list (ds.set j (.list es'))⟩) (v:=.ref l) E4 ownL rfl hfr (by rw [length_set];exact hi)
  rw [set_set,set_set,rO h1,rO h20] at fin;exact fin
def HK (i:Nat) (q p:PV) (Γ:Ev):cu:=match Γ[i]? with
 | some (some ⟨.lst (.lst .leaf),.list ds⟩)=>(match q.d with
  | .int k=>(match cx ds.length k with
   | some j=>(match ds[j]? with
    | some (.list es)=>if T.coer .leaf p&&decide (es.length<sizeLine) then .nx (Γ.set i (some ⟨.lst (.lst .leaf),.list (ds.set j (.list (es++[p.d])))⟩)) else .no
    | _=>.no)
   | none=>.no)
  | _=>.no)
 | _=>.no
def ql (i:Nat) (q:PV) (Γ:Ev):Bool:=match Γ[i]? with
 | some (some ⟨.lst (.lst .leaf),.list ds⟩)=>(match q.d with
  | .int k=>(match cx ds.length k with
   | some j=>(match ds[j]? with
    | some (.list _)=>true
    | _=>false)
   | none=>false)
  | _=>false)
 | _=>false
theorem xQ {i:Nat} {q:PV} {Γ:Ev} (h:ql i q Γ=true):∃ds k j es,Γ[i]?=some (some ⟨.lst (.lst .leaf),.list ds⟩)/\q.d=.int k/\cx ds.length k=some j/\ds[j]?=some (.list es):=by
 unfold ql at h;split at h
 ·rename_i ds e
  split at h
  ·rename_i k ek
   split at h
   ·rename_i j ej
    split at h
    ·rename_i es ee
     exact ⟨ds,k,j,es,e,ek,ej,ee⟩
    ·cases h
   ·cases h
  ·cases h
 ·cases h
def y6 (i:Nat) (fk fa:F1):FS:=fun Γ=>if DN Γ[i]? then d0 fk (fun q Γ1=>if ql i q Γ1 then d0 fa (HK i q) Γ1 else .no) Γ else .no
theorem tH {i:Nat} (h:tS K W (y6 i fa fb) D σ H):jX (Er K "list" Ij (wK (Kh K) (bI i) (tE K W fa)) (tA K W (ab fb af))) D σ H:=by
 obtain ⟨He,O,Fs,Γ,E,h⟩:=h;unfold y6 at h
 cases ho:DN Γ[i]? with
 | false=>rw [ho] at h;exact h.elim
 | true=>
  rw [ho] at h;obtain ⟨ds0,e0⟩:=mQ ho;obtain ⟨_,v0,F0,s0,_,o0⟩:=E.slot i _ e0;refine ⟨v0,s0,cY (D:=D) ⟨He,O,Fs,Γ,E,h⟩ fun He O Fs Γ1 q u H1 G1 Fs1 _ fr A1 w=>?_⟩
  cases hk:ql i q Γ1 with
  | false=>rw [hk] at w;exact w.elim
  | true=>
   rw [hk] at w;obtain ⟨ds,k,j,es,e1,ek,ej,ee⟩:=xQ hk;obtain ⟨l,vs,m,ws,q1,q2,q3,q4,q5,q6,q7,q8⟩:=A1.env.dropL.chg2 e1 ee;rw [s0] at q1
   cases q1;have hu:=A1.own.rep
   rw [ek] at hu
   cases hu;have hat:cn vs k=some (.ref m):=by unfold cn;rw [q3,ej];exact q4
   refine .inl ⟨l,vs,k,.ref m,rfl,rfl,.of q2,hat,.inl ⟨rfl,ws,.of q5⟩,C6 (cY (D:=D) ⟨He,O,Fs1,Γ1,A1.env.dropL,w⟩ fun He O Fs Γ2 p v H2 G Fs2 _ fr2 A2 w2=>?_)⟩
   unfold HK at w2;split at w2
   ·rename_i ds2 e2
    rw [ek] at w2;dsimp only at w2;split at w2
    ·rename_i j2 ej2
     split at w2
     ·rename_i es2 ee2
      cases hc:(T.coer .leaf p&&decide (es2.length<sizeLine)) with
      | false=>rw [hc] at w2;exact w2.elim
      | true=>
       rw [hc] at w2;simp only [Bool.and_eq_true,decide_eq_true_eq] at hc
       obtain ⟨l2,vs2,m2,ws2,r1,r2,r3,r4,r5,r6,r7,r8⟩:=A2.env.dropL.chg2 e2 ee2;rw [s0] at r1
       cases r1;have x2:H2 l=some (.lst vs):=A2.same _ _ q2
       rw [x2] at r2
       cases r2;have y2:cn vs k=some (.ref m2):=by unfold cn;rw [r3,ej2];exact r4
       rw [hat] at y2
       cases y2;have ov:Own K (O++Fs2.flatten) H2 .leaf [] v p.d:=A2.own.coer (s:=.leaf) hc.1 cU fun a ha z=>absurd z (A2.disj a ha)
       cases ov with
       | leaf rv=>
        have E4:=r8 (ws2++[v]) (es2++[p.d]) (by simp [r6]) fun n x d a1 a2=>by
         by_cases hn:n<ws2.length
         ·rw [getElem?_append_left hn] at a1
          rw [getElem?_append_left (by omega)] at a2
          exact r7 n x d a1 a2
         ·have hn':n=ws2.length:=by
           have:=(LY a1).1
           rw [length_append,length_singleton] at this;omega
          subst hn'
          rw [getElem?_append_right (L3 _),Nat.sub_self] at a1;rw [getElem?_append_right (by omega),show ws2.length-es2.length=0 by omega] at a2
          cases a1
          cases a2;exact rv
        exact ⟨m,ws2,v,rfl,rfl,r5,by rw [r6];exact hc.2,w2 σ _ _ E4⟩
     ·exact w2.elim
    ·exact w2.elim
   ·exact w2.elim
end
theorem HX:∀{ns:List Int} {us:List Value},Vals (ns.map V.int) us->IntsAre us ns
 | [],_,.nil=>.nil
 | n::ns,_,.cons r t=>by
  obtain ⟨tk,rfl⟩:=(show ∃t,_=Value.int n t from r)
  exact .cons _ _ (HX t)
theorem nL:∀{ns:List Int} {us:List Value},IntsAre us ns->Vals (ns.map V.int) us
 | _,_,.nil=>.nil
 | _,_,.cons _ _ t=>.cons ⟨_,rfl⟩ (nL t)
theorem nK:∀{xs:List V} {us:List Value},xs.length=us.length->(∀(i:Nat) x u,xs[i]?=some x->us[i]?=some u->RelV x u)->Vals xs us
 | [],[],_,_=>.nil
 | x::xs,u::us,hl,h=>.cons (h 0 x u rfl rfl) (nK (by simpa using hl) fun i x u a b=>h (i+1) x u (by simpa using a) (by simpa using b))
 | [],_::_,hl,_=>by simp at hl
 | _::_,[],hl,_=>by simp at hl
def K3 (ta:TA):TE:=fun σ H Q=>ta σ H fun vs H1=>∃j:Int,vs=[.int j]/\-(2 ^ 62)<=j/\j<=sizeLine/\∀l,H1 l=none->Q (.ref l) (bb H1 l (.lst (cV 0 j.toNat)))
theorem jg {X:Cx} {a:Expr} {ta:TA} {p p2 pos pos2:Pos} (hg:Gl X "list") (hm:X.mg "list"=none) (hg2:Gl X "range") (hm2:X.mg "range"=none) (hc:X.calm=true) (ha:PA X [a] ta) (hs:starEach [a] X.env=[(false,eval a X.env)])
  (hs1:starEach [.Call (.Name "range" p2) [a] [] pos2] X.env=[(false,eval (.Call (.Name "range" p2) [a] [] pos2) X.env)]):PE X (.Call (.Name "list" p) [.Call (.Name "range" p2) [a] [] pos2] [] pos) (K3 ta):=by
 intro pins s σ H Q I h;refine Call_ (vI I hg hm vw (PyProof.Rows.callWith_type1 ?_ hs1 rfl))
 rw [hs1];show wpAny _ _ (spliced ((false,eval (.Call (.Name "range" p2) [a] [] pos2) X.env)::[])) _ _ s
 refine Calls.spliced_cons (Call_ (vI I hg2 hm2 boot_range (PyProof.Rows.callWith_type1 (bc (ha pos2 pins s σ H _ I h) fun us s1 ⟨vs,H1,I1,r1,q1⟩=>?_) hs rfl)))
 obtain ⟨j,e,q1,q2,q⟩:=q1;subst e;obtain ⟨u,rfl,ru⟩:=r1.one;obtain ⟨t,rfl⟩:=(show ∃t,u=Value.int j t from ru)
 refine call_range_1 (Calls.spliced_nil ?_)
 have hz:(sizeLine:Int)<2 ^ 62:=by decide
 refine call_list_range (n:=j.toNat) (I.ok.hd hc) (IsRange.new ..) (small_one (by omega) (by omega) q1 (by omega)) (by rw [rangeSize_one];split<;>omega) (by have:(sizeLine:Nat)=2 ^ 24:=rfl;omega) fun h' tk acc' c' hk ho hacc=>?_
 have I2:Inv X pins σ H1 { s1 with heap:=s1.heap.push { cls:=.type "range",data:=.fields #[.int 0 s1.toks,.int j t,.int 1 (s1.toks+1)] },toks:=s1.toks+1+1 }:=I1.kept fun b o e=>L1 _ e
 have hv:Vals (cV 0 j.toNat) acc'.toList:=by
  refine nK (by have:=hacc.1;simp only [Array.length_toList,cV,length_map,length_range];omega) fun i x u e1 e2=>?_
  obtain ⟨t2,rfl⟩:=hacc.2 i u (by rw [<-Array.getElem?_toList];exact e2)
  unfold cV at e1;rw [getElem?_map] at e1
  cases e3:(List.range j.toNat)[i]? with
  | none=>rw [e3] at e1;cases e1
  | some k=>
   rw [e3] at e1;obtain ⟨k1,k2⟩:=LY e3
   simp at k2
   subst k2
   cases e1;exact ⟨t2,by simp⟩
 refine ⟨.ref _,bb H1 _ (.lst (cV 0 j.toNat)),I2.laid (t':=tk) (fun b o e=>hk b o e) (L3 _) ⟨?_,acc'.toList,c',hv,by simpa using ho⟩,rfl,q _ (I2.hok.fresh (L3 _))⟩
 simp only [cV,length_map,length_range]
 omega
section
variable {K:Fg} {W:XW} {σ:St} {H:Hp} {Q:VK} {fa:F1} {fl:FL}
theorem AftL.newSc {He:Hp} {O:List Addr} {Fs Gs Fs1:List (List Addr)} {Γ1:Ev} {ps:List PV} {us:List V} {H1:Hp} {l:Addr} {vs:List V} {ds:List L4} (A:AftL K He O Fs H σ Γ1 ps us H1 Gs Fs1) (nd:O.Nodup) (hl:H1 l=none) (hv:vs.length=ds.length) (hs:∀(i:Nat) v d,vs[i]?=some v->ds[i]?=some d->Sc v d) :
  Aft K He O Fs H σ Γ1 ⟨.lst .leaf,.list ds⟩ (.ref l) (bb H1 l (.lst vs)) [l] Fs1:=by
 refine ⟨A.same.trans (fD hl),A.env.dropL.hide (fD hl) (by simp) (by simpa using hl) (fun a ha=>by rw [List.mem_singleton.mp ha,dA];exact Option.some_ne_none _),fun a ha=>?_,?_⟩
 ·rcases LP ha with z | z
  ·rw [List.mem_singleton.mp z];exact .inr (A.same.free hl)
  ·exact A.new a (LN _ z)
 ·exact Own.mkLeaves dA hv fun j u d e1 e2=>(hs j u d e1 e2).rep
def CM (fl:FL):F1:=fun Γ=>(fl Γ).bind fun ps Γ'=>match gP (ps.map (·.d)) with
 | some j=>if j<=sizeLine then .ok ⟨.lst .leaf,.list (bA 0 j.toNat)⟩ Γ' else .no
 | none=>.no
theorem EC (h:tE K W (CM fl) σ H Q):K3 (tA K W fl) σ H Q:=by
 obtain ⟨He,O,Fs,Γ,E,h⟩:=h;refine ⟨He,O,Fs,Γ,E,?_⟩
 unfold CM at h
 cases e:fl Γ with
 | er c Γ'=>rw [e] at h;exact h
 | no=>rw [e] at h;exact h
 | ok ps Γ1=>
  rw [e] at h;intro vs H1 Gs Fs1 A;have h:Wants K W He O Fs H σ Q (match gP (ps.map (·.d)) with | some j=>if j<=sizeLine then .ok ⟨.lst .leaf,.list (bA 0 j.toNat)⟩ Γ1 else .no | none=>.no):=h
  cases er:gP (ps.map (·.d)) with
  | none=>rw [er] at h;exact h.elim
  | some j=>
   rw [er] at h;obtain ⟨e1,e2,e3⟩:=nZ er;have r:=A.reps
   rw [e1] at r;have h:Wants K W He O Fs H σ Q (if j<=sizeLine then .ok ⟨.lst .leaf,.list (bA 0 j.toNat)⟩ Γ1 else .no):=h
   by_cases hj:j<=sizeLine
   ·rw [if_pos hj] at h
    have hv:vs=[.int j]:=by
     have hl:=r.1
     match vs,hl with
     | [v],_=>
      have q:=r.2 0 v (.int j) rfl rfl
      cases q;rfl
    refine ⟨j,hv,e2,hj,fun l hl=>h _ _ _ _ (A.newSc E.ndO hl (by simp [cV,bA]) fun i v d a1 a2=>?_)⟩
    have q:=IM (K:=K) (H:=H1) (lo:=0) (n:=j.toNat)
    refine (q.2 i v d a1 a2).sc ?_
    unfold bA at a2;rw [getElem?_map] at a2
    cases e3:(List.range j.toNat)[i]? with
    | none=>rw [e3] at a2;cases a2
    | some k=>rw [e3] at a2;cases a2;rfl
   ·rw [if_neg hj] at h;exact h.elim
def intsOf:List L4->Option (List Int)
 | []=>some []
 | .int i::r=>(intsOf r).map (i :: ·)
 | _=>none
theorem Jc:∀{ds:List L4} {ns:List Int},intsOf ds=some ns->ds=ns.map .int
 | [],ns,h=>by cases h;rfl
 | .int i::r,ns,h=>by
  unfold intsOf at h
  cases e:intsOf r with
  | none=>rw [e] at h;cases h
  | some ms=>rw [e] at h;cases h;rw [Jc e];rfl
 | .none::_,_,h=>by cases h
 | .bool _::_,_,h=>by cases h
 | .str _::_,_,h=>by cases h
 | .list _::_,_,h=>by cases h
 | .tuple _::_,_,h=>by cases h
 | .dict _::_,_,h=>by cases h
def sortArg:List L4->Option (List Int)
 | [.list ds]=>intsOf ds
 | _=>none
theorem mf {ds:List L4} {ns:List Int} (h:sortArg ds=some ns):ds=[.list (ns.map .int)]:=by
 unfold sortArg at h;split at h
 ·rw [Jc h]
 ·cases h
end
section
variable {X:Cx} {N gl:List Str} {vs cs ls lo gs:List Nat} {W:XW} {a b c e:Expr} {es:List Expr} {pos p:Pos} {fa fb fc:F1} {fl:FL} {g:FS} {ga:FB}
theorem cs_appAt (S:Cp X N gl vs cs ls lo gs) (i:Nat) {x:Str} {spos apos cpos:Pos} (hi:N[i]?=some x) (hv:vs.contains i=true) (hk:PE X b (tE X.K W fb)) (ha:PE X a (tE X.K W fa)) (hx:Df b) (hs:starEach [a] X.env=[(false,eval a X.env)])
  (hbase:attributeBase (.Subscript (.Name x p) b spos) "append" X.env (eval (.Subscript (.Name x p) b spos) X.env)=eval (.Subscript (.Name x p) b spos) X.env) (hline:(apos.endLine==cpos.line)=true)
  (hfew:((backTo cpos (starEach [a] X.env)).all (fun x=>!x.1)&&(backToKw cpos (keywordEach [] X.env)).all (fun x=>x.1.isSome)
   && decide ([a].length+([]:List Keyword).length+(if ([]:List Keyword).isEmpty then 0 else 1)<30))=true)
  (hsw:swapsWith (.Call (.Attribute (.Subscript (.Name x p) b spos) "append" apos) [a] [] cpos) none pos.line X.env=pure false) :
  PS X (.Expr (.Call (.Attribute (.Subscript (.Name x p) b spos) "append" apos) [a] [] cpos) pos) (tS X.K W (y6 i fb fa)):=by
 have m:=S.nm x (mem_of_getElem? hi)
 exact bN (Ga (oC PySem.F.plainAttrs_list PySem.F.slot_list_append PySem.F.type_list_append Jm (zD uL (y4 (by rw [S.hN];exact hi) (S.vis i x hi hv) m.1 m.2) hk hx) (da_cons ha da_nil hs) hbase hfew hline hs rfl) hsw) fun _ _ _=>tH
end
theorem Inv.turnedL {X:Cx} {pins:List (Addr×Obj)} {σ:St} {H:Hp} {s:Shared} {h':Heap} {t':Nat} {fp:List Addr} (I:L2.Inv X pins σ H s) (k:∀b o,b∉fp->s.heap.get? b=some o->h'.get? b=some o) (hf:∀b∈fp,ig X pins H b):L2.Inv X pins σ H { s with heap:=h',toks:=t' }:=by
 have nit:∀b u,H b=some u->b∉fp:=fun b u e z=>by have:=(hf b z).1;rw [e] at this;cases this
 have hL:X.env.locals∉fp:=fun z=>(hf _ z).2.1 rfl
 refine I.step (g':=s.gens) (d':=s.drawn) (ch:=fp) (fun b hb=>?_) (fun b o _ _ hc e _=>k b o hc e) (fun b o _ _ hc e _=>⟨o.slots,k b o hc e⟩) (fun _ _ _ _ n=>n)
  (fun b o hc e=>⟨o,k b o hc e⟩) (fun _ _ e=>e) (fun _ _ _ e=>e) (fun b ps e=>⟨#[],by rw [e];simp⟩) (fun m hm=>?_) (fun b u e=>?_) I.bare
 ·obtain ⟨f0,f1,f2,f3,f4,f5⟩:=hf b hb
  exact ⟨f3,f1,f4,f5⟩
 ·obtain ⟨o,es,ep,ho,r⟩:=hm
  exact ⟨o,es,ep,k _ o hL ho,r⟩
 ·refine (I.hok b u e).stay (fun c v hc q=>k c v ?_ q) (fun _ q=>q) fun _ _ q=>q
  rcases hc with z | z
  ·rw [z];exact nit b u e
  ·exact nit c _ z
theorem Inv.turnedT {X:Cx} {pins:List (Addr×Obj)} {σ:St} {H:Hp} {s:Shared} {h':Heap} {t':Nat} {fp:List Addr} {T:Addr} {xs:List V} (I:L2.Inv X pins σ H s) (k:∀b o,b∉fp->s.heap.get? b=some o->h'.get? b=some o) (hf:∀b∈fp,ig X pins H b) (hT:s.heap.objs.size<=T)
  (new:ObjOk X.prog X.w (bb H T (.tup xs)) h' T (.tup xs)):L2.Inv X pins σ (bb H T (.tup xs)) { s with heap:=h',toks:=t' }:=by
 have hTn:H T=none:=I.hok.fresh hT
 have nit:∀b u,H b=some u->b∉fp:=fun b u e z=>by have:=(hf b z).1;rw [e] at this;cases this
 have up:∀b u,H b=some u->bb H T (.tup xs) b=some u:=fun b u e=>by rw [cw (vO e hTn)];exact e
 have hL:X.env.locals∉fp:=fun z=>(hf _ z).2.1 rfl
 refine I.step (g':=s.gens) (d':=s.drawn) (ch:=fp) (fun b hb=>?_) (fun b o _ _ hc e _=>k b o hc e) (fun b o _ _ hc e _=>⟨o.slots,k b o hc e⟩) (fun b o _ e n=>by rw [cw (Nat.ne_of_lt (Nat.lt_of_lt_of_le (Heap.lt_size e) hT))];exact n)
  (fun b o hc e=>⟨o,k b o hc e⟩) (fun b _ e=>up b _ e) (fun b _ _ e=>up b _ e) (fun b ps e=>⟨#[],by rw [up b _ e];simp⟩) (fun m hm=>?_) (fun b u e=>?_) I.bare
 ·obtain ⟨f0,f1,f2,f3,f4,f5⟩:=hf b hb
  exact ⟨f3,f1,f4,f5⟩
 ·obtain ⟨o,es,ep,ho,r⟩:=hm
  exact ⟨o,es,ep,k _ o hL ho,r⟩
 ·by_cases hb:b=T
  ·subst hb
   rw [dA] at e
   cases e;exact new
  ·rw [cw hb] at e
   refine (I.hok b u e).stay (fun c v hc q=>k c v ?_ q) (fun c q=>up c _ q) fun c _ q=>up c _ q
   rcases hc with z | z
   ·rw [z];exact nit b u e
   ·exact nit c _ z
def KM (K:Fg) (a:Addr):It:=
 ⟨fun i H=>∃xs x,SqL K H a xs/\xs[i]?=some x,fun i H x H'=>∃T v,x=.ref T/\H T=none/\H'=bb H T (.tup [.int i,v])/\∀xs,SqL K H a xs->xs[i]?=some v,fun i H=>∃xs,SqL K H a xs/\xs.length<=i⟩
theorem pM {P:Program} {w:World} {K:Fg} {elts:List Expr} {k:Nat} {pos:Pos} (a e it:Addr) (hei:e≠it) (hae:a≠e) (hai:a≠it) :
  rq P w K (.Tuple elts k pos) (KM K a) [e,it] e (fun i h=>(∃old,IsEnum h e it i old)/\h.IsListIter it a i) where
 mem:=by simp
 obj:=fun i h st b hb=>by
  obtain ⟨⟨old,he⟩,o,e1,c,d⟩:=st;simp only [mem_cons,not_mem_nil,or_false] at hb
  rcases hb with rfl | rfl
  ·exact ⟨_,he,fun v z=>by
    have z':Data.fields _=Data.cell v:=z
    cases z'⟩
  ·exact ⟨o,e1,fun v z=>by rw [d] at z;cases z⟩
 keep:=fun i h h' st kk=>by
  obtain ⟨⟨old,he⟩,hit⟩:=st;exact ⟨⟨old,kk e (by simp) _ he⟩,hit.at fun o q=>kk it (by simp) o q⟩
 item:=by
  intro X hP hw hK hc i pins s σ H E I hf st hg;subst hP hw hK;obtain ⟨xs,x,hq,hx⟩:=hg;obtain ⟨its,rv,p,hz⟩:=I.list hq;obtain ⟨u,hu,ru⟩:=rv.get hx;have W:=WalksT.enumerate (prog:=X.prog) (w:=X.w) (A:=X.A) (I.ok.hd hc) e it a hei hae hai its.toArray
  have hil:i<its.toArray.size:=by
   have:=(LY hu).1
   simpa using this
  refine W.item i s _ _ hil ⟨st.1,st.2,p.isList⟩ fun T vals h' tk hv hT hTT hMid kk=>?_
  obtain ⟨t,y,hy,rfl⟩:=hv;have ey:y=u:=by
   rw [getElem?_toArray,hu] at hy;exact (Option.some.inj hy).symm
  subst ey;refine ⟨.ref T,rfl,W.go elts k pos i T _ _ _ hMid fun h2 st2 kk2=>?_⟩
  have hTn:H T=none:=I.hok.fresh hT
  have hTw:T∉[e,it]:=W.apart i T _ hMid
  have kAll:∀b o,b∉[e,it]->s.heap.get? b=some o->h2.get? b=some o:=fun b o hb q=>kk2 b o hb (kk b o hb q)
  have I1:L2.Inv X pins σ H { s with heap:=h2,toks:=tk }:=Inv.turnedL I kAll hf
  have tT:h2.IsTuple T #[.int i t,y]:=by
   obtain ⟨o,q1,q2⟩:=hTT;exact ⟨o,kk2 T o hTw q1,q2⟩
  have hvs:Vals [.int (i:Int),x] [.int i t,y]:=.cons (show RelV (.int (i:Int)) (.int i t) from ⟨t,rfl⟩) (.cons ru .nil)
  have I3:L2.Inv X pins σ (bb H T (.tup [.int i,x])) { s with heap:=h2,toks:=tk }:=Inv.turnedT (t':=tk) I kAll hf hT ⟨by show 2<=sizeLine;decide,[.int i t,y],hvs,(show IsTup h2 T _ from tT)⟩
  refine ⟨.ref T,bb H T (.tup [.int i,x]),I3,rfl,⟨T,x,rfl,hTn,rfl,fun ys hy=>by rw [I.list_inj hy hq];exact hx⟩,⟨st2.1,st2.2.1⟩,fun b hb=>?_⟩
  have hbT:b≠T:=fun z=>by rw [z] at hb;exact hTw hb
  rw [cw hbT];exact (hf b hb).1
 done:=by
  intro X hP hw hK hc i pins s σ H E I hf st hg;subst hP hw hK;obtain ⟨xs,hq,hx⟩:=hg;obtain ⟨its,rv,p,hz⟩:=I.list hq;have hl:=rv.length
  obtain ⟨⟨old,he⟩,hit⟩:=st;refine wpAny_pyNext_enum_end (I.ok.hd hc) he hit p.isList (Array.getElem?_eq_none (by simp;omega)) fun h' hk=>⟨rfl,Inv.turnedL (t':=s.toks) I (fun b o hb q=>hk b o (fun z=>hb (by simp [z])) q) hf⟩
 self:=fun _ _ _ _ _ st h=>by
  obtain ⟨⟨old,he⟩,hit⟩:=st;exact wpAny_pyIter_enum he h
def uT (K:Fg) (ta:TA):TI:=fun σ H R=>ta σ H fun vs H1=>∃a,vs=[.ref a]/\(∃xs,SqL K H1 a xs)/\R (KM K a) H1
theorem oA {X:Cx} {elts:List Expr} {kt:Nat} {ptg:Pos} {l:Expr} {ta:TA} {p pos:Pos} (hg:Gl X "enumerate") (hm:X.mg "enumerate"=none) (ha:PA X [l] ta) (hs:starEach [l] X.env=[(false,eval l X.env)]) :
  PI X (.Tuple elts kt ptg) (.Call (.Name "enumerate" p) [l] [] pos) (uT X.K ta):=by
 intro pins s σ H R I h;refine Call_ (vI I hg hm boot_enumerate (PyProof.Rows.callWith_type1 (bc (ha pos pins s σ H _ I h) fun us s1 ⟨vs,H1,I1,r1,q1⟩=>?_) hs rfl))
 obtain ⟨a,e,⟨xs,hq⟩,q⟩:=q1;subst e;obtain ⟨u,rfl,ru⟩:=r1.one
 cases ru;obtain ⟨its,rv,pl,hz⟩:=I1.list hq;refine call_enumerate_list pl.isList fun h' he hit hsz hk=>?_
 have ha1:a<s1.heap.objs.size:=by
  obtain ⟨o,q1,_⟩:=pl.isList;exact Heap.lt_size q1
 refine wpAny_pyIter_enum (s:={ s1 with heap:=h' }) he ?_
 have I2:L2.Inv X pins σ H1 { s1 with heap:=h' }:=I1.kept (t':=s1.toks) hk
 refine ⟨s1.heap.objs.size+1,[s1.heap.objs.size+1,s1.heap.objs.size],_,KM X.K a,H1,rfl,I2,pM a _ _ (Nat.succ_ne_self _) (Nat.ne_of_lt (Nat.lt_succ_of_lt ha1)) (Nat.ne_of_lt ha1),⟨⟨_,he⟩,hit⟩,fun b hb=>?_,q⟩
 simp only [mem_cons,not_mem_nil,or_false] at hb
 have hb2:s1.heap.objs.size<=b:=by
  rcases hb with z | z
  ·rw [z];exact Nat.le_succ _
  ·rw [z];exact L3 _
 have f:=I1.fpOk hb2 (I1.hok.fresh hb2)
 exact f
def rz (i j:Nat) (body:FS):Nat->List L4->Ev->cu
 | _,[],Γ=>.nx Γ
 | k,d::r,Γ=>if i<Γ.length/\j<Γ.length then (match body ((Γ.set i (L5 (.int (k:Nat)))).set j (L5 d)) with
  | .nx Γ'=>rz i j body (k+1) r Γ'
  | .ct Γ'=>rz i j body (k+1) r Γ'
  | .bk Γ'=>.nx Γ'
  | .rt p=>.rt p
  | .er c Γ'=>.er c Γ'
  | .no=>.no) else .no
def iD (i j:Nat) (fa:F1) (body:FS):FS:=fun Γ=>match aN fa Γ with
 | .ok t Γ1=>if t.st then rz i j body 0 t.ds Γ1 else .no
 | .er c Γ1=>.er c Γ1
 | .no=>.no
section
variable {K:Fg} {W:XW} {σ:St} {H:Hp} {D:cQ} {fa:F1}
theorem xq {i j:Nat} {body:FS} (h:tS K W (iD i j fa body) D σ H):wL (uT K (tA K W (ab fa af))) (yo K 2 (iO (bJ i) (iO (bJ j) yq))) (tS K W body) D σ H:=by
 obtain ⟨He,O,Fs,Γ,E,h⟩:=h;refine C6 ⟨He,O,Fs,Γ,E,?_⟩
 unfold iD aN at h
 cases e:fa Γ with
 | er c Γ1=>rw [e] at h;exact fun H' Fs' s E'=>h σ H' Fs' E'
 | no=>rw [e] at h;exact h
 | ok p Γ1=>
  rw [e] at h;intro v H1 G Fs1 A;obtain ⟨s,d⟩:=p
  cases d with
  | list ds=>
   have h:gF K W He O D (match (if bH ⟨s,.list ds⟩ ds then Out.ok (⟨ds,!s.isView⟩:HF) Γ1 else .no) with | .ok t Γ1=>if t.st then rz i j body 0 t.ds Γ1 else .no | .er c Γ1=>.er c Γ1 | .no=>.no):=h
   cases hc:bH ⟨s,.list ds⟩ ds with
   | false=>rw [hc] at h;exact h.elim
   | true=>
    rw [hc] at h;have h:gF K W He O D (if (!s.isView) then rz i j body 0 ds Γ1 else .no):=h
    cases ht:(!s.isView) with
    | false=>rw [ht] at h;exact h.elim
    | true=>
     rw [ht] at h;have h:gF K W He O D (rz i j body 0 ds Γ1):=h
     obtain ⟨p,vs,rfl,hq,hst,hr⟩:=A.own.items (O':=O++Fs1.flatten) hc cU A.disj
     have E1:=A.go
     obtain ⟨E1',sHe⟩:=E1.rebase;have hlen:vs.length=ds.length:=hr.1
     have hP:∀H2,Same (bt H1 Fs1.flatten) H2->SqL K H2 p vs:=fun H2 s2=>s2.seq (sub_hid.seq (hst (by simpa using ht)))
     refine ⟨p,rfl,⟨vs,hq⟩,fun k m σ' H'=>m=vs.length-k/\k<=vs.length/\∃Γk Fk,EnvOk K (bt H1 Fs1.flatten) O Fk H' σ' Γk/\gF K W He O D (rz i j body k (ds.drop k) Γk),⟨vs.length,by simp,Nat.zero_le _,Γ1,Fs1,E1',by simpa using h⟩,?_⟩
     rintro k m σ' H' ⟨rfl,hk,Γk,Fk,Ek,hw⟩
     have hPk:SqL K H' p vs:=hP H' Ek.same
     by_cases hlt:k<vs.length
     case neg=>
      left
      have:ds.drop k=[]:=drop_eq_nil_of_le (by omega)
      rw [this] at hw;exact ⟨⟨vs,hPk,by omega⟩,hw σ' H' Fk (Ek.unbase sHe)⟩
     case pos=>
      right
      have hv:vs[k]?=some vs[k]:=LR hlt
      have hkd:k<ds.length:=by omega
      have hd:ds[k]?=some ds[k]:=LR hkd
      have hdr:ds.drop k=ds[k]::ds.drop (k+1):=drop_eq_getElem_cons hkd
      rw [hdr] at hw;generalize hdk:ds[k]=d at hd hw
      generalize hvk:vs[k]=v at hv
      simp only [rz] at hw
      by_cases hi:i<Γk.length/\j<Γk.length
      case neg=>rw [if_neg hi] at hw;exact hw.elim
      rw [if_pos hi] at hw;refine ⟨⟨vs,v,hPk,hv⟩,fun σ2 H2=>∃Γk Fk,EnvOk K (bt H1 Fs1.flatten) O Fk H2 σ2 Γk/\gF K W He O D (rz i j body (k+1) (ds.drop (k+1)) Γk),fun σ2 H2 q=>⟨vs.length-(k+1),by omega,rfl,hlt,q⟩,?_⟩
      rintro x Hx ⟨T,v',rfl,hTn,rfl,hv'⟩
      have ev:v'=v:=Option.some.inj ((hv' vs hPk).symm.trans hv)
      subst ev;refine ⟨T,[.int k,v'],rfl,.of dA,rfl,.int k,[v'],rfl,v',[],rfl,rfl,?_⟩
      have Eg:=Ek.grow (fD (o:=.tup [.int k,v']) hTn)
      have rep:Rep K (bt (bb H' T (.tup [.int k,v'])) (O++Fk.flatten)) v' d:=by
       refine (hr.2 k v' d hv hd).mono fun b o hb=>?_
       have hb1:bt H1 Fs1.flatten b=some o:=sub_hid b o hb
       have hbO:b∉O:=fun z=>by
        unfold bt at hb;rw [if_pos (LO _ z)] at hb
        cases hb
       have hbF:b∉Fk.flatten:=fun z=>by
        have:=Ek.fresh b z
        rw [hb1] at this
        cases this
       exact Dh (Eg.same b o hb1) fun z=>(LP z).elim hbO hbF
      have Ep:=EnvOk.put (G:=[]) (i:=i) (p:=⟨.leaf,.int (k:Nat)⟩) (v:=.int k) Eg (.leaf (.int _)) rfl (fun a ha=>by simp at ha) hi.1
      have fk:∀a∈O++(Fk.set i []).flatten,a∈O++Fk.flatten:=fun a ha=>by
       rcases LP ha with z | z
       ·exact LO _ z
       ·obtain ⟨F,hF⟩:=Eg.lt hi.1
        have:=(jG (G:=[]) hF).mem_iff.mp (LN _ z)
        exact LN _ (by simpa using this)
      have Eq:=EnvOk.put (G:=[]) (i:=j) (p:=⟨.leaf,d⟩) (v:=v') Ep (.leaf (rep.mono (nD (Same.refl _) fun a ha=>.inl (fk a ha)))) rfl (fun a ha=>by simp at ha) (by rw [length_set];exact hi.2)
      refine ⟨bt H1 Fs1.flatten,O,_,_,Eq,?_⟩
      cases eb:body ((Γk.set i (L5 (.int (k:Nat)))).set j (L5 d)) with
      | nx Γ'=>rw [eb] at hw;exact fun σ2 H2 F2 E2=>⟨Γ',F2,E2,hw⟩
      | ct Γ'=>rw [eb] at hw;exact fun σ2 H2 F2 E2=>⟨Γ',F2,E2,hw⟩
      | bk Γ'=>rw [eb] at hw;exact fun σ2 H2 F2 E2=>hw σ2 H2 F2 (E2.unbase sHe)
      | rt p=>rw [eb] at hw;exact fun u H2 G r=>hw u H2 G (r.unbase sHe)
      | er c Γ'=>rw [eb] at hw;exact fun σ2 H2 F2 E2=>hw σ2 H2 F2 (E2.unbase sHe)
      | no=>rw [eb] at hw;exact hw
  | _=>exact h.elim
end
def rJ (i j:Nat) (fc:FB) (fe:F1) (s:Sh):Nat->List L4->Ev->List L4->Out (List L4)
 | _,[],Γ,acc=>.ok acc Γ
 | k,d::r,Γ,acc=>match fc ((Γ.set i (L5 (.int (k:Nat)))).set j (L5 d)) with
  | .ok true Γ1=>(match fe Γ1 with
   | .ok p Γ2=>if T.coer s p&&decide (acc.length<sizeLine) then rJ i j fc fe s (k+1) r ((Γ2.set i none).set j none) (acc++[p.d]) else .no
   | _=>.no)
  | .ok false Γ1=>if acc.length<sizeLine then rJ i j fc fe s (k+1) r ((Γ1.set i none).set j none) acc else .no
  | _=>.no
def vM:Option (Option PV)->Bool
 | some none=>true
 | _=>false
def zW (s:Sh) (i j:Nat) (fa:F1) (fc:FB) (fe:F1):F1:=fun Γ=>(aN fa Γ).bind fun t Γ1=>if vM Γ1[i]?&&vM Γ1[j]?&&!s.isView then (match rJ i j fc fe s 0 t.ds Γ1 [] with
 | .ok ds Γ2=>.ok ⟨.lst s,.list ds⟩ Γ2
 | _=>.no) else .no
theorem gf {o:Option (Option PV)} (h:vM o=true):o=some none:=by
 unfold vM at h;split at h
 ·rfl
 ·cases h
section
variable {K:Fg} {He H H1 H2:Hp} {O G:List Addr} {Fs Fs1 Fs2:List (List Addr)} {σ:St} {Γ Γ1 Γ2:Ev}
theorem sP {Γ:Ev} {i j m:Nat} {p:PV} (h:((Γ.set i none).set j none)[m]?=some (some p)):m≠i/\m≠j/\Γ[m]?=some (some p):=by
 obtain ⟨h1,h2⟩:=GP h;obtain ⟨h3,h4⟩:=GP h2;exact ⟨h3,h1,h4⟩
theorem EnvOk.forget2 {i j:Nat} {x y:Option V} (E:EnvOk K He O Fs H (((aX [i,j] σ).set i x).set j y) Γ):EnvOk K He O Fs H (aX [i,j] σ) ((Γ.set i none).set j none):=by
 refine ⟨by have:=E.len1;simpa using this,by have:=E.len2;simpa using this,E.same,E.nd,E.inH,E.fresh,fun m q hq=>?_⟩
 obtain ⟨h1,h2,h3⟩:=sP hq;obtain ⟨w1,v',F',e1,e2,e3⟩:=E.slot m q h3;rw [getElem?_set_ne (Ne.symm h2),getElem?_set_ne (Ne.symm h1)] at e1;exact ⟨w1,v',F',e1,e2,e3⟩
theorem EnvOk.blank2 {i j:Nat} (E:EnvOk K He O Fs H σ Γ) (hi:Γ[i]?=some none) (hj:Γ[j]?=some none):EnvOk K He O Fs H (aX [i,j] σ) Γ:=by
 refine ⟨by rw [zi];exact E.len1,E.len2,E.same,E.nd,E.inH,E.fresh,fun m q hq=>?_⟩
 obtain ⟨w1,v',F',e1,e2,e3⟩:=E.slot m q hq;refine ⟨w1,v',F',?_,e2,e3⟩
 rw [IB (fun z=>?_)]
 ·exact e1
 ·simp only [mem_cons,not_mem_nil,or_false] at z
  rcases z with z | z
  ·rw [z,hi] at hq;cases hq
  ·rw [z,hj] at hq;cases hq
theorem EnvOk.unblank2 {i j:Nat} (E:EnvOk K He O Fs H (aX [i,j] σ) Γ):EnvOk K He O Fs H σ Γ:=by
 refine ⟨by have:=E.len1;rw [zi] at this;exact this,E.len2,E.same,E.nd,E.inH,E.fresh,fun m q hq=>?_⟩
 obtain ⟨w1,v',F',e1,e2,e3⟩:=E.slot m q hq;exact ⟨w1,v',F',(GD e1).2,e2,e3⟩
theorem kQ {i:Nat} {a:Addr} (hi:i<Fs.length) (h:a∈(Fs.set i []).flatten):a∈Fs.flatten:=by
 have hF:Fs[i]?=some (Fs[i]'hi):=LR _
 have:=(jG (G:=[]) hF).mem_iff.mp (LN _ h)
 simpa using this
structure FN (K:Fg) (He:Hp) (O:List Addr) (Fs1:List (List Addr)) (H1:Hp) (σ:St) (i j:Nat) (s:Sh) (A0:Addr) (n:Nat) (ys:List V) (H:Hp) (Γk:Ev) (Fk Gs:List (List Addr)) (acc:List L4):Prop where
 env:EnvOk K He (A0::Gs.flatten++O) Fk H (aX [i,j] σ) Γk
 same:Same H1 H
 at_:H A0=some (.lst ys)
 new:∀a∈Gs.flatten++Fk.flatten,a∈Fs1.flatten\/H1 a=none
 l1:ys.length=acc.length
 l2:Gs.length=acc.length
 own:∀(m:Nat) v d G,ys[m]?=some v->acc[m]?=some d->Gs[m]?=some G->Own K (A0::Gs.flatten++O++Fk.flatten) H s G v d
 len:Γk.length=n
end
section
variable {K:Fg} {W:XW} {σ:St} {H:Hp} {Q:VK} {fa fe:F1} {fc:FB} {s:Sh} {i j:Nat}
theorem tw (hij:i≠j) (h:tE K W (zW s i j fa fc fe) σ H Q):ez [i,j] (uT K (tA K W (ab fa af))) (yo K 2 (iO (bJ i) (iO (bJ j) yq))) (tT K W0 fc) (tE K W0 fe) σ H Q:=by
 obtain ⟨He,O,Fs,Γ,E,h⟩:=h;refine C6 ⟨He,O,Fs,Γ,E,?_⟩
 unfold zW aN at h
 cases e:fa Γ with
 | er c Γ1=>rw [e] at h;exact h
 | no=>rw [e] at h;exact h
 | ok p Γ1=>
  rw [e] at h;intro v H1 G Fs1 A;obtain ⟨sp,d⟩:=p
  cases d with
  | list ds=>
   have h:Wants K W He O Fs H σ Q ((if bH ⟨sp,.list ds⟩ ds then Out.ok (⟨ds,!sp.isView⟩:HF) Γ1 else .no).bind fun t Γ1=>if vM Γ1[i]?&&vM Γ1[j]?&&!s.isView then (match rJ i j fc fe s 0 t.ds Γ1 [] with | .ok ds Γ2=>.ok ⟨.lst s,.list ds⟩ Γ2 | _=>.no) else .no):=h
   cases hc:bH ⟨sp,.list ds⟩ ds with
   | false=>rw [hc] at h;exact h.elim
   | true=>
    rw [hc] at h;have h:Wants K W He O Fs H σ Q (if vM Γ1[i]?&&vM Γ1[j]?&&!s.isView then (match rJ i j fc fe s 0 ds Γ1 [] with | .ok ds Γ2=>.ok ⟨.lst s,.list ds⟩ Γ2 | _=>.no) else .no):=h
    by_cases hn:(vM Γ1[i]?&&vM Γ1[j]?&&!s.isView)=true
    case neg=>rw [if_neg hn] at h;exact h.elim
    rw [if_pos hn] at h;simp only [Bool.and_eq_true,Bool.not_eq_true'] at hn
    obtain ⟨⟨hni,hnj⟩,hsv⟩:=hn;have hni:=gf hni
    have hnj:=gf hnj
    cases eg:rJ i j fc fe s 0 ds Γ1 [] with
    | er c Γ'=>rw [eg] at h;exact h.elim
    | no=>rw [eg] at h;exact h.elim
    | ok ds' Γ2=>
     rw [eg] at h;have h:Wants K W He O Fs H σ Q (.ok ⟨.lst s,.list ds'⟩ Γ2):=h
     obtain ⟨p,vs,rfl,hq,hst,hr⟩:=A.own.items (O':=O++Fs1.flatten) hc cU A.disj
     have E1:=A.go
     have hlen:vs.length=ds.length:=hr.1
     have hi:i<Γ1.length:=(LY hni).1
     have hj:j<Γ1.length:=(LY hnj).1
     refine ⟨p,rfl,⟨vs,hq⟩,fun A0 hD=>?_⟩
     have hHeD:He A0=none:=E1.same.free hD
     have E0':EnvOk K He (A0::([]:List (List Addr)).flatten++O) Fs1 (bb H1 A0 (.lst [])) (aX [i,j] σ) Γ1:=
      (E1.blank2 hni hnj).hide (G:=[A0]) (fD hD) (by simp) (fun a ha=>by simp at ha;rw [ha];exact hD) (fun a ha=>by simp at ha;rw [ha,dA];exact Option.some_ne_none _)
     refine ⟨fun k m ys H'=>m=vs.length-k/\k<=vs.length/\∃Γk Fk Gs acc,FN K He O Fs1 H1 σ i j s A0 Γ1.length ys H' Γk Fk Gs acc/\rJ i j fc fe s k (ds.drop k) Γk acc=.ok ds' Γ2,⟨vs.length,by simp,Nat.zero_le _,Γ1,Fs1,[],[],⟨E0',fD hD,dA,fun a ha=>.inl (by simpa using ha),rfl,rfl,fun m v d G h1=>by simp at h1,rfl⟩,by simpa using eg⟩,?_⟩
     rintro k m ys H' ⟨rfl,hk,Γk,Fk,Gs,acc,g,eg'⟩
     refine ⟨g.at_,?_⟩
     have hPk:SqL K H' p vs:=g.same.seq hq
     by_cases hlt:k<vs.length
     case neg=>
      left
      have:ds.drop k=[]:=drop_eq_nil_of_le (by omega)
      rw [this] at eg';have eg'':(Out.ok acc Γk:Out (List L4))=.ok ds' Γ2:=eg'
      injection eg'' with e1 e2
      subst e1;subst e2;refine ⟨⟨vs,hPk,by omega⟩,?_⟩
      obtain ⟨n1',_,n3'⟩:=LX g.env.ndO;refine h (.ref A0) H' (A0::Gs.flatten) Fk ⟨A.same.trans g.same,g.env.unblank2,fun a ha=>?_,?_⟩
      ·have up:a∈Fs1.flatten\/H1 a=none->a∈Fs.flatten\/H a=none:=fun z=>z.elim (fun y=>A.newF a y) fun y=>.inr (A.same.free y)
       rcases LP ha with z | z
       ·rcases LQ z with z | z
        ·exact up (.inr (by rw [z];exact hD))
        ·exact up (g.new a (LO _ z))
       ·exact up (g.new a (LN _ z))
      ·exact .lst hsv g.at_ g.l1 g.l2 n1' fun m v d G h1 h2 h3=>g.own m v d G h1 h2 h3
     case pos=>
      right
      have hv:vs[k]?=some vs[k]:=LR hlt
      have hkd:k<ds.length:=by omega
      have hd:ds[k]?=some ds[k]:=LR hkd
      have hdr:ds.drop k=ds[k]::ds.drop (k+1):=drop_eq_getElem_cons hkd
      rw [hdr] at eg';generalize hdk:ds[k]=d at hd eg'
      generalize hvk:vs[k]=v at hv
      simp only [rJ] at eg'
      have hik:i<Γk.length:=by rw [g.len];exact hi
      have hjk:j<Γk.length:=by rw [g.len];exact hj
      have hsl:ys.length<sizeLine:=by
       rw [g.l1]
       cases ec:fc ((Γk.set i (L5 (.int (k:Nat)))).set j (L5 d)) with
       | no=>rw [ec] at eg';cases eg'
       | er c Γ'=>rw [ec] at eg';cases eg'
       | ok b Γa=>
        rw [ec] at eg'
        cases b with
        | false=>
         dsimp only at eg'
         split at eg'
         ·assumption
         ·cases eg'
        | true=>
         dsimp only at eg'
         split at eg'
         ·split at eg'
          ·rename_i z
           simp only [Bool.and_eq_true,decide_eq_true_eq] at z
           exact z.2
          ·cases eg'
         ·cases eg'
      refine ⟨⟨vs,v,hPk,hv⟩,hsl,?_⟩
      rintro x Hx ⟨T,v',rfl,hTn,rfl,hv'⟩
      have ev:v'=v:=Option.some.inj ((hv' vs hPk).symm.trans hv)
      subst ev;refine ⟨T,[.int k,v'],rfl,.of dA,rfl,.int k,[v'],rfl,v',[],rfl,rfl,?_⟩
      have sT:Same H' (bb H' T (.tup [.int k,v'])):=fD hTn
      have Eg:=g.env.grow sT
      have rep:Rep K (bt (bb H' T (.tup [.int k,v'])) (A0::Gs.flatten++O++Fk.flatten)) v' d:=(hr.2 k v' d hv hd).mono (nD (g.same.trans sT) fun a ha=>by
       rcases LP ha with z | z
       ·rcases LP z with z | z
        ·rcases LQ z with z | z
         ·rw [z];exact .inr hD
         ·exact (g.new a (LO _ z)).elim (fun y=>.inl (LN _ y)) .inr
        ·exact .inl (LO _ z)
       ·exact (g.new a (LN _ z)).elim (fun y=>.inl (LN _ y)) .inr)
      have lF:Fk.length=Γk.length:=g.env.len2
      have Ep:=EnvOk.put (G:=[]) (i:=i) (p:=⟨.leaf,.int (k:Nat)⟩) (v:=.int k) Eg (.leaf (.int _)) rfl (fun a ha=>by simp at ha) hik
      have fk:∀a∈(Fk.set i []).flatten,a∈Fk.flatten:=fun a ha=>kQ (by omega) ha
      have Eq:=EnvOk.put (G:=[]) (i:=j) (p:=⟨.leaf,d⟩) (v:=v') Ep (.leaf (rep.mono (nD (Same.refl _) fun a ha=>.inl (by
       rcases LP ha with z | z
       ·exact LO _ z
       ·exact LN _ (fk a z))))) rfl (fun a ha=>by simp at ha) (by rw [length_set];exact hjk)
      have fkk:∀a∈((Fk.set i []).set j []).flatten,a∈Fk.flatten:=fun a ha=>fk a (kQ (by rw [length_set];omega) ha)
      refine ⟨⟨by rw [length_set,length_set],fun m u hm=>?_⟩,?_⟩
      ·have:=(GD hm).1
       simp only [mem_cons,not_mem_nil,or_false,not_or] at this
       rw [getElem?_set_ne (Ne.symm this.2),getElem?_set_ne (Ne.symm this.1)];exact hm
      refine ⟨He,_,_,_,Eq,?_⟩
      cases ec:fc ((Γk.set i (L5 (.int (k:Nat)))).set j (L5 d)) with
      | no=>rw [ec] at eg';cases eg'
      | er c Γ'=>rw [ec] at eg';cases eg'
      | ok b Γa=>
       rw [ec] at eg';intro H3 Fs3 s3' E3 n3
       have s3:Same H' H3:=sT.trans s3'
       have lena:Γa.length=Γ1.length:=by
        have:=E3.len1
        rw [length_set,length_set,zi,E1.len1] at this;exact this.symm
       have n3':∀a∈Fs3.flatten,a∈Fs1.flatten\/H1 a=none:=fun a ha=>(n3 a ha).elim (fun z=>g.new a (LN _ (fkk a z))) fun z=>.inr (g.same.free (sT.free z))
       have n3k:∀a∈Fs3.flatten,a∈Fk.flatten\/H' a=none:=fun a ha=>(n3 a ha).elim (fun z=>.inl (fkk a z)) fun z=>.inr (sT.free z)
       cases b with
       | false=>
        dsimp only at eg'
        split at eg'
        case isFalse=>cases eg'
        refine jm ⟨vs.length-(k+1),by omega,rfl,hlt,(Γa.set i none).set j none,Fs3,Gs,acc,⟨E3.forget2,g.same.trans s3,s3 _ _ g.at_,fun a ha=>?_,g.l1,g.l2,fun m v d G h1 h2 h3=>(g.own m v d G h1 h2 h3).mono s3 fun a ha=>?_,by rw [length_set,length_set];exact lena⟩,eg'⟩
        ·rcases LP ha with z | z
         ·exact g.new a (LO _ z)
         ·exact n3' a z
        ·rcases LP ha with z | z
         ·exact .inl (LO _ z)
         ·exact (n3k a z).elim (fun y=>.inl (LN _ y)) .inr
       | true=>
        refine jl ⟨He,_,_,_,E3,?_⟩
        dsimp only at eg'
        cases ee:fe Γa with
        | no=>rw [ee] at eg';cases eg'
        | er c Γ'=>rw [ee] at eg';cases eg'
        | ok p Γb=>
         rw [ee] at eg';dsimp only at eg'
         split at eg'
         case isFalse=>cases eg'
         rename_i hco;simp only [Bool.and_eq_true,decide_eq_true_eq] at hco
         obtain ⟨hco,_⟩:=hco;intro u H4 G Fs4 A4;have lenb:Γb.length=Γ1.length:=by
          have:=A4.env.len1
          rw [length_set,length_set,zi,E1.len1] at this;exact this.symm
         have at4:H4 A0=some (.lst ys):=A4.same _ _ (s3 _ _ g.at_)
         have s14:Same H1 H4:=(g.same.trans s3).trans A4.same
         have new4:∀a∈G++Fs4.flatten,a∈Fs1.flatten\/H1 a=none:=fun a ha=>(A4.new a ha).elim (n3' a) fun z=>.inr ((g.same.trans s3).free z)
         have hG':∀a∈aG s G,a∈G:=fun a ha=>Jd ha
         obtain ⟨k1,k2,k3⟩:=LX A4.env.ndO;have ndk:(aG s G).Nodup:=by
          cases s<;>first | exact nodup_nil | exact k1
         have pmO:(A0::(Gs++[aG s G]).flatten++O).Perm (aG s G++(A0::Gs.flatten++O)):=by
          rw [wt];show (A0::((Gs.flatten++aG s G)++O)).Perm _
          refine List.Perm.trans ?_ List.perm_middle.symm
          refine List.Perm.cons _ ?_
          rw [append_assoc];exact km _ _ _
         have E5:EnvOk K He (aG s G++(A0::Gs.flatten++O)) Fs4 H4 (((aX [i,j] σ).set i (some (.int k))).set j (some v')) Γb:=A4.env.drop (fun a ha=>by
          rcases LP ha with z | z
          ·exact LO _ (hG' a z)
          ·exact LN _ z) (List.nodup_append.mpr ⟨ndk,k2,fun a ha b hb=>k3 a (hG' a ha) b hb⟩)
         have E6:=(E5.perm pmO).forget2
         have hDin:A0∈A0::(Gs++[aG s G]).flatten++O:=mem_cons_self
         have E7:=E6.mutO (o:=.lst (ys++[u])) hDin at4 hHeD
         have subH:∀a∈A0::(Gs++[aG s G]).flatten++O++Fs4.flatten,a∈G++(A0::Gs.flatten++O)++Fs4.flatten:=fun a ha=>by
          rcases LP ha with z | z
          ·rcases LP (pmO.mem_iff.mp z) with y | y
           ·exact LO _ (LO _ (hG' a y))
           ·exact LO _ (LN _ y)
          ·exact LN _ z
         have Dnot:∀{m:Nat} {Gj:List Addr},Gs[m]?=some Gj->A0∉Gj:=fun {m Gj} hj z=>by
          have nd:=g.env.ndO
          exact (List.nodup_cons.mp nd).1 (LO _ (ik hj z))
         refine ⟨at4,vs.length-(k+1),by omega,rfl,hlt,(Γb.set i none).set j none,Fs4,Gs++[aG s G],acc++[p.d],⟨E7,fun b o hb=>?_,dA,fun a ha=>?_,by simp [g.l1],by simp [g.l2],fun m w d' G' h1 h2 h3=>?_,by rw [length_set,length_set];exact lenb⟩,eg'⟩
         ·rw [cw (vO hb hD)]
          exact s14 b o hb
         ·rcases LP ha with z | z
          ·rw [wt] at z
           rcases LP z with z | z
           ·exact g.new a (LO _ z)
           ·exact new4 a (LO _ (hG' a z))
          ·exact new4 a (LN _ z)
         ·by_cases hm:m<ys.length
          ·rw [getElem?_append_left hm] at h1
           rw [getElem?_append_left (by rw [<-g.l1];exact hm)] at h2
           rw [getElem?_append_left (by rw [g.l2,<-g.l1];exact hm)] at h3
           have o1:=g.own m w d' G' h1 h2 h3
           have o2:=o1.mono (O':=A0::(Gs++[aG s G]).flatten++O++Fs4.flatten) (s3.trans A4.same) fun a ha=>by
            have up:a∈G++Fs4.flatten->a∈A0::Gs.flatten++O++Fk.flatten\/H' a=none:=fun z=>(A4.new a z).elim (fun y=>(n3k a y).elim (fun y=>.inl (LN _ y)) .inr) fun y=>.inr (s3.free y)
            rcases LP (subH a ha) with z | z
            ·rcases LP z with z | z
             ·exact up (LO _ z)
             ·exact .inl (LO _ z)
            ·exact up (LN _ z)
           exact o2.mut hsv (LO _ hDin) (Dnot h3) at4
          ·have hm':m=ys.length:=by
            have:=(LY h1).1
            rw [length_append,length_singleton] at this;omega
           subst hm'
           rw [getElem?_append_right (L3 _),Nat.sub_self] at h1;rw [getElem?_append_right (by rw [g.l1];exact L3 _),show ys.length-acc.length=0 by rw [g.l1];exact Nat.sub_self _] at h2
           rw [getElem?_append_right (by rw [g.l2,g.l1];exact L3 _),show ys.length-Gs.length=0 by rw [g.l2,g.l1];exact Nat.sub_self _] at h3
           cases h1
           cases h2
           cases h3;have o3:=A4.own.coer (s:=s) (O':=A0::(Gs++[aG s G]).flatten++O++Fs4.flatten) hco subH fun a ha hO=>by
            cases s with
            | leaf=>
             exfalso
             have hO':a∈(A0::Gs.flatten++O)++Fs4.flatten:=by
              rw [wt] at hO;simpa [aG] using hO
             rcases LP hO' with z | z
             ·exact k3 a ha a z rfl
             ·have nd:=A4.env.nd
              exact (LX nd).2.2 a (LO _ ha) a z rfl
            | view=>cases hsv
            | lst s=>exact ha
            | tup ss=>exact ha
           refine o3.mut hsv (LO _ hDin) (fun z=>?_) at4
           exact k3 A0 (hG' A0 z) A0 mem_cons_self rfl
  | _=>exact h.elim
end
def FX (N:List Str) (is:List Nat) (cs:List Nat) (sc:Scope):Bool:=
 decide (sc.kind=.function)&&(sc.names.all fun p=>!decide (p.2=.free)||cs.any fun j=>decide (N[j]?=some p.1)) &&
 ((List.range N.length).all fun j=>is.contains j||(sc.names.all fun p=>!decide (some p.1=N[j]?)||(!decide (p.2=.local)&&!decide (p.2=.cell)))) &&
 (sc.names.all fun p=>!decide (p.2=.local)||decide (sc.names.lookup p.1=some .local)) &&
 (sc.names.all fun p=>!decide (p.2=.free)||sc.names.all fun q=>!decide (q.1=p.1)||!decide (q.2=.cell))
theorem iV {X:Cx} {N gl:List Str} {vs cs ls lo gs is:List Nat} {scope:Scope} (S:Cp X N gl vs cs ls lo gs) (h:FX N is cs scope=true):cb X.N is X.env.scope scope:=by
 unfold FX at h;simp only [Bool.and_eq_true,decide_eq_true_eq,all_eq_true,Bool.or_eq_true,Bool.not_eq_true',decide_eq_false_iff_not,any_eq_true,mem_range] at h
 obtain ⟨⟨⟨⟨h0,h1⟩,h2⟩,h3⟩,h4⟩:=h;refine ⟨h0,fun n hn=>?_,fun j x e hj=>?_,fun x hx e=>?_,fun n hn hc=>?_⟩
 ·rcases h1 _ hn with z | ⟨j,hj,e⟩
  ·exact absurd rfl z
  ·exact S.cel j n e (by simpa using hj)
 ·rw [S.hN] at e
  rcases h2 j (LY e).1 with z | z
  ·simpa using z
  ·exfalso
   rcases hj with y | y
   ·rcases z _ y with w | w
    ·exact w e.symm
    ·exact w.1 rfl
   ·rcases z _ y with w | w
    ·exact w e.symm
    ·exact w.2 rfl
 ·rcases h3 x hx with z | z
  ·exact absurd e z
  ·exact z
 ·rcases h4 _ hn with z | z
  ·exact z rfl
  ·rcases z _ hc with w | w
   ·exact w rfl
   ·exact w rfl
end T
namespace TQ
open PySem PySem.Spec L2 T
open PyProof.Rows hiding St
section
variable {X:Cx} {N gl:List Str} {vs cs ls lo gs:List Nat} {W:XW} {a b c e:Expr} {es:List Expr} {pos p:Pos} {fa fb fc:F1} {fl:FL} {ga gb:FB} {g1 g2 g:FS}
theorem Gk {st:Stmt}:Q (PS X st (tS X.K W Ez)):=⟨fun pins s σ H D I h=>by
 obtain ⟨He,O,Fs,Γ,E,h⟩:=h;exact h.elim⟩
theorem wo (ha:Q (PE X e (tE X.K W fa))) (hs:swapsWith e none pos.line X.env=pure false):Q (PS X (.Expr e pos) (tS X.K W (bS fa))):=⟨have ha:=ha.p;bN (Ga ha hs) fun _ _ _=>xr⟩
theorem jN {X:Cx} {N gl:List Str} {vs cs ls lo gs:List Nat} {W:XW} {a:Expr} {pos p p2:Pos} {fa:F1} {c:String} {x:Str} (S:Cp X N gl vs cs ls lo gs) (j k:Nat) (hj:gl[j]?=some ("isinstance":Str)) (hg:gs.contains j=true) (hk:gl[k]?=some x) (hg2:gs.contains k=true) (hc:kinds.contains c=true) (hv:bootBuiltins x=some (.type c)) (hm:X.mg "isinstance"=none) (hm2:X.mg x=none) (ha:Q (PE X a (tE X.K W fa))) (hs:starEach [a,.Name x p2] X.env=(false,eval a X.env)::starEach [.Name x p2] X.env) (hs2:starEach [.Name x p2] X.env=(false,eval (.Name x p2) X.env)::starEach [] X.env) (hpl:(backTo pos (starEach [.Name x p2] X.env)).any (·.1)=false):Q (PE X (.Call (.Name "isinstance" p) [a,.Name x p2] [] pos) (tE X.K W (vb c fa))):=⟨have ha:=ha.p;aR (II (vt (by simpa using hc)) (S.g hj hg).1 hm jB (DS ha (DS (xJ (v:=.ty c) (S.g hk hg2).1 hm2 hv rfl (S.g hk hg2).2.2 (S.g hk hg2).2.1) FT hs2) hs) (S.g hj hg).2.2 (S.g hj hg).2.1 hs hpl) fun _ _ _=>Bf⟩
theorem fK {p2 pos2:Pos} (S:Cp X N gl vs cs ls lo gs) (j k:Nat) (hj:gl[j]?=some ("list":Str)) (hg:gs.contains j=true) (hm:X.mg "list"=none) (hk:gl[k]?=some ("range":Str)) (hg2:gs.contains k=true) (hm2:X.mg "range"=none) (ha:Q (PA X [a] (tA X.K W fl))) (hs:starEach [a] X.env=[(false,eval a X.env)]) (hs1:starEach [.Call (.Name "range" p2) [a] [] pos2] X.env=[(false,eval (.Call (.Name "range" p2) [a] [] pos2) X.env)]):Q (PE X (.Call (.Name "list" p) [.Call (.Name "range" p2) [a] [] pos2] [] pos) (tE X.K W (CM fl))):=⟨have ha:=ha.p;aR (jg (S.g hj hg).1 hm (S.g hk hg2).1 hm2 S.calm ha hs hs1) fun _ _ _=>EC⟩
theorem Ea (n:Nat) {body:List Stmt} (hp:PassesOwn (model X.prog X.w) X.A X.env X.xe) (hc:Q (PT X c (tT X.K W ga))) (hb:Q (PSs X body (tS X.K W g))):Q (PS X (.While c body [] pos) (tS X.K W (pw n ga g))):=⟨have hc:=hc.p;have hb:=hb.p;bN (tR hp hc hb) fun _ _ _=>sZ⟩
theorem lX (S:Cp X N gl vs cs ls lo gs) (i:Nat) {x:Str} {spos apos cpos:Pos} (hi:N[i]?=some x) (hv:vs.contains i=true) (hk:Q (PE X b (tE X.K W fb))) (ha:Q (PE X a (tE X.K W fa))) (hx:Df b) (hs:starEach [a] X.env=[(false,eval a X.env)]) (hbase:attributeBase (.Subscript (.Name x p) b spos) "append" X.env (eval (.Subscript (.Name x p) b spos) X.env)=eval (.Subscript (.Name x p) b spos) X.env) (hline:(apos.endLine==cpos.line)=true) (hfew:((backTo cpos (starEach [a] X.env)).all (fun x=>!x.1)&&(backToKw cpos (keywordEach [] X.env)).all (fun x=>x.1.isSome)
   && decide ([a].length+([]:List Keyword).length+(if ([]:List Keyword).isEmpty then 0 else 1)<30))=true) (hsw:swapsWith (.Call (.Attribute (.Subscript (.Name x p) b spos) "append" apos) [a] [] cpos) none pos.line X.env=pure false):Q (PS X (.Expr (.Call (.Attribute (.Subscript (.Name x p) b spos) "append" apos) [a] [] cpos) pos) (tS X.K W (y6 i fb fa))):=⟨T.cs_appAt S i hi hv hk.p ha.p hx hs hbase hline hfew hsw⟩
theorem pG (S:Cp X N gl vs cs ls lo gs) (i j k:Nat) {x y:Str} {px py pt:Pos} {kt:Nat} {body:List Stmt} {g:FS} (hx:N[i]?=some x) (hl:ls.contains i=true) (hy:N[j]?=some y) (hl2:ls.contains j=true) (hk:gl[k]?=some ("enumerate":Str)) (hg:gs.contains k=true) (hm:X.mg "enumerate"=none) (hp:PassesOwn (model X.prog X.w) X.A X.env X.xe) (ha:Q (PE X a (tE X.K W fa))) (hs1:starEach [a] X.env=[(false,eval a X.env)]) (hb:Q (PSs X body (tS X.K W g))) (hs:∀x,foldedSetIterable (.Call (.Name "enumerate" p) [a] [] pos) X.env x=pure x) {fpos:Pos}:Q (PS X (.For (.Tuple [.Name x px,.Name y py] kt pt) (.Call (.Name "enumerate" p) [a] [] pos) body [] fpos) (tS X.K W (iD i j fa g))):=⟨by
 have ha:=ha.p
 have hb:=hb.p
 have hN:X.N.Nodup:=by rw [S.hN];exact S.nd
 exact bN (Iv hp S.calm (oA (S.g hk hg).1 hm (da_cons ha da_nil hs1) hs1) (Iu S.calm (Dn (rL hN (by rw [S.hN];exact hx) (S.loc i x hx hl).1 (S.loc i x hx hl).2) (Dn (rL hN (by rw [S.hN];exact hy) (S.loc j y hy hl2).1 (S.loc j y hy hl2).2) Ie))) hb hs) fun _ _ _=>xq⟩
theorem Ef {scope:Scope} {x y:Str} {px py pt cpos:Pos} {kt:Nat} {elt:Expr} {ifs:List Expr} {fe:F1} {fc:FB} {vs' cs' lo' gs':List Nat} (S:Cp X N gl vs cs ls lo gs) (s:Sh) (i j k:Nat) (hij:(i != j)=true) (hx:N[i]?=some x) (hy:N[j]?=some y) (hk:gl[k]?=some ("enumerate":Str)) (hg:gs.contains k=true) (hm:X.mg "enumerate"=none) (h1:FX N [i,j] cs scope=true) (h2:o6 N gl vs' cs' [i,j] lo' gs' scope=true) (ha:Q (PE X a (tE X.K W fa))) (hs1:starEach [a] X.env=[(false,eval a X.env)]) (hc:vV X N gl vs' cs' [i,j] lo' gs' fun Y=>Q (PF Y ifs (tT Y.K W0 fc))) (he:vV X N gl vs' cs' [i,j] lo' gs' fun Y=>Q (PE Y elt (tE Y.K W0 fe))) (hs:∀x,foldedSetIterable (.Call (.Name "enumerate" p) [a] [] cpos) X.env x=pure x):Q (PE X (.ListComp elt [⟨.Tuple [.Name x px,.Name y py] kt pt,.Call (.Name "enumerate" p) [a] [] cpos,ifs,0⟩] scope pos) (tE X.K W (zW s i j fa fc fe))):=⟨by
 have ha:=ha.p
 have hc:=fun Y S F=>(hc Y S F).p
 have he:=fun Y S F=>(he Y S F).p
 have B:=fun cells C s₀ H₀ ex=>S.blk h2 cells C s₀ H₀ ex
 have L:=fun cells C s₀ H₀ ex=>(B cells C s₀ H₀ ex).loc i x hx (by simp)
 have L2':=fun cells C s₀ H₀ ex=>(B cells C s₀ H₀ ex).loc j y hy (by simp)
 have hN:X.N.Nodup:=by rw [S.hN];exact S.nd
 exact aR (Ib (iV S h1) S.calm (oA (S.g hk hg).1 hm (da_cons ha da_nil hs1) hs1)
  (fun cells C s₀ H₀ ex=>Iu (X:=blk X scope cells C s₀ H₀ ex) S.calm (Dn (rL (X:=blk X scope cells C s₀ H₀ ex) (i:=i) hN (by show X.N[i]?=_;rw [S.hN];exact hx) (L cells C s₀ H₀ ex).1 (L cells C s₀ H₀ ex).2) (Dn (rL (X:=blk X scope cells C s₀ H₀ ex) (i:=j) hN (by show X.N[j]?=_;rw [S.hN];exact hy) (L2' cells C s₀ H₀ ex).1 (L2' cells C s₀ H₀ ex).2) Ie)))
  (fun cells C s₀ H₀ ex=>hc _ (B cells C s₀ H₀ ex) ⟨rfl,rfl,rfl,rfl,rfl,rfl⟩) (fun cells C s₀ H₀ ex=>he _ (B cells C s₀ H₀ ex) ⟨rfl,rfl,rfl,rfl,rfl,rfl⟩) hs) fun _ _ _=>tw (by simpa using hij)⟩
end
end TQ
namespace L2
open PySem PySem.Spec PyProof.Rows
section
variable {κ:Type} [DecidableEq κ]
def fh (kvs:List (κ×V)) (k:κ):Option V:=(kvs.find? fun kv=>decide (kv.1=k)).map (·.2)
theorem jP {p:κ×V} {r:List (κ×V)} {k:κ} (e:p.1=k):fh (p::r) k=some p.2:=by simp [fh,find?_cons,e]
theorem Jh {p:κ×V} {r:List (κ×V)} {k:κ} (e:¬p.1=k):fh (p::r) k=fh r k:=by simp [fh,find?_cons,e]
theorem RelO.isSome_eq {o:Option V} {u:Option Value} (r:RelO o u):o.isSome=u.isSome:=by
 cases o with
 | none=>cases u with
  | none=>rfl
  | some _=>exact (show False from r).elim
 | some _=>cases u with
  | none=>exact (show False from r).elim
  | some _=>rfl
end
theorem zI {P:Program} {w:World} {k:cT} {u:Value} (r:RelV (kV k) u):(jE P w).is k u=true:=by
 cases k with
 | inl i=>obtain ⟨t,e⟩:=(show ∃t,u=Value.int i t from r);subst e;exact kF P w i t
 | inr x=>obtain ⟨t,e⟩:=(show ∃t,u=Value.str x t from r);subst e;exact kE P w x t
theorem iK {P:Program} {w:World}:∀{ks:List cT} {us:List Value},Vals (ks.map kV) us->ItemsAre (jE P w) ks us
 | [],_,r=>by rw [map_nil] at r;cases r;exact .nil
 | k::ks,_,r=>by
  rw [map_cons] at r
  cases r with
  | cons h t=>exact .cons (zI h) (iK t)
section
variable {X:Cx} {pins:List (Addr×Obj)} {σ:St} {H:Hp} {s:Shared} {a:Addr} {y v:V} {u r:Value} {o:Option V} {A:Around} {E:Value->Shared->Prop}
theorem Inv.big (I:Inv X pins σ H s):sysModules<s.heap.objs.size:=by
 have h:mainGlobals<s.heap.objs.size:=(I.mod.glob.keeps I.bk).lt
 exact Nat.lt_trans (by decide) h
theorem yG {h':Heap} {t':Nat} {ob:HO} (I:Inv X pins σ H s) (mu:FK (H a)) (hs:Heap.SameBut a s.heap h') (he:∃q,h'.get? a=some q) (new:ObjOk X.prog X.w (bb H a ob) h' a ob) :
  Inv X pins σ (bb H a ob) { s with heap:=h',toks:=t' }:=
 I.write (x:=a) (e:=a) mu (.inl rfl) (fun b q hb z=>(hs.2 b hb).trans z) he new
end
def FJ (i:Expr):Prop:=∀ov iv,subscripted i false ov iv=operate [ov,iv] (getItem ov iv)
theorem wN {prog:Program} {w:World} {A:Around} {E:Value->Shared->Prop} {s:Shared} {env:Env} {value slice:Expr} {pos:Pos} {T id:String} {Q:Value->Shared->Prop}
  (hl:typeLookup (.type T) "__getitem__"=pure (some (.builtin id))) (hs:FJ slice)
  (h:wpAny (model prog w) A (eval value env) (fun o s₁=>wpAny (model prog w) A (eval slice env) (fun i s₂=>s₂.TypeIs o T/\wpAny (model prog w) A (getItem o i) Q E s₂) E s₁) E s) :
  wpAny (model prog w) A (eval (.Subscript value slice pos) env) Q E s:=by
 refine Subscript_ (wpAny_mono h (fun o s₁ h₁=>wpAny_mono h₁ (fun i s₂ h₂=>?_) fun _ _ x=>x) fun _ _ x=>x)
 obtain ⟨hT,h₂⟩:=h₂;unfold subscriptTail;refine LZ ?_
 rw [getitemInPython_of_ne hT.not_modules];refine LZ (wpAny_specialOf hT hl ?_)
 have fin:wpAny (model prog w) A (subscripted slice false o i) (fun r s₃=>wpAny (model prog w) A (letTemporaryGo value o r >>= fun _=>pure r) Q E s₃) E s₂:=by
  rw [hs o i];exact wpAny_operating (wpAny_mono h₂ (fun r s₃ h₃=>LZ (wpAny_letTemporaryGo (L0 h₃))) fun _ _ x=>x)
 first
  | exact L0 (LZ fin)
  | exact LZ (L0 (LZ fin))
  | exact LZ fin
end L2
namespace T
open PySem PySem.Spec L2
open PyProof.Rows hiding St
def we:L4->Bool
 | .none=>true
 | _=>false
def cW (neg:Bool):L4->L4->Option L4
 | a,.none=>some (.bool (if neg then !we a else we a))
 | _,_=>none
theorem kA {K:Fg} {H:Hp} {x:V} {a:L4} (r:Rep K H x a):decide (x=V.non)=we a:=by
 cases r<;>simp [we]
theorem yi {K:Fg}:GOp K (fun x y H Q=>y=.non/\Q (.bl (decide (x=.non))) H) (cW false):=by
 intro x y H Q a b d ra rb e k
 cases rb<;>simp only [cW] at e<;>try cases e
 exact ⟨rfl,by rw [kA ra];exact k _ (.bl _)⟩
theorem uX {K:Fg}:GOp K (fun x y H Q=>y=.non/\Q (.bl (!decide (x=.non))) H) (cW true):=by
 intro x y H Q a b d ra rb e k
 cases rb<;>simp only [cW] at e<;>try cases e
 exact ⟨rfl,by rw [kA ra];exact k _ (.bl _)⟩
theorem BF {X:Cx} (R:Rm X):Ck X .Is (fun x y H Q=>y=.non/\Q (.bl (decide (x=.non))) H) (cW false):=⟨B1,yi⟩
theorem ot {X:Cx} (R:Rm X):Ck X .IsNot (fun x y H Q=>y=.non/\Q (.bl (!decide (x=.non))) H) (cW true):=⟨xM,uX⟩
def Lo:L4->L4->Option L4
 | .str i,.str j=>if i.length+j.length<=sizeLine then some (.str (i++j)) else none
 | _,_=>none
def g5 (fa fb:F1):F1:=aK fa fun p=>aK fb fun q=>fun Γ=>match p.d,q.d with
 | .list xs,.list ys=>if bH p xs&&bH q ys&&decide (xs.length+ys.length<=sizeLine) then .ok ⟨.lst .leaf,.list (xs++ys)⟩ Γ else .no
 | _,_=>.no
def Lq (fa fb:F1):F1:=aK fa fun p=>aK fb fun q=>fun Γ=>match p.d,q.d with
 | .tuple xs,.tuple ys=>if !p.s.isView&&bH q ys&&!xs.isEmpty&&decide (xs.length+ys.length<=sizeLine) then .ok ⟨.leaf,.tuple (xs++ys)⟩ Γ else .no
 | _,_=>.no
def yw (fa fb:F1):F1:=aK fa fun p=>aK fb fun q=>fun Γ=>match p.d,q.d with
 | .tuple xs,.int k=>if !p.s.isView&&decide (1<=k)&&decide (k<=xs.length) then .ok ⟨.leaf,.tuple (xs.drop k.toNat)⟩ Γ else .no
 | _,_=>.no
def oq (K:Fg):R2:=fun x y H Q=>∃l b xs zs,x=.ref l/\y=.ref b/\SqL K H l xs/\SqL K H b zs/\xs.length+zs.length<=sizeLine/\∀p,H p=none->Q (.ref p) (bb H p (.lst (xs++zs)))
theorem yL {prog:Program} {w:World} {A:Around} {E:Value->Shared->Prop} {s:Shared} {l b:Addr} {vs ws:List Value} {Q:Value->Shared->Prop} (hl:s.heap.IsList l vs.toArray) (hb:s.heap.IsList b ws.toArray) (hz:vs.length+ws.length<=sizeLine)
  (h:Q (.ref s.heap.objs.size) { s with heap:=s.heap.push { cls:=.type "list",data:=.seq (vs++ws).toArray } }):wpAny (model prog w) A (binaryOp .Add (.ref l) (.ref b)) Q E s:=by
 obtain ⟨⟨cls,dd,data,sl⟩,ho,hc,n,hd⟩:=id hl;obtain ⟨⟨cls2,dd2,data2,sl2⟩,ho2,hc2,n2,hd2⟩:=id hb;simp only at hc hd hc2 hd2
 subst hc hd hc2 hd2;have e:vs.toArray++ws.toArray=(vs++ws).toArray:=by simp
 rw [<-e] at h;exact concat_meets ⟨_,ho,rfl⟩ ⟨_,ho2,rfl⟩ noFill_list_add seq_list_add PySem.F.slot_list_add PySem.F.entry_list_add (PySem.F.args_list_add_2 _ _) (list_addW l b vs.toArray ws.toArray n n2 dd dd2 sl sl2 (by simpa using hz)) ⟨ho,ho2,h⟩
theorem oE {X:Cx}:OpR X (binaryOp .Add) (oq X.K):=by
 intro pins s σ H x y v u Q I rx ry h;obtain ⟨l,b,xs,zs,rfl,rfl,hH,hB,hz,q⟩:=h
 cases rx
 cases ry;obtain ⟨its,r,pl,z⟩:=I.list hH;obtain ⟨its2,r2,pl2,z2⟩:=I.list hB;refine yL pl.isList pl2.isList (by rw [<-r.length,<-r2.length];exact hz) ?_
 exact ⟨.ref _,_,I.lnew (t':=s.toks) (r.append r2) (by rw [length_append];exact hz),rfl,q _ I.fresh⟩
section
variable {K:Fg} {W:XW} {σ:St} {H:Hp} {Q:VK} {D:cQ} {fa fb:F1} {fl:FL}
theorem Reps.app {vs ws:List V} {ds es:List L4} (h:Reps K H vs ds) (h':Reps K H ws es):Reps K H (vs++ws) (ds++es):=by
 refine ⟨by rw [length_append,length_append,h.1,h'.1],fun i v d e1 e2=>?_⟩
 by_cases hi:i<vs.length
 ·rw [getElem?_append_left hi] at e1
  rw [getElem?_append_left (by rw [<-h.1];exact hi)] at e2
  exact h.2 i v d e1 e2
 ·rw [getElem?_append_right (by omega)] at e1
  rw [getElem?_append_right (by rw [<-h.1];omega),<-h.1] at e2
  exact h'.2 _ v d e1 e2
theorem Reps.drop {vs:List V} {ds:List L4} (k:Nat) (h:Reps K H vs ds):Reps K H (vs.drop k) (ds.drop k):=by
 refine ⟨by rw [length_drop,length_drop,h.1],fun i v d e1 e2=>?_⟩
 rw [List.getElem?_drop] at e1 e2
 exact h.2 _ v d e1 e2
theorem CS {G2 G1 O F:List Addr} (nd:(G2++(G1++O)++F).Nodup):(∀a∈G1,a∉O++F)/\(∀a∈G2,a∉O++F):=by
 rw [append_assoc,append_assoc] at nd;obtain ⟨_,n2,n3⟩:=LX nd;obtain ⟨_,_,n4⟩:=LX n2;exact ⟨fun a ha z=>n4 a ha a z rfl,fun a ha z=>n3 a ha a (LN _ z) rfl⟩
theorem wO {G2 G1 O F:List Addr}:∀a∈O++F,a∈G2++(G1++O)++F:=fun a ha=>by
 rcases LP ha with z | z
 ·exact LO _ (LN _ (LN _ z))
 ·exact LN _ z
theorem oN {He H1:Hp} {O:List Addr} {Fs Fs1:List (List Addr)} {Γ1:Ev} {vs:List V} {ds:List L4} {p:Addr} (E:EnvOk K He O Fs1 H1 σ Γ1) (s:Same H H1) (n:∀a∈Fs1.flatten,a∈Fs.flatten\/H a=none)
  (hr:Reps K (bt H1 (O++Fs1.flatten)) vs ds) (hp:H1 p=none):Aft K He O Fs H σ Γ1 ⟨.leaf,.tuple ds⟩ (.ref p) (bb H1 p (.tup vs)) [] Fs1:=by
 refine ⟨s.trans (fD hp),by rw [nil_append];exact E.grow (fD hp),by rw [nil_append];exact n,.leaf ?_⟩
 rw [nil_append];have hn:p∉O++Fs1.flatten:=fun z=>E.inH p z hp
 exact .tup (.of (Dh dA hn)) hr.1 fun i v d h1 h2=>(hr.2 i v d h1 h2).mono (nD (fD hp) fun a ha=>.inl ha)
theorem xX {He H1:Hp} {O:List Addr} {Fs Fs1:List (List Addr)} {Γ1:Ev} {v:V} {d:L4} (E:EnvOk K He O Fs1 H1 σ Γ1) (s:Same H H1) (n:∀a∈Fs1.flatten,a∈Fs.flatten\/H a=none)
  (hr:Rep K (bt H1 (O++Fs1.flatten)) v d):Aft K He O Fs H σ Γ1 ⟨.leaf,d⟩ v H1 [] Fs1:=
 ⟨s,by rw [nil_append];exact E,by rw [nil_append];exact n,.leaf (by rw [nil_append];exact hr)⟩
theorem Bo (h:tE K W (g5 fa fb) σ H Q):wK (oq K) (tE K W fa) (tE K W fb) σ H Q:=by
 refine C7 (R:=fun v u H2=>oq K v u H2 Q) h fun He O Fs Γ2 p q v u H1 H2 G1 G2 Fs2 nd s1 s2 E new o1 o2 w=>?_
 obtain ⟨s,d⟩:=p;obtain ⟨s',d'⟩:=q;dsimp only at w o1 o2
 split at w
 ·rename_i xs ys
  cases hc:(bH ⟨s,.list xs⟩ xs&&bH ⟨s',.list ys⟩ ys&&decide (xs.length+ys.length<=sizeLine)) with
  | false=>rw [hc] at w;exact w.elim
  | true=>
   rw [hc] at w;simp only [Bool.and_eq_true,decide_eq_true_eq] at hc
   obtain ⟨⟨h1,h2⟩,h3⟩:=hc;obtain ⟨d1,d2⟩:=CS E.nd;obtain ⟨p1,vs,rfl,q1,_,r1⟩:=o1.items (O':=O++Fs2.flatten) h1 wO d1
   obtain ⟨p2,ws,rfl,q2,_,r2⟩:=o2.items (O':=O++Fs2.flatten) h2 wO d2
   refine ⟨p1,p2,vs,ws,rfl,rfl,q1,q2,by rw [r1.1,r2.1];exact h3,fun p' hp'=>w _ _ _ _ (DV (E.drop (fun a ha=>LN _ (LN _ ha)) nd) (s1.trans s2) (fun a ha=>new a (LN _ (LN _ ha))) (r1.app r2) hp')⟩
 ·exact w.elim
theorem A8 (h:tE K W (yw fa fb) σ H Q):KZ (Bv K) (tE K W fa) (zq (tE K W fb)) nT σ H Q:=by
 refine C7 (R:=fun v u H2=>∃i,u=.int i/\Bv K v (some i) none H2 Q) h fun He O Fs Γ2 p q v u H1 H2 G1 G2 Fs2 nd s1 s2 E new o1 o2 w=>?_
 obtain ⟨s,d⟩:=p;obtain ⟨s',d'⟩:=q;dsimp only at w o1 o2
 split at w
 ·rename_i xs k
  cases hc:(!s.isView&&decide (1<=k)&&decide (k<=xs.length)) with
  | false=>rw [hc] at w;exact w.elim
  | true=>
   rw [hc] at w;simp only [Bool.and_eq_true,decide_eq_true_eq,Bool.not_eq_true'] at hc
   obtain ⟨⟨h1,h2⟩,h3⟩:=hc;obtain ⟨d1,d2⟩:=CS E.nd;have E1:=E.drop (fun a ha=>LN _ (LN _ ha)) nd
   have nw:∀a∈Fs2.flatten,a∈Fs.flatten\/H a=none:=fun a ha=>new a (LN _ (LN _ ha))
   have r1:=o1.freeze (O':=O++Fs2.flatten) h1 wO d1
   have ru:=o2.rep
   cases ru;refine ⟨k,rfl,?_⟩
   cases r1 with
   | @tup a vs _ hq hl hr=>
    have ek:k=((k.toNat:Nat):Int):=by omega
    refine ⟨a,vs,rfl,cP hid_le hq,fun z=>?_,fun p' hp'=>?_⟩
    ·have z1:=z.1
     rw [ek,HT.sIx_nat] at z1;omega
    ·have ec:ib vs (some k) none=vs.drop k.toNat:=by
      unfold ib;rw [ek,HT.sIx_nat,HT.sIx_none,Int.toNat_natCast,take_of_length_le (by rw [length_drop];omega)]
      rw [Nat.min_eq_left (by omega)]
     rw [ec];exact w _ _ _ _ (oN E1 (s1.trans s2) nw (Reps.drop k.toNat ⟨hl,hr⟩) hp')
 ·exact w.elim
def zY (fa:F1):F1:=aK fa fun p Γ=>match p.d with
 | .list ds=>if bH p ds then .ok ⟨.leaf,.tuple ds⟩ Γ else .no
 | .tuple ds=>if !p.s.isView then .ok ⟨.leaf,.tuple ds⟩ Γ else .no
 | _=>.no
theorem tf (h:tE K W (zY fa) σ H Q):AL (fun xs H Q=>∃p ys,xs=[.ref p]/\((SqL K H p ys/\∀l,H l=none->Q (.ref l) (bb H l (.tup ys)))\/(SqT K H p ys/\Q (.ref p) H))) (tA K W (ab fa af)) σ H Q:=by
 refine C6 (QL:=fun xs H1=>∃p ys,xs=[.ref p]/\((SqL K H1 p ys/\∀l,H1 l=none->Q (.ref l) (bb H1 l (.tup ys)))\/(SqT K H1 p ys/\Q (.ref p) H1))) ?_
 refine vX h fun He O Fs Γ1 p v H1 G Fs1 nd A w=>?_
 obtain ⟨s,d⟩:=p
 cases d with
 | list ds=>
  have w:Wants K W He O Fs H σ Q (if bH ⟨s,.list ds⟩ ds then .ok ⟨.leaf,.tuple ds⟩ Γ1 else .no):=w
  cases hc:bH ⟨s,.list ds⟩ ds with
  | false=>rw [hc] at w;exact w.elim
  | true=>
   rw [hc] at w;obtain ⟨p,vs,rfl,hq,_,hr⟩:=A.own.items (O':=O++Fs1.flatten) hc cU A.disj
   exact ⟨p,vs,rfl,.inl ⟨hq,fun l hl=>w _ _ _ _ (oN A.go A.same A.newF hr hl)⟩⟩
 | tuple ds=>
  have w:Wants K W He O Fs H σ Q (if !s.isView then .ok ⟨.leaf,.tuple ds⟩ Γ1 else .no):=w
  cases hc:s.isView with
  | true=>rw [hc] at w;exact w.elim
  | false=>
   rw [hc] at w;have r1:=A.own.freeze (O':=O++Fs1.flatten) hc cU A.disj
   cases r1 with
   | @tup a vs _ hq hl hr=>exact ⟨a,vs,rfl,.inr ⟨cP hid_le hq,w _ _ _ _ (xX A.go A.same A.newF (.tup hq hl hr))⟩⟩
 | _=>exact w.elim
end
theorem pX {K:Fg} {H:Hp} {ws:List V} {ns:List Int} (h:Reps K H ws (ns.map .int)):ws=ns.map V.int:=by
 obtain ⟨hwl,hw⟩:=h;apply ext_getElem?
 intro i;by_cases hi:i<ws.length
 ·have hi2:i<ns.length:=by rw [length_map] at hwl;omega
  have q:=hw i (ws[i]'hi) (.int (ns[i]'hi2)) (LR _) (by rw [getElem?_map,LR hi2];rfl)
  rw [LR hi,getElem?_map,LR hi2];generalize ws[i]'hi=u at q
  cases q;rfl
 ·rw [getElem?_eq_none (by omega),getElem?_eq_none (by rw [length_map] at hwl ⊢;omega)]
def bC (k:Str):List (Str×Int)->Option Int
 | []=>none
 | (x,i)::r=>if k=x then some i else bC k r
def sx (a:Addr) (es:Array DictEntry) (tab:List (Str×Int)):Bool:=!(a==sysModules)&&KTD.rowsLook KTD.flatLooks es.toList (tab.map fun p=>(p.1,.int p.2))
def pj (K:Fg) (mg:Str->Option Value) (x:Str) (tab:List (Str×Int)):Prop:=∃a es ep,mg x=some (.ref a)/\K.lookup a=some ⟨.type "dict",none,.dict es ep,#[]⟩/\sx a es tab=true
def C5 (X:Cx) (x:Str) (tab:List (Str×Int)):Prop:=pj X.K X.mg x tab
theorem yJ {K:Fg} {mg:Str->Option Value} {x:Str} {a:Addr} {es:Array DictEntry} {ep:Nat} {tab:List (Str×Int)} (hm:mg x=some (.ref a)) (l:K.lookup a=some ⟨.type "dict",none,.dict es ep,#[]⟩) (h:sx a es tab=true):pj K mg x tab:=⟨a,es,ep,hm,l,h⟩
def sv (tab:List (Str×Int)):List (Str×KTD.Dat):=(tab.map fun p=>(p.1,PySem.PyData.int p.2)).map fun p=>(p.1,KTD.Dat.flat p.2)
theorem jV {K:Fg} {h:Heap} {a:Addr} {es:Array DictEntry} {ep:Nat} {tab:List (Str×Int)} (hk:K.In h) (l:K.lookup a=some ⟨.type "dict",none,.dict es ep,#[]⟩) (hb:sx a es tab=true):KTD.Here h h a (sv tab):=by
 unfold sx at hb;simp only [Bool.and_eq_true,Bool.not_eq_true'] at hb
 refine ⟨KTD.TabOf.text ⟨hb.1,_,es,ep,hk a _ l,⟨rfl,rfl,rfl⟩,rfl,KTD.rows_of_look (fun d v z=>KTD.flat_of_looks z) hb.2⟩,fun b o z=>z⟩
theorem Jg (k:Str):∀tab:List (Str×Int),KTD.datumAt k (sv tab)=(bC k tab).map fun i=>KTD.Dat.flat (.int i)
 | []=>rfl
 | (x,i)::r=>by
  have ih:=Jg k r
  unfold sv at ih ⊢
  simp only [map_cons,KTD.datumAt,bC]
  by_cases e:k=x
  ·simp [e]
  ·simp [e]
   simpa using ih
theorem kU {h:Heap} {k:Str} {P:Value->Prop} {i:Int} (hp:∀t,P (.int i t)):∀tab:List (Str×Int),bC k tab=some i->KTD.EachL h k P (sv tab)
 | [],_=>trivial
 | [(x,j)],e=>fun hx=>by
  simp only [bC,hx,if_true,Option.some.injEq] at e
  subst e;exact hp
 | (x,j)::q::r,e=>by
  show (if decide (k=x)=true then KTD.Opened h P (.flat (.int j)) else KTD.EachL h k P (sv (q::r)))
  by_cases hx:k=x
  ·rw [if_pos (decide_eq_true hx)]
   rw [bC,if_pos hx] at e
   cases e;exact hp
  ·rw [if_neg (by simp [hx])]
   rw [bC,if_neg hx] at e;exact kU hp (q::r) e
def vc (neg:Bool) (tab:List (Str×Int)) (fa:F1):F1:=aK fa fun p Γ=>match p.d with
 | .str k=>.ok ⟨.leaf,.bool (if neg then !(bC k tab).isSome else (bC k tab).isSome)⟩ Γ
 | _=>.no
def oY (tab:List (Str×Int)) (fa:F1):F1:=aK fa fun p Γ=>match p.d with
 | .str k=>(match bC k tab with
  | some i=>.ok ⟨.leaf,.int i⟩ Γ
  | none=>.no)
 | _=>.no
section
variable {K:Fg} {W:XW} {σ:St} {H:Hp} {Q:VK} {fa:F1}
theorem Bg {neg:Bool} {tab:List (Str×Int)} (h:tE K W (vc neg tab fa) σ H Q):tE K W fa σ H fun x H1=>∃k,x=.str k/\Q (.bl (if neg then !(bC k tab).isSome else (bC k tab).isSome)) H1:=by
 refine vX h fun He O Fs Γ1 p v H1 G Fs1 nd A w=>?_
 obtain ⟨s,d⟩:=p;have r:=A.own.rep
 cases r with
 | str k=>exact ⟨k,rfl,Wants.scal w (.bl _) A.same A.env (fun a ha=>LN _ ha) nd A.newF⟩
 | _=>exact w.elim
theorem xp {tab:List (Str×Int)} (h:tE K W (oY tab fa) σ H Q):tE K W fa σ H fun x H1=>∃k i,x=.str k/\bC k tab=some i/\Q (.int i) H1:=by
 refine vX h fun He O Fs Γ1 p v H1 G Fs1 nd A w=>?_
 obtain ⟨s,d⟩:=p;have r:=A.own.rep
 cases r with
 | str k=>
  have w:Wants K W He O Fs H σ Q (match bC k tab with | some i=>.ok ⟨.leaf,.int i⟩ Γ1 | none=>.no):=w
  cases e:bC k tab with
  | none=>rw [e] at w;exact w.elim
  | some i=>
   rw [e] at w;exact ⟨k,i,rfl,e,Wants.scal w (.int _) A.same A.env (fun a ha=>LN _ ha) nd A.newF⟩
 | _=>exact w.elim
end
section
variable {X:Cx} {N gl:List Str} {vs cs ls lo gs:List Nat} {W:XW} {a b c e:Expr} {es:List Expr} {pos p:Pos} {fa fb fc:F1} {fl:FL} {g:FS}
theorem BV {x:Str} {tab:List (Str×Int)} (S:Cp X N gl vs cs ls lo gs) (j:Nat) (hj:gl[j]?=some x) (hg:gs.contains j=true) (Tb:C5 X x tab) (ha:PE X a (tE X.K W fa)):PC X .In a (.Name x p) (tE X.K W (vc false tab fa)):=by
 intro pins s σ H Q I h;obtain ⟨d,es,ep,hm,l,hb⟩:=Tb;refine bc (ha pins s σ H _ I (Bg h)) fun v s1 ⟨y,H1,I1,r1,k,ey,q⟩=>?_
 subst ey;obtain ⟨t,rfl⟩:=r1;refine F8 I1 (S.g hj hg).1 hm ?_ (S.g hj hg).2.1
 refine KTD.in_text (jV I1.kIn l hb) ?_
 refine ⟨.bl _,H1,I1.tok _,?_,q⟩
 rw [<-KTD.isSome_datumAt,Jg,Option.isSome_map];rfl
end
def LB (i:Nat) (q:PV) (Γ:Ev):Out PV:=match Γ[i]?,q.d with
 | some (some ⟨.lst .leaf,.list ds⟩),.int k=>(match cx ds.length k with
  | some j=>(match ds[j]? with
   | some d=>.ok ⟨.leaf,d⟩ Γ
   | none=>.no)
  | none=>.no)
 | _,_=>.no
section
variable {K:Fg} {W:XW} {σ:St} {H:Hp} {Q:VK} {D:cQ} {fa fb:F1} {fl:FL}
def mV (p:PV):Bool:=match p with
 | ⟨.lst .leaf,.list ds⟩=>ds.all aZ
 | _=>false
def zV (n:Nat) (den:List L4->Res) (fl:FL):F1:=fun Γ=>(fl Γ).bind fun ps Γ'=>if ps.length=n then (match den (ps.map (·.d)) with
 | .ok p=>if mV p then .ok p Γ' else .no
 | _=>.no) else .no
theorem tG {n:Nat} {den:List L4->Res} {E:XK} (h:tE K W (zV n den fl) σ H Q):sF (pN K n den) [] E (tA K W fl) σ H Q:=by
 obtain ⟨He,O,Fs,Γ,E0,h⟩:=h;refine ⟨He,O,Fs,Γ,E0,?_⟩
 unfold zV at h
 cases e:fl Γ with
 | er c Γ'=>rw [e] at h;exact h
 | no=>rw [e] at h;exact h
 | ok ps Γ1=>
  rw [e] at h;intro vs H1 Gs Fs1 A;have h:Wants K W He O Fs H σ Q (if ps.length=n then (match den (ps.map (·.d)) with | .ok p=>if mV p then .ok p Γ1 else .no | _=>.no) else .no):=h
  by_cases hn:ps.length=n
  case neg=>rw [if_neg hn] at h;exact h.elim
  rw [if_pos hn] at h;have hl:(vs++[]).length=n:=by rw [append_nil,A.len1];exact hn
  cases ed:den (ps.map (·.d)) with
  | er c=>rw [ed] at h;exact h.elim
  | no=>rw [ed] at h;exact h.elim
  | ok p=>
   rw [ed] at h;have h:Wants K W He O Fs H σ Q (if mV p then .ok p Γ1 else .no):=h
   have newF:∀a∈Fs1.flatten,a∈Fs.flatten\/H a=none:=fun a ha=>A.new a (LN _ ha)
   cases hc:mV p with
   | false=>rw [hc] at h;exact h.elim
   | true=>
    rw [hc] at h;have h:Wants K W He O Fs H σ Q (.ok p Γ1):=h
    refine ⟨hl,[],ps.map (·.d),nodup_nil,(fun _ z=>nomatch z),by rw [append_nil,HW];exact A.reps,?_⟩
    rw [ed];intro v H2 G r;unfold mV at hc;split at hc
    ·rename_i ds
     obtain ⟨l,us,rfl,rfl,hp,hul,hr⟩:=r.own.leaves;refine h (.ref l) H2 [l] Fs1 ⟨A.same.trans r.same,A.env.dropL.hide r.same r.nd r.fresh r.inH,fun a ha=>?_,Own.mkLeaves hp hul fun j u d e1 e2=>((hr j u d e1 e2).sc (List.all_eq_true.mp hc d (mem_of_getElem? e2))).rep⟩
     rcases LP ha with z | z
     ·exact .inr (A.same.free (r.fresh a z))
     ·exact newF a z
    ·cases hc
def vx (i:Nat) (a:Int) (p:PV) (Γ:Ev):cu:=match p.d with
 | .int b=>if i<Γ.length then .nx (Γ.set i (L5 (.int (a+b)))) else .no
 | _=>.no
def eB (i:Nat) (f:F1):FS:=fun Γ=>match Γ[i]? with
 | some (some ⟨.leaf,.int a⟩)=>d0 f (vx i a) Γ
 | _=>.no
theorem Bq {i:Nat} (h:tS K W (eB i fa) D σ H):Es i (tE K W fa) (Ln fun i j=>i+j) D σ H:=by
 obtain ⟨He,O,Fs,Γ,E,h⟩:=h;unfold eB at h;split at h
 ·rename_i a e0
  obtain ⟨_,v,F,h1,h2,h3⟩:=E.slot i _ e0;have r:=h3.rep
  cases r;refine ⟨.int a,h1,?_⟩
  refine cY (D:=D) (k:=vx i a) ⟨He,O,Fs,Γ,E,h⟩ fun He O Fs Γ1 p u H1 G Fs1 _ fr A w=>?_
  unfold vx at w;split at w
  ·rename_i b eb
   have r:=A.own.rep
   rw [eb] at r
   cases r;by_cases hi:i<Γ1.length
   ·rw [if_pos hi] at w
    exact ⟨a,b,rfl,rfl,w _ _ _ (EnvOk.put (G:=[]) (p:=⟨.leaf,.int (a+b)⟩) (v:=.int (a+b)) A.go (.leaf (.int _)) rfl (fun a ha=>by simp at ha) hi)⟩
   ·rw [if_neg hi] at w;exact w.elim
  ·exact w.elim
 ·exact h.elim
def CJ (i:Nat) (p:PV) (Γ:Ev):cu:=match Γ[i]?,p.d with
 | some (some ⟨.lst .leaf,.list ds⟩),.tuple es=>if bH p es&&decide (ds.length+es.length<=sizeLine) then .nx (Γ.set i (some ⟨.lst .leaf,.list (ds++es)⟩)) else .no
 | some (some ⟨.lst .leaf,.list ds⟩),.list es=>if bH p es&&decide (ds.length+es.length<=sizeLine) then .nx (Γ.set i (some ⟨.lst .leaf,.list (ds++es)⟩)) else .no
 | _,_=>.no
def je (i:Nat) (f:F1):FS:=fun Γ=>if zc Γ[i]? then d0 f (CJ i) Γ else .no
def Bz (K:Fg):V->List V->Hp->VK->Prop:=fun x vs H Q=>∃l b xs zs,x=.ref l/\vs=[.ref b]/\H l=some (.lst xs)/\(SqL K H b zs\/SqT K H b zs)/\xs.length+zs.length<=sizeLine/\Q .non (bb H l (.lst (xs++zs)))
theorem Bn {i:Nat} (h:tS K W (je i fa) D σ H):jX (Er K "list" (Bz K) (bI i) (tA K W (ab fa af))) D σ H:=by
 obtain ⟨He,O,Fs,Γ,E,h⟩:=h;unfold je at h
 cases ho:zc Γ[i]? with
 | false=>rw [ho] at h;exact h.elim
 | true=>
  rw [ho] at h;obtain ⟨ds,e0⟩:=gc ho;obtain ⟨l,vs,h1,h2,h3,_,_⟩:=E.chgF e0;refine ⟨.ref l,h1,.inl ⟨rfl,vs,.of h2⟩,C6 (cY (D:=D) ⟨He,O,Fs,Γ,E,h⟩ fun He O Fs Γ1 p v H1 G Fs1 _ fr A w=>?_)⟩
  obtain ⟨s,d⟩:=p;have fin:∀(ds1 es:List L4) (b:Addr) (ws:List V),Γ1[i]?=some (some ⟨.lst .leaf,.list ds1⟩)->v=.ref b->(SqL K H1 b ws\/SqT K H1 b ws)->Reps K (bt H1 (O++Fs1.flatten)) ws es->ds1.length+es.length<=sizeLine ->
    gF K W He O D (.nx (Γ1.set i (some ⟨.lst .leaf,.list (ds1++es)⟩)))->Bz K (.ref l) [v] H1 (fun _ H2=>D.nx σ H2):=fun ds1 es b ws e1 hv hq hr hz w=>by
   obtain ⟨l1,vs1,q1,q2,q3,q4,q5⟩:=A.go.chgF e1;rw [h1] at q1
   cases q1;subst hv;refine ⟨l,b,vs1,ws,rfl,rfl,q2,hq,by rw [q3,hr.1];exact hz,w σ _ _ (q5 (vs1++ws) (ds1++es) (by rw [length_append,length_append,q3,hr.1]) ?_)⟩
   exact (Reps.app ⟨q3,q4⟩ hr).2
  unfold CJ at w;split at w
  ·rename_i ds1 es e1 e2
   dsimp only at e2;subst e2
   cases hc:(bH ⟨s,.tuple es⟩ es&&decide (ds1.length+es.length<=sizeLine)) with
   | false=>rw [hc] at w;exact w.elim
   | true=>
    rw [hc] at w;simp only [Bool.and_eq_true,decide_eq_true_eq] at hc
    obtain ⟨b,ws,rfl,hq,_,hr⟩:=A.own.itemsT (O':=O++Fs1.flatten) hc.1 cU A.disj
    exact fin ds1 es b ws e1 rfl (.inr hq) hr hc.2 w
  ·rename_i ds1 es e1 e2
   dsimp only at e2;subst e2
   cases hc:(bH ⟨s,.list es⟩ es&&decide (ds1.length+es.length<=sizeLine)) with
   | false=>rw [hc] at w;exact w.elim
   | true=>
    rw [hc] at w;simp only [Bool.and_eq_true,decide_eq_true_eq] at hc
    obtain ⟨b,ws,rfl,hq,_,hr⟩:=A.own.items (O':=O++Fs1.flatten) hc.1 cU A.disj
    exact fin ds1 es b ws e1 rfl (.inl hq) hr hc.2 w
  ·exact w.elim
end
theorem Ks {l b:Addr} {xs ys:Array Value} {n m:Nat} {d2:Option Addr} {s2:Array (Option Value)} (h0:¬(!xs.isEmpty&&Builtin.List.listTooLong (xs.size+ys.size))=true) (h1:xs.size<=sizeLine) (h2:(xs++ys).size<=sizeLine+1) :
  Meets (Builtin.«list.extend» ⟨[.ref l,.ref b],[]⟩) (fun _ R s=>s.heap.get? l=some ⟨.type "list",none,.seq xs n,#[]⟩/\s.heap.get? b=some ⟨.type "tuple",d2,.seq ys m,s2⟩ /\
   R (.ok (.ret Value.none)) { s with heap:=s.heap.update l (Obj.mapSeq fun x=>x++ys),toks:=s.toks }):=
 .of_wp fun prog w A R s h=>by
  obtain ⟨hp,g,d,tk,os⟩:=s;obtain ⟨hl,hb,h⟩:=h;have f1:=AutoSeq1.idx_int
  have f2:=AutoSeq1.sub_tuple_tuple
  have f3:=AutoSeq1.sub_list_list
  have f4:=AutoSeq1.sub_tuple_list
  have f5:=AutoSeq1.sub_list_tuple
  wp_walk using (wpAny_updateSeq hl rfl (hz:=h1) (_hz':=h2)),AutoSeq1.wpAny_loadPart' hl,AutoSeq1.wpAny_loadPart' hb
  exact ⟨_,rfl,h⟩
theorem Kt {l b:Addr} {xs ys:Array Value} {n m:Nat} {d2:Option Addr} {s2:Array (Option Value)} (h0:¬(!xs.isEmpty&&Builtin.List.listTooLong (xs.size+ys.size))=true) (h1:xs.size<=sizeLine) (h2:(xs++ys).size<=sizeLine+1) :
  Meets (Builtin.«list.extend» ⟨[.ref l,.ref b],[]⟩) (fun _ R s=>s.heap.get? l=some ⟨.type "list",none,.seq xs n,#[]⟩/\s.heap.get? b=some ⟨.type "list",d2,.seq ys m,s2⟩ /\
   R (.ok (.ret Value.none)) { s with heap:=s.heap.update l (Obj.mapSeq fun x=>x++ys),toks:=s.toks }):=
 .of_wp fun prog w A R s h=>by
  obtain ⟨hp,g,d,tk,os⟩:=s;obtain ⟨hl,hb,h⟩:=h;have f1:=AutoSeq1.idx_int
  have f2:=AutoSeq1.sub_tuple_tuple
  have f3:=AutoSeq1.sub_list_list
  have f4:=AutoSeq1.sub_tuple_list
  have f5:=AutoSeq1.sub_list_tuple
  wp_walk using (wpAny_updateSeq hl rfl (hz:=h1) (_hz':=h2)),AutoSeq1.wpAny_loadPart' hl,AutoSeq1.wpAny_loadPart' hb
  exact ⟨_,rfl,h⟩
theorem Ca {X:Cx}:KI X "list.extend" (Bz X.K):=by
 intro pins s σ H x vs v us Q I rx rv h;obtain ⟨l,b,xs,zs,rfl,rfl,hH,hB,hz,q⟩:=h
 cases rx;obtain ⟨u,rfl,ru⟩:=rv.one
 cases ru;obtain ⟨z,its,n,r,hl,e⟩:=I.lstM hH;have fin:∀its2:List Value,Vals zs its2->its.toArray.size+its2.toArray.size<=sizeLine/\(its.toArray++its2.toArray).size<=sizeLine+1/\its.toArray.size<=sizeLine/\¬(!its.toArray.isEmpty&&Builtin.List.listTooLong (its.toArray.size+its2.toArray.size))=true /\
   EP X pins σ Q Value.none { s with heap:=s.heap.update l (Obj.mapSeq fun x=>x++its2.toArray),toks:=s.toks }:=fun its2 r2=>by
  have h1:its.toArray.size+its2.toArray.size<=sizeLine:=by rw [size_toArray,size_toArray,<-r.length,<-r2.length];exact hz
  refine ⟨h1,by rw [Array.size_append];omega,by omega,?_,?_⟩
  ·rw [ux h1,Bool.and_false]
   exact Bool.false_ne_true
  ·exact ⟨.non,_,I.lset (its':=its++its2) hH e (by simp) (r.append r2) (by rw [length_append];exact hz),rfl,q⟩
 rcases hB with hB | hB
 ·obtain ⟨its2,r2,⟨⟨c2,d2,dat2,s2⟩,n2,e2,ec,ed,es⟩,_⟩:=I.list hB
  simp only at ec es
  subst ec es;obtain ⟨f1,f2,f3,f4,f5⟩:=fin its2 r2;exact call_meets F.slot_list_extend ⟨_,e,rfl⟩ F.entry_list_extend (F.args_list_extend_2 _ _) (Kt f4 f3 f2) ⟨e,e2,f5⟩
 ·obtain ⟨its2,r2,⟨⟨c2,d2,dat2,s2⟩,e2,ec,n2,es⟩,_⟩:=I.tuple hB
  simp only at ec es
  subst ec es;obtain ⟨f1,f2,f3,f4,f5⟩:=fin its2 r2;exact call_meets F.slot_list_extend ⟨_,e,rfl⟩ F.entry_list_extend (F.args_list_extend_2 _ _) (Ks f4 f3 f2) ⟨e,e2,f5⟩
section
variable {X:Cx} {N gl:List Str} {vs cs ls lo gs:List Nat} {W:XW} {a b c e:Expr} {es:List Expr} {pos p:Pos} {fa fb fc:F1} {fl:FL} {g:FS}
theorem cs_extend (S:Cp X N gl vs cs ls lo gs) (i:Nat) {x:Str} {apos cpos:Pos} (hi:N[i]?=some x) (hv:vs.contains i=true) (ha:PE X a (tE X.K W fa)) (hs:starEach [a] X.env=[(false,eval a X.env)])
  (hbase:attributeBase (.Name x p) "extend" X.env (eval (.Name x p) X.env)=eval (.Name x p) X.env) (hline:(apos.endLine==cpos.line)=true)
  (hfew:((backTo cpos (starEach [a] X.env)).all (fun x=>!x.1)&&(backToKw cpos (keywordEach [] X.env)).all (fun x=>x.1.isSome)
   && decide ([a].length+([]:List Keyword).length+(if ([]:List Keyword).isEmpty then 0 else 1)<30))=true)
  (hsw:swapsWith (.Call (.Attribute (.Name x p) "extend" apos) [a] [] cpos) none pos.line X.env=pure false) :
  PS X (.Expr (.Call (.Attribute (.Name x p) "extend" apos) [a] [] cpos) pos) (tS X.K W (je i fa)):=by
 have m:=S.nm x (mem_of_getElem? hi)
 exact bN (Ga (oC PySem.F.plainAttrs_list PySem.F.slot_list_extend PySem.F.type_list_extend Ca (y4 (by rw [S.hN];exact hi) (S.vis i x hi hv) m.1 m.2) (da_cons ha da_nil hs) hbase hfew hline hs rfl) hsw) fun _ _ _=>Bn
theorem Fi {P:Program} {w:World} {K:Fg} {mg:Str->Option Value} {base:Heap} {k:Nat} {f:Addr} {fd:FuncData} {ps:List Str}:dw P w K mg base nB k f fd ps (pN K ps.length fun _=>.no):=
 ⟨fun vs H Q E h=>h.1,fun A outer s H args us vs Q E hr he hb hv h=>by
  obtain ⟨_,_,_,_,_,_,w⟩:=h;exact w.elim⟩
end
end T
namespace TQ
open PySem PySem.Spec L2 T
open PyProof.Rows hiding St
section
variable {X:Cx} {N gl:List Str} {vs cs ls lo gs:List Nat} {W:XW} {a b c e:Expr} {es:List Expr} {pos p:Pos} {fa fb fc:F1} {fl:FL} {ga gb:FB} {g1 g2 g:FS}
theorem Gr (ha:Q (PE X a (tE X.K W fa))) (hb:Q (PE X b (tE X.K W fb))):Q (PE X (.BinOp a .Add b pos) (tE X.K W (g5 fa fb))):=⟨have ha:=ha.p;have hb:=hb.p;aR (eJ oE ha hb) fun _ _ _=>Bo⟩
theorem r9 {p2:Pos} (ha:Q (PE X a (tE X.K W fa))) (hb:Q (PE X b (tE X.K W fb))):Q (PE X (.Subscript a (.Slice (some b) none none p2) pos) (tE X.K W (yw fa fb))):=⟨have ha:=ha.p;have hb:=hb.p;aR (Gp AM ha (DT hb) Ii) fun _ _ _=>A8⟩
theorem fI (S:Cp X N gl vs cs ls lo gs) (j:Nat) (hj:gl[j]?=some ("tuple":Str)) (hg:gs.contains j=true) (hm:X.mg "tuple"=none) (ha:Q (PE X e (tE X.K W fa))) (hs:starEach [e] X.env=[(false,eval e X.env)]):Q (PE X (.Call (.Name "tuple" p) [e] [] pos) (tE X.K W (zY fa))):=⟨have ha:=ha.p;aR (Jo ic (S.g hj hg).1 hm pb (da_cons ha da_nil hs) (by decide) (by decide) hs rfl) fun _ _ _=>tf⟩
theorem fJ {x:Str} {tab:List (Str×Int)} (S:Cp X N gl vs cs ls lo gs) (j:Nat) (hj:gl[j]?=some x) (hg:gs.contains j=true) (Tb:C5 X x tab) (ha:Q (PE X a (tE X.K W fa))):Q (PE X (.Compare a [.In] [.Name x p] pos) (tE X.K W (vc false tab fa))):=⟨have ha:=ha.p;BR (BV S j hj hg Tb ha) rfl⟩
theorem pI {x:Str} {tab:List (Str×Int)} (S:Cp X N gl vs cs ls lo gs) (j:Nat) (hj:gl[j]?=some x) (hg:gs.contains j=true) (Tb:C5 X x tab) (ha:Q (PE X a (tE X.K W fa))) (hs:Df a):Q (PE X (.Subscript (.Name x p) a pos) (tE X.K W (oY tab fa))):=⟨by
 have ha:=ha.p
 intro pins s σ H Q I h;obtain ⟨d,es,ep,hm,l,hb⟩:=Tb;refine Subscript_ (F8 I (S.g hj hg).1 hm ?_ (S.g hj hg).2.1)
 refine bc (ha pins s σ H _ I (xp h)) fun v s1 ⟨y,H1,I1,r1,k,i,ey,e,q⟩=>?_
 subst ey;obtain ⟨t,rfl⟩:=r1;refine KTD.item_text (jV I1.kIn l hb) ?_ (kU (fun t'=>⟨.int i,H1,I1.tok _,⟨_,rfl⟩,q⟩) tab e) (hs _ _)
 rw [<-KTD.isSome_datumAt,Jg,e];rfl⟩
theorem AC {x:Str} {n:Nat} {den:List L4->Res} (S:Cp X N gl vs cs ls lo gs) (j:Nat) (hj:gl[j]?=some x) (hg:gs.contains j=true) (C:FQ X x n den) (ha:Q (PA X (e::es) (tA X.K W fl))) (he:starEach (e::es) X.env=(false,eval e X.env)::starEach es X.env) (hpl:(backTo pos (starEach es X.env)).any (·.1)=false):Q (PE X (.Call (.Name x p) (e::es) [] pos) (tE X.K W (zV n den fl))):=⟨by
 have ha:=ha.p
 obtain ⟨k,f,fd,ps,F,hr,hm,hk,hb⟩:=C;exact aR (oB F hr (S.g hj hg).1 hm hk hb .nil zE ha (S.g hj hg).2.1 he hpl) fun _ _ _=>tG⟩
theorem jL (S:Cp X N gl vs cs ls lo gs) (i:Nat) {x:Str} {pos':Pos} (hi:N[i]?=some x) (hl:ls.contains i=true) (ha:Q (PE X a (tE X.K W fa))):Q (PS X (.AugAssign (.Name x pos') .Add a pos) (tS X.K W (eB i fa))):=⟨have ha:=ha.p;bN (BK (by rw [S.hN];exact S.nd) (by rw [S.hN];exact hi) (S.loc i x hi hl).1 ha Cr (S.loc i x hi hl).2) fun _ _ _=>Bq⟩
theorem jK (S:Cp X N gl vs cs ls lo gs) (i:Nat) {x:Str} {apos cpos:Pos} (hi:N[i]?=some x) (hv:vs.contains i=true) (ha:Q (PE X a (tE X.K W fa))) (hs:starEach [a] X.env=[(false,eval a X.env)]) (hbase:attributeBase (.Name x p) "extend" X.env (eval (.Name x p) X.env)=eval (.Name x p) X.env) (hline:(apos.endLine==cpos.line)=true) (hfew:((backTo cpos (starEach [a] X.env)).all (fun x=>!x.1)&&(backToKw cpos (keywordEach [] X.env)).all (fun x=>x.1.isSome)
   && decide ([a].length+([]:List Keyword).length+(if ([]:List Keyword).isEmpty then 0 else 1)<30))=true) (hsw:swapsWith (.Call (.Attribute (.Name x p) "extend" apos) [a] [] cpos) none pos.line X.env=pure false):Q (PS X (.Expr (.Call (.Attribute (.Name x p) "extend" apos) [a] [] cpos) pos) (tS X.K W (je i fa))):=⟨T.cs_extend S i hi hv ha.p hs hbase hline hfew hsw⟩
theorem jI {tg:Expr} (ha:Q (PE X a (tE X.K W fa))):Q (PI X tg a (tI X.K W (cZ fa))):=⟨have ha:=ha.p;lP (BL ha) fun _ _ _=>xn⟩
end
end TQ
namespace T
open PySem PySem.Spec L2
open PyProof.Rows hiding St
def u4 (neg:Bool):L4->L4->Option L4
 | .bool a,.bool b=>some (.bool (if neg then a != b else a==b))
 | _,_=>none
theorem xN {X:Cx}:OpR X (compareOp .IsNot) (fun x y H Q=>∃a b,x=.bl a/\y=.bl b/\Q (.bl (a != b)) H):=by
 intro pins s σ H x y v u Q I rx ry h;obtain ⟨a,b,rfl,rfl,q⟩:=h
 cases rx
 cases ry;exact isnot_bool (Da I q rfl)
theorem uY {K:Fg}:GOp K (fun x y H Q=>∃a b,x=.bl a/\y=.bl b/\Q (.bl (a != b)) H) (u4 true):=by
 intro x y H Q a b d ra rb e k
 cases ra<;>cases rb<;>simp only [u4] at e<;>try cases e
 exact ⟨_,_,rfl,rfl,k _ (.bl _)⟩
theorem BE {X:Cx} (R:Rm X):Ck X .IsNot (fun x y H Q=>∃a b,x=.bl a/\y=.bl b/\Q (.bl (a != b)) H) (u4 true):=⟨xN,uY⟩
def qF (neg:Bool):L4->L4->Option L4
 | .str i,.str j=>some (.bool (if neg then !(!(Builtin.Str.occurrences j i 0 j.length 1).isEmpty) else !(Builtin.Str.occurrences j i 0 j.length 1).isEmpty))
 | _,_=>none
theorem yj {K:Fg}:GOp K (fun x y H Q=>∃i j,x=.str i/\y=.str j/\Q (.bl (!(Builtin.Str.occurrences j i 0 j.length 1).isEmpty)) H) (qF false):=by
 intro x y H Q a b d ra rb e k
 cases ra<;>cases rb<;>simp only [qF] at e<;>try cases e
 exact ⟨_,_,rfl,rfl,k _ (.bl _)⟩
theorem EM {X:Cx} (R:Rm X):Ck X .In (fun x y H Q=>∃i j,x=.str i/\y=.str j/\Q (.bl (!(Builtin.Str.occurrences j i 0 j.length 1).isEmpty)) H) (qF false):=⟨qi,yj⟩
def HD (x:Str):It where
 go:=fun i _=>i<x.cps.size
 yld:=fun i H v H'=>H'=H/\∃c,x.cps[i]?=some c/\v=.str ⟨#[c]⟩
 stop:=fun i _=>x.cps.size<=i
theorem pK {P:Program} {w:World} {K:Fg} {tg:Expr} (it:Addr) (x:Str) (t:Tok):rq P w K tg (HD x) [it] it (fun i h=>h.IsStrIter it "str_ascii_iterator" x t i) where
 mem:=by simp
 obj:=fun i h st b hb=>by
  have e:b=it:=by simpa using hb
  subst e;obtain ⟨o,ho,hc,hd⟩:=st;exact ⟨o,ho,fun v z=>by rw [hd] at z;cases z⟩
 keep:=fun i h h' st k=>let ⟨o,ho,r⟩:=st;⟨o,k it (by simp) o ho,r⟩
 item:=by
  intro X hP hw hK hc i pins s σ H E I hf st hg;subst hP hw hK;obtain ⟨f0,f1,f2,f3,f4,f5⟩:=hf it (by simp)
  have W:=Walks.strAscii (prog:=X.prog) (w:=X.w) (I.ok.hd hc) it x t
  refine W.item i s _ _ hg st fun v h' tk hv st' kk=>?_
  obtain ⟨c,u,hx,rfl⟩:=hv;have I1:Inv X pins σ H { s with heap:=h',toks:=tk }:=I.turned (fun b o hb e=>kk b o (by simpa using hb) e) f0 f1 f3 f4 f5
  obtain ⟨o,ho,oc,od⟩:=id st'
  exact ⟨_,rfl,oU (s:={ s with heap:=h',toks:=tk }) (n := "str_ascii_iterator") ho oc od (by decide) ⟨.str ⟨#[c]⟩,H,I1,⟨u,rfl⟩,⟨rfl,c,hx,rfl⟩,st',fun b hb=>(hf b hb).1⟩⟩
 done:=by
  intro X hP hw hK hc i pins s σ H E I hf st hg;subst hP hw hK;obtain ⟨f0,f1,f2,f3,f4,f5⟩:=hf it (by simp)
  exact wpAny_pyNext_ascii_end (I.ok.hd hc) st (by have:x.cps.size<=i:=hg;simp;omega) fun h' eb=>⟨rfl,I.turned (t':=s.toks) (fun b o hb e=>eb b o hb e) f0 f1 f3 f4 f5⟩
 self:=fun _ _ _ _ _ st h=>wpAny_pyIter_striter_ascii st h
def uS (x:Str):TI:=fun σ H R=>R (HD x) H
theorem xG {X:Cx} {tg:Expr} {x:Str} {j:Nat} {pos:Pos} (ha:x.cps.all (·<128)=true):PI X tg (.Constant (.str x) j pos) (uS x):=by
 intro pins s σ H R I h;refine Calls.Constant_str ?_
 refine wpAny_pyIter_ascii ha ?_
 have I1:=I.tok (s.toks+1)
 refine ⟨s.heap.objs.size,[s.heap.objs.size],_,_,H,rfl,I1.kept (t':=s.toks+1) fun b o e=>L1 _ e,pK _ x _,⟨_,Heap.get?_push_size _ rfl,rfl,rfl⟩,fun b hb=>?_,h⟩
 have e:b=s.heap.objs.size:=by simpa using hb
 subst e;exact I1.fpOk (L3 _) (I1.hok.fresh (L3 _))
def zP (x:Str):List V:=x.cps.toList.map fun c=>.str ⟨#[c]⟩
def Fp (x:Str):List L4:=x.cps.toList.map fun c=>.str ⟨#[c]⟩
theorem yd {x:Str}:vF (HD x) (fun _=>True) (zP x):=by
 refine ⟨fun i H v _ hv=>?_,fun H _=>?_⟩
 ·unfold zP at hv
  rw [getElem?_map,Array.getElem?_toList] at hv
  cases e:x.cps[i]? with
  | none=>rw [e] at hv;cases hv
  | some c=>
   rw [e] at hv
   cases hv;refine ⟨(Array.getElem?_eq_some_iff.mp e).1,fun y H' ⟨h1,c',h2,h3⟩=>⟨h1,?_⟩⟩
   rw [e] at h2
   cases h2;exact h3
 ·show x.cps.size<=(zP x).length
  unfold zP;rw [length_map,Array.length_toList];exact L3 _
theorem xa {K:Fg} {H:Hp} {x:Str}:Reps K H (zP x) (Fp x):=by
 refine ⟨by simp [zP,Fp],fun i v d h1 h2=>?_⟩
 unfold zP at h1;unfold Fp at h2;rw [getElem?_map] at h1 h2
 cases e:x.cps.toList[i]? with
 | none=>rw [e] at h1;cases h1
 | some c=>
  rw [e] at h1 h2
  cases h1
  cases h2;exact .str _
def gj (x:Str):FI:=fun Γ=>.ok ⟨Fp x,true⟩ Γ
theorem tu {K:Fg} {W:XW} {σ:St} {H:Hp} {R:It->Hp->Prop} {x:Str} (h:tI K W (gj x) σ H R):uS x σ H R:=by
 obtain ⟨He,O,Fs,Γ,E,h⟩:=h;exact h (HD x) H Fs (zP x) (fun _=>True) (Same.refl _) E (fun a ha=>.inl ha) yd trivial (fun _ _=>trivial) (fun _ _ _=>trivial) xa
def om:V->List V->Hp->VK->Prop:=fun x xs H Q=>∃(i j:Str) (k:Nat) (rest:List Nat),x=.str i/\xs=[.str j]/\Builtin.Str.occurrences i j 0 i.length 1=k::rest/\Q (.int k) H
theorem qw {X:Cx}:KH X "str.index" om:=by
 intro pins s σ H x xs v us Q I rx rv h;obtain ⟨i,j,k,rest,rfl,rfl,ho,q⟩:=h;obtain ⟨t,rfl⟩:=rx;obtain ⟨u,rfl,ru⟩:=rv.one;obtain ⟨t',rfl⟩:=ru;exact SC.index ho ⟨.int k,H,I.tok _,⟨_,rfl⟩,q⟩
def dJ (x:Str):List L4->Option L4
 | [.str j]=>match Builtin.Str.occurrences x j 0 x.length 1 with
  | k::_=>some (.int k)
  | []=>none
 | _=>none
theorem yn {K:Fg} {x:Str}:GCall K (fun xs H Q=>om (.str x) xs H Q) (dJ x):=by
 intro vs H Q ds d rs e k;unfold dJ at e;split at e
 ·rename_i j
  obtain ⟨v,rfl,r⟩:=rs.one
  cases r;split at e
  ·rename_i k' rest ho
   cases e;exact ⟨x,j,k',rest,rfl,rfl,ho,k _ (.int _)⟩
  ·cases e
 ·cases e
theorem xm {K:Fg} {W:XW} {σ:St} {H:Hp} {Q:VK} {x:Str} {fl:FL} (h:tE K W (ba (dJ x) fl) σ H Q):Er K "str" om (tC (.str x)) (tA K W fl) σ H Q:=
 ⟨rfl,tF yn h⟩
theorem ce_idxS {X:Cx} {W:XW} {x:Str} {j:Nat} {p apos cpos:Pos} {e:Expr} {fe:F1} (ha:PE X e (tE X.K W fe)) (hs:starEach [e] X.env=[(false,eval e X.env)]) (hline:(apos.endLine==cpos.line)=true) :
  PE X (.Call (.Attribute (.Constant (.str x) j p) "index" apos) [e] [] cpos) (tE X.K W (ba (dJ x) (ab fe af))):=
 aR (oC (T := "str") (r:=om) F.plainAttrs_str F.slot_str_index F.type_str_index qw ub (da_cons ha da_nil hs) rfl (by rw [hs];rfl) hline hs rfl) fun _ _ _=>xm
end T
namespace TQ
open PySem PySem.Spec L2 T
open PyProof.Rows hiding St
theorem pB {X:Cx} {W:XW} {tg:Expr} {x:Str} {j:Nat} {pos:Pos} (ha:x.cps.all (·<128)=true):Q (PI X tg (.Constant (.str x) j pos) (tI X.K W (gj x))):=⟨lP (xG ha) fun _ _ _=>tu⟩
theorem pH {X:Cx} {W:XW} {x:Str} {j:Nat} {p apos cpos:Pos} {e:Expr} {fe:F1} (ha:Q (PE X e (tE X.K W fe))) (hs:starEach [e] X.env=[(false,eval e X.env)]) (hline:(apos.endLine==cpos.line)=true) :
  Q (PE X (.Call (.Attribute (.Constant (.str x) j p) "index" apos) [e] [] cpos) (tE X.K W (ba (dJ x) (ab fe af)))):=⟨T.ce_idxS ha.p hs hline⟩
end TQ
namespace T
open PySem PySem.Spec L2
open PyProof.Rows hiding St
def putN:List Nat->List PV->Ev->Option Ev
 | [],[],Γ=>some Γ
 | i::is,p::ps,Γ=>if decide (i<Γ.length)&&!p.s.isView then putN is ps (Γ.set i (some p)) else none
 | _,_,_=>none
def wX:List Nat->List V->St->St
 | i::is,v::vs,σ=>wX is vs (σ.set i (some v))
 | _,_,σ=>σ
def xA:List Sh->List L4->List PV
 | s::ss,d::ds=>⟨s,d⟩::xA ss ds
 | _,_=>[]
def AD (p:PV):Option (List PV):=match p.s,p.d with
 | .tup ss,.tuple ds=>some (xA ss ds)
 | .leaf,.tuple ds=>some (ds.map fun d=>⟨.leaf,d⟩)
 | _,_=>none
def iC (is:List Nat) (f:F1):FS:=d0 f fun p Γ=>match AD p with
 | some ps=>if ps.length=is.length then (match putN is ps Γ with
  | some Γ'=>.nx Γ'
  | none=>.no) else .no
 | none=>.no
def HP:List Nat->zS
 | []=>yq
 | i::is=>iO (bJ i) (HP is)
theorem Ja {H:Hp} {Q:St->Hp->Prop}:∀{is:List Nat} {vs:List V} {σ:St},vs.length=is.length->Q (wX is vs σ) H->HP is vs σ H Q
 | [],[],_,_,q=>⟨rfl,q⟩
 | i::is,v::vs,σ,hl,q=>⟨v,vs,rfl,Ja (is:=is) (vs:=vs) (by simpa using hl) q⟩
 | [],_::_,_,hl,_=>by simp at hl
 | _::_,[],_,hl,_=>by simp at hl
section
variable {K:Fg} {W:XW} {σ:St} {H:Hp} {D:cQ} {fa:F1}
theorem Gq {He:Hp} {O:List Addr}:∀{is:List Nat} {ps:List PV} {vs:List V} {Gs:List (List Addr)} {Fs:List (List Addr)} {σ:St} {Γ Γ':Ev},vs.length=ps.length->Gs.length=ps.length->EnvOk K He (Gs.flatten++O) Fs H σ Γ->(∀a∈Gs.flatten,He a=none) ->
  (∀(k:Nat) v p G,vs[k]?=some v->ps[k]?=some p->Gs[k]?=some G->Own K (Gs.flatten++O++Fs.flatten) H p.s G v p.d)->putN is ps Γ=some Γ'->∃Fs',EnvOk K He O Fs' H (wX is vs σ) Γ'
 | [],[],[],[],Fs,σ,Γ,Γ',_,_,E,_,_,h=>by
  cases h;exact ⟨Fs,by simpa [wX] using E⟩
 | i::is,p::ps,v::vs,G::Gs,Fs,σ,Γ,Γ',h1,h2,E,fr,o,h=>by
  unfold putN at h;split at h
  ·rename_i hc
   simp only [Bool.and_eq_true,decide_eq_true_eq,Bool.not_eq_true'] at hc
   obtain ⟨hi,n1⟩:=hc;have fl:(G::Gs).flatten++O=G++(Gs.flatten++O):=by simp [append_assoc]
   rw [fl] at E o
   have E1:=EnvOk.put (i:=i) E (o 0 v p G rfl rfl rfl) n1 (fun a ha=>fr a (by simp [ha])) hi
   refine Gq (is:=is) (ps:=ps) (vs:=vs) (Gs:=Gs) (by simpa using h1) (by simpa using h2) E1 (fun a ha=>fr a (LN G ha)) (fun k v' p' G' a1 a2 a3=>?_) h
   refine (o (k+1) v' p' G' (by simpa using a1) (by simpa using a2) (by simpa using a3)).perm fun a ha=>?_
   rcases LP ha with z | z
   ·exact LO _ (LN _ z)
   ·obtain ⟨F,hF⟩:=E.lt hi
    rcases LP ((jG (G:=G) hF).mem_iff.mp (LN _ z)) with y | y
    ·exact LO _ (LO _ y)
    ·exact LN _ y
  ·cases h
 | [],_::_,_,_,_,_,_,_,_,_,_,_,_,h=>by cases h
 | _::_,[],_,_,_,_,_,_,_,_,_,_,_,h=>by cases h
 | [],[],_::_,_,_,_,_,_,h,_,_,_,_,_=>by simp at h
 | [],[],[],_::_,_,_,_,_,_,h,_,_,_,_=>by simp at h
 | _::_,_::_,[],_,_,_,_,_,h,_,_,_,_,_=>by simp at h
 | _::_,_::_,_::_,[],_,_,_,_,_,h,_,_,_,_=>by simp at h
theorem ou:∀{ss:List Sh} {ds:List L4},ss.length=ds.length->(xA ss ds).length=ds.length
 | [],[],_=>rfl
 | _::ss,_::ds,h=>by simp only [xA,length_cons];rw [ou (ss:=ss) (ds:=ds) (by simpa using h)]
 | [],_::_,h=>by simp at h
 | _::_,[],h=>by simp at h
theorem tP:∀{ss:List Sh} {ds:List L4} {k:Nat} {p:PV},(xA ss ds)[k]?=some p->ss[k]?=some p.s/\ds[k]?=some p.d
 | [],_,k,p,h=>by simp [xA] at h
 | _::_,[],k,p,h=>by simp [xA] at h
 | s::ss,d::ds,0,p,h=>by
  simp only [xA,List.getElem?_cons_zero,Option.some.injEq] at h
  subst h;exact ⟨rfl,rfl⟩
 | s::ss,d::ds,k+1,p,h=>by
  simp only [xA,List.getElem?_cons_succ] at h ⊢
  exact tP h
theorem Ik {n:Nat}:(List.replicate n ([]:List Addr)).flatten=[]:=by
 induction n with
 | zero=>rfl
 | succ n ih=>rw [List.replicate_succ,flatten_cons,ih];rfl
theorem xc {is:List Nat} (h:tS K W (iC is fa) D σ H):jZ (tE K W fa) (yo K is.length (HP is)) D σ H:=by
 refine cY h fun He O Fs Γ1 p v H1 G Fs1 _ fr A w=>?_
 obtain ⟨s,d⟩:=p;have o:=A.own
 have E:=A.env
 dsimp only at w o
 cases hu:AD ⟨s,d⟩ with
 | none=>rw [hu] at w;exact w.elim
 | some ps=>
  rw [hu] at w;dsimp only at w;by_cases hl:ps.length=is.length
  ·rw [if_pos hl] at w
   cases hp:putN is ps Γ1 with
   | none=>rw [hp] at w;exact w.elim
   | some Γ'=>
    rw [hp] at w
    cases o with
    | view r=>cases hu
    | lst=>cases hu
    | leaf r=>
     cases d with
     | tuple ds=>
      cases hu
      cases r with
      | @tup a vs _ hq hlen hr=>
       obtain ⟨Fs',E'⟩:=Gq (is:=is) (vs:=vs) (Gs:=List.replicate ds.length []) (Fs:=Fs1) (by rw [hlen,length_map]) (by rw [List.length_replicate,length_map]) (by rw [Ik];exact E) (by rw [Ik];intro a ha;simp at ha) (fun k v' p' G' a1 a2 a3=>by
        rw [Ik];rw [getElem?_map] at a2
        cases ed:ds[k]? with
        | none=>rw [ed] at a2;cases a2
        | some d'=>
         rw [ed] at a2
         cases a2;have:G'=[]:=List.eq_of_mem_replicate (mem_of_getElem? a3)
         subst this;exact .leaf (hr k v' d' a1 ed)) hp
       exact ⟨a,vs,rfl,cP hid_le hq,by rw [hlen];simpa using hl,Ja (by rw [hlen];simpa using hl) (w _ _ _ E')⟩
     | _=>cases hu
    | @tup ss a vs ds Fs0 hv hpa hn hlen hf hs nd q=>
     cases hu;have pl:=ou hs
     obtain ⟨Fs',E'⟩:=Gq (is:=is) (vs:=vs) (Gs:=Fs0) (Fs:=Fs1) (by rw [hlen,pl]) (by rw [hf,pl]) E fr (fun k v' p' G' a1 a2 a3=>by
      obtain ⟨z1,z2⟩:=tP a2;exact q k v' p'.d G' p'.s a1 z2 a3 z1) hp
     have hn2:vs.length=is.length:=by rw [hlen,<-pl];exact hl
     exact ⟨a,vs,rfl,.of hpa,hn2,Ja hn2 (w _ _ _ E')⟩
  ·rw [if_neg hl] at w
   exact w.elim
end
section
variable {X:Cx} {N gl:List Str} {vs cs ls lo gs:List Nat} {W:XW} {a:Expr} {pos:Pos} {fa:F1}
theorem cs_unp2 (S:Cp X N gl vs cs ls lo gs) (i j:Nat) {x y:Str} {px py pt:Pos} {kt:Nat} (hi:N[i]?=some x) (hj:N[j]?=some y) (li:ls.contains i=true) (lj:ls.contains j=true) (ha:PE X a (tE X.K W fa))
  (hs:swapsWithSole [.Tuple [.Name x px,.Name y py] kt pt] a pos.line X.env=pure false) (hw:swappedStores [.Tuple [.Name x px,.Name y py] kt pt] a X.env=pure none) :
  PS X (.Assign [.Tuple [.Name x px,.Name y py] kt pt] a pos) (tS X.K W (iC [i,j] fa)):=by
 have hN:X.N.Nodup:=by rw [S.hN];exact S.nd
 exact bN (tW ha (Iu S.calm (Dn (rL hN (by rw [S.hN];exact hi) (S.loc i x hi li).1 (S.loc i x hi li).2) (Dn (rL hN (by rw [S.hN];exact hj) (S.loc j y hj lj).1 (S.loc j y hj lj).2) Ie))) hs hw) fun _ _ _=>xc (is:=[i,j])
end
end T
namespace TQ
open PySem PySem.Spec L2 T
open PyProof.Rows hiding St
variable {X:Cx} {N gl:List Str} {vs cs ls lo gs:List Nat} {W:XW} {a:Expr} {pos:Pos} {fa:F1}
theorem pC (S:Cp X N gl vs cs ls lo gs) (i j:Nat) {x y:Str} {px py pt:Pos} {kt:Nat} (hi:N[i]?=some x) (hj:N[j]?=some y) (li:ls.contains i=true) (lj:ls.contains j=true) (ha:Q (PE X a (tE X.K W fa)))
  (hs:swapsWithSole [.Tuple [.Name x px,.Name y py] kt pt] a pos.line X.env=pure false) (hw:swappedStores [.Tuple [.Name x px,.Name y py] kt pt] a X.env=pure none) :
  Q (PS X (.Assign [.Tuple [.Name x px,.Name y py] kt pt] a pos) (tS X.K W (iC [i,j] fa))):=⟨T.cs_unp2 S i j hi hj li lj ha.p hs hw⟩
end TQ
namespace T
open PySem PySem.Spec L2
open PyProof.Rows hiding St
def cutD (xs:List L4) (lo hi:Option Int):List L4:=(xs.drop (HT.sIx xs.length 0 lo)).take (HT.sIx xs.length xs.length hi-HT.sIx xs.length 0 lo)
theorem Reps.take {K:Fg} {H:Hp} {vs:List V} {ds:List L4} (k:Nat) (h:Reps K H vs ds):Reps K H (vs.take k) (ds.take k):=by
 refine ⟨by rw [length_take,length_take,h.1],fun i v d e1 e2=>?_⟩
 by_cases hi:i<k
 ·rw [getElem?_take,if_pos hi] at e1 e2
  exact h.2 _ v d e1 e2
 ·rw [getElem?_take,if_neg hi] at e1
  cases e1
theorem Reps.cut {K:Fg} {H:Hp} {vs:List V} {ds:List L4} (lo hi:Option Int) (h:Reps K H vs ds):Reps K H (ib vs lo hi) (cutD ds lo hi):=by
 unfold ib cutD;rw [h.1];exact (h.drop _).take _
def cg (g:Int->Option Int×Option Int) (fa fb:F1):F1:=aK fa fun p=>aK fb fun q=>fun Γ=>match p.d,q.d with
 | .list xs,.int k=>if bH p xs then .ok ⟨.lst .leaf,.list (cutD xs (g k).1 (g k).2)⟩ Γ else .no
 | _,_=>.no
section
variable {K:Fg} {W:XW} {σ:St} {H:Hp} {Q:VK} {fa fb:F1}
theorem Iz {g:Int->Option Int×Option Int} (h:tE K W (cg g fa fb) σ H Q):tE K W fa σ H fun v H1=>tE K W fb σ H1 fun u H2=>∃k,u=.int k/\Bw K v (g k).1 (g k).2 H2 Q:=by
 refine C7 (R:=fun v u H2=>∃k,u=.int k/\Bw K v (g k).1 (g k).2 H2 Q) h fun He O Fs Γ2 p q v u H1 H2 G1 G2 Fs2 nd s1 s2 E new o1 o2 w=>?_
 obtain ⟨s,d⟩:=p;obtain ⟨s',d'⟩:=q;dsimp only at w o1 o2
 split at w
 ·rename_i xs k
  cases hc:bH ⟨s,.list xs⟩ xs with
  | false=>rw [hc] at w;exact w.elim
  | true=>
   rw [hc] at w;obtain ⟨d1,d2⟩:=CS E.nd;obtain ⟨p1,vs,rfl,q1,_,r1⟩:=o1.items (O':=O++Fs2.flatten) hc wO d1
   have ru:=o2.rep
   cases ru;exact ⟨k,rfl,p1,vs,rfl,q1,fun p' hp'=>w _ _ _ _ (DV (E.drop (fun a ha=>LN _ (LN _ ha)) nd) (s1.trans s2) (fun a ha=>new a (LN _ (LN _ ha))) (r1.cut _ _) hp')⟩
 ·exact w.elim
end
end T
namespace TQ
open PySem PySem.Spec L2 T
open PyProof.Rows hiding St
variable {X:Cx} {W:XW} {a b:Expr} {fa fb:F1} {p2 pos:Pos}
theorem Dq (ha:Q (PE X a (tE X.K W fa))) (hb:Q (PE X b (tE X.K W fb))):Q (PE X (.Subscript a (.Slice none (some b) none p2) pos) (tE X.K W (cg (fun k=>(none,some k)) fa fb))):=⟨have ha:=ha.p;have hb:=hb.p;aR (Gp IQ ha Ii (DT hb)) fun _ _ _=>Iz⟩
theorem jM (ha:Q (PE X a (tE X.K W fa))) (hb:Q (PE X b (tE X.K W fb))):Q (PE X (.Subscript a (.Slice (some b) none none p2) pos) (tE X.K W (cg (fun k=>(some k,none)) fa fb))):=⟨have ha:=ha.p;have hb:=hb.p;aR (Gp IQ ha (DT hb) Ii) fun _ _ _=>Iz⟩
theorem lY {n:Int} {j:Nat} {p1 p3:Pos} (ha:Q (PE X a (tE X.K W fa))) (hb:Q (PE X b (tE X.K W fb))):Q (PE X (.Subscript a (.Slice (some b) (some (.UnaryOp .USub (.Constant (.int n) j p1) p3)) none p2) pos) (tE X.K W (cg (fun k=>(some k,some (-n))) fa fb))):=⟨have ha:=ha.p;have hb:=hb.p;aR (Gp IQ ha (DT hb) (DT (zC sg ud))) fun σ H Q h=>by
  refine IR (Iz h) fun v H1 q1=>IR q1 fun u H2 q2=>?_
  obtain ⟨k,rfl,q⟩:=q2;exact ⟨k,rfl,n,rfl,-n,rfl,q⟩⟩
variable {X:Cx} {N gl:List Str} {vs cs ls lo gs:List Nat} {W:XW} {e a:Expr} {fe fa:F1} {p pos:Pos}
variable {X:Cx} {N gl:List Str} {vs cs ls lo gs:List Nat} {W:XW} {a:Expr} {pos p:Pos} {fa:F1}
variable {X:Cx} {N gl:List Str} {vs cs ls lo gs:List Nat} {W:XW} {a:Expr} {pos p:Pos} {fa:F1}
end TQ
namespace T
open PySem PySem.Spec L2
open PyProof.Rows hiding St
theorem Dj:(1000:Nat)<=sizeLine:=by decide
theorem Jq {i:Nat} {fc:FB} {fe:F1} {s:Sh} {c:D->Bool} {f:D->PV} {Γ:Ev} (hΓ:Γ.set i none=Γ):∀(r acc:List D),(∀d∈r,fc (Γ.set i (L5 d))=.ok (c d) (Γ.set i (L5 d))) ->
  (∀d∈r,c d=true->fe (Γ.set i (L5 d))=.ok (f d) (Γ.set i (L5 d))/\coer s (f d)=true)->acc.length+r.length<=sizeLine->pq i fc fe s r Γ acc=.ok (acc++((r.filter c).map fun d=>(f d).d)) Γ
 | [],acc,_,_,_=>by simp [pq]
 | d::r,acc,hc,he,hl=>by
  have h1:=hc d mem_cons_self
  have hl1:acc.length<sizeLine:=by simp at hl;omega
  have back:(Γ.set i (L5 d)).set i none=Γ:=by rw [set_set];exact hΓ
  rw [pq,h1]
  cases hcd:c d with
  | false=>
   dsimp only;rw [if_pos hl1,back,Jq hΓ r acc (fun d hd=>hc d (LW _ hd)) (fun d hd=>he d (LW _ hd)) (by simp at hl;omega)]
   rw [List.filter_cons_of_neg (by rw [hcd];exact Bool.false_ne_true)]
  | true=>
   obtain ⟨h2,h3⟩:=he d mem_cons_self hcd;dsimp only;rw [h2];dsimp only;rw [h3,decide_eq_true hl1,Bool.and_self,if_pos rfl,back,Jq hΓ r (acc++[(f d).d]) (fun d hd=>hc d (LW _ hd)) (fun d hd=>he d (LW _ hd)) (by simp at hl ⊢;omega)]
   rw [List.filter_cons_of_pos hcd,map_cons,append_assoc];rfl
theorem gp {s:Sh} {i:Nat} {fi:FI} {fc:FB} {fe:F1} {c:D->Bool} {f:D->PV} {ds:List D} {st:Bool} {Γ:Ev} (hi:fi Γ=.ok ⟨ds,st⟩ Γ) (hl:i<Γ.length) (hs:s.isView=false) (hn:ds.length<=1000)
  (hc:∀d∈ds,fc (Γ.set i (L5 d))=.ok (c d) (Γ.set i (L5 d))) (he:∀d∈ds,c d=true->fe (Γ.set i (L5 d))=.ok (f d) (Γ.set i (L5 d))/\coer s (f d)=true) :
  ax s i fi fc fe Γ=.ok ⟨.lst s,.list ((ds.filter c).map fun d=>(f d).d)⟩ Γ:=by
 have hb:=Dj
 unfold ax;rw [hi];unfold Out.bind;dsimp only;rw [Jq (c:=c) (f:=f) (by rw [set_set]) ds [] (fun d hd=>by rw [set_set];exact hc d hd) (fun d hd=>by rw [set_set];exact he d hd) (by simp;omega)]
 dsimp only;rw [hs,decide_eq_true hl];simp only [Bool.not_false,Bool.and_self,if_true,nil_append,set_set]
 have:Γ.set i (Γ.getD i none)=Γ:=by
  apply rO
  rw [LU,LR hl];rfl
 rw [this]
theorem Dm {s:Sh} {i:Nat} {fi:FI} {fe:F1} {f:D->PV} {ds:List D} {st:Bool} {Γ:Ev} (hi:fi Γ=.ok ⟨ds,st⟩ Γ) (hl:i<Γ.length) (hs:s.isView=false) (hn:ds.length<=1000)
  (he:∀d∈ds,fe (Γ.set i (L5 d))=.ok (f d) (Γ.set i (L5 d))/\coer s (f d)=true) :
  ax s i fi aC fe Γ=.ok ⟨.lst s,.list (ds.map fun d=>(f d).d)⟩ Γ:=by
 rw [gp (fc:=aC) (c:=fun _=>true) (f:=f) hi hl hs hn (fun d hd=>rfl) fun d hd _=>he d hd,List.filter_eq_self.mpr fun _ _=>rfl]
theorem ID {P:Nat->Ev->Prop} {i:Nat} {body:FS}:∀(ds:List D) (n:Nat) (Γ:Ev),P n Γ->(∀k d Γ,d∈ds->n<=k->k<n+ds.length->P k Γ->i<Γ.length/\∃Γ',body (Γ.set i (L5 d))=.nx Γ'/\P (k+1) Γ')->∃Γ',bp i body ds Γ=.nx Γ'/\P (n+ds.length) Γ'
 | [],n,Γ,h,_=>⟨Γ,rfl,h⟩
 | d::r,n,Γ,h,st=>by
  obtain ⟨hi,Γ1,e1,h1⟩:=st n d Γ mem_cons_self (L3 _) (by simp) h
  obtain ⟨Γ2,e2,h2⟩:=ID r (n+1) Γ1 h1 fun k d Γ hd a b c=>st k d Γ (LW _ hd) (by omega) (by simp;omega) c
  refine ⟨Γ2,?_,?_⟩
  ·rw [bp,if_pos hi,e1]
   exact e2
  ·rw [length_cons,show n+(r.length+1)=n+1+r.length by omega]
   exact h2
theorem IE {any:Bool} {α:Type} {xs:List α} {f:α->Bool}:rH (xs.map fun x=>.bool (f x))=some (xs.map f):=by
 induction xs with
 | nil=>rfl
 | cons x r ih=>rw [map_cons,rH,ih];rfl
theorem wc {α:Type} {xs:List α} {f:α->Bool}:bK false [.list (xs.map fun x=>.bool (f x))]=some (.bool (xs.all f)):=by
 show Option.map _ (rH _)=_
 rw [IE (any:=false)];simp [List.all_map]
section
variable {Γ Γ1 Γ2:Ev} {fa fb fc:F1} {fl:FL} {p q:PV} {ps:List PV} {d e:D} {s s' s2:Sh} {i j n:Nat}
theorem aw (h:Γ[i]?=some (L5 d)):ae i Γ=.ok ⟨.leaf,d⟩ Γ:=by unfold ae;rw [h]
theorem cz (h:Γ[i]?=some (some ⟨.lst s,d⟩)):ae i Γ=.ok ⟨.view,d⟩ Γ:=by unfold ae;rw [h]
theorem C8 (h:Γ[i]?=some (some p)):bx i Γ=.ok p (Γ.set i none):=by unfold bx;rw [h]
theorem aO:eK d Γ=.ok ⟨.leaf,d⟩ Γ:=rfl
theorem aE {g:D->D->Option D} (ha:fa Γ=.ok p Γ1) (hb:fb Γ1=.ok q Γ2) (hg:g p.d q.d=some d):az g fa fb Γ=.ok ⟨.leaf,d⟩ Γ2:=by
 unfold az aK;rw [ha];simp only [Out.bind];rw [hb];simp only [hg]
theorem KU {g:D->Option D} (ha:fa Γ=.ok p Γ1) (hg:g p.d=some d):eU g fa Γ=.ok ⟨.leaf,d⟩ Γ1:=by
 unfold eU aK;rw [ha];simp only [Out.bind,hg]
theorem aq (ha:fa Γ=.ok p Γ1) (hl:fl Γ1=.ok ps Γ2):ab fa fl Γ=.ok (p::ps) Γ2:=by
 unfold ab;rw [ha];simp only [Out.bind];rw [hl]
theorem ah:af Γ=.ok [] Γ:=rfl
theorem bD {g:List D->Option D} (hl:fl Γ=.ok ps Γ1) (hg:g (ps.map (·.d))=some d):ba g fl Γ=.ok ⟨.leaf,d⟩ Γ1:=by
 unfold ba;rw [hl];simp only [Out.bind];rw [hg]
theorem bq {den:List D->Res} (hl:fl Γ=.ok ps Γ1) (hd:den (ps.map (·.d))=.ok p) (hn:ps.length=n) (hc:ps.all (coer .leaf)=true):ag n den fl Γ=.ok p Γ1:=by
 unfold ag;rw [hl];simp only [Out.bind,hn,hd,hc,if_true]
theorem vK {ds:List D} {k:Int} (ha:fa Γ=.ok ⟨s,.list ds⟩ Γ1) (hb:fb Γ1=.ok ⟨s',.int k⟩ Γ2) (hi:cx ds.length k=some j) (hd:ds[j]?=some d) (hs:lQ s j d=some s2):ai fa fb Γ=.ok ⟨s2,d⟩ Γ2:=by
 unfold ai aK;rw [ha];simp only [Out.bind];rw [hb];simp only [hi,hd,hs]
theorem vY {ds:List D} {k:Int} (ha:fa Γ=.ok ⟨s,.tuple ds⟩ Γ1) (hb:fb Γ1=.ok ⟨s',.int k⟩ Γ2) (hi:cx ds.length k=some j) (hd:ds[j]?=some d) (hs:lQ s j d=some s2):ai fa fb Γ=.ok ⟨s2,d⟩ Γ2:=by
 unfold ai aK;rw [ha];simp only [Out.bind];rw [hb];simp only [hi,hd,hs]
theorem sf {x:Str} {k:Int} {c:Nat} (ha:fa Γ=.ok ⟨s,.str x⟩ Γ1) (hb:fb Γ1=.ok ⟨s',.int k⟩ Γ2) (hn:x.length<=sizeLine) (hi:cn x.cps.toList k=some c):ai fa fb Γ=.ok ⟨.leaf,.str ⟨#[c]⟩⟩ Γ2:=by
 unfold ai aK;rw [ha];simp only [Out.bind];rw [hb];simp only [hi,hn,if_true]
theorem rG (hl:fl Γ=.ok ps Γ1) (hs:s.isView=false) (hc:ps.all (coer s)=true) (hn:decide (ps.length<=1000)=true):aW s fl Γ=.ok ⟨.lst s,.list (ps.map (·.d))⟩ Γ1:=by
 have h2:ps.length<=sizeLine:=Nat.le_trans (of_decide_eq_true hn) Dj
 unfold aW;rw [hl];simp only [Out.bind,hs,hc,decide_eq_true h2,Bool.not_false,Bool.and_self,if_true]
theorem bw (hl:fl Γ=.ok ps Γ1) (hc:ps.all tok=true) (hn:decide (ps.length<=1000)=true):bg fl Γ=.ok ⟨.tup (ps.map zo),.tuple (ps.map (·.d))⟩ Γ1:=by
 have h2:ps.length<=sizeLine:=Nat.le_trans (of_decide_eq_true hn) Dj
 unfold bg;rw [hl];simp only [Out.bind,hc,decide_eq_true h2,Bool.and_self,if_true]
theorem jR {ds:List D} (ha:fa Γ=.ok ⟨s,.list ds⟩ Γ1) (ho:bH ⟨s,.list ds⟩ ds=true):zb fa Γ=.ok ⟨.lst .leaf,.list ds⟩ Γ1:=by
 unfold zb aK;rw [ha];simp only [Out.bind,ho,if_true]
theorem v_and {a b:Bool} (ha:fa Γ=.ok ⟨s,.bool a⟩ Γ) (hb:fb Γ=.ok ⟨.leaf,.bool b⟩ Γ):d7 fa fb Γ=.ok ⟨.leaf,.bool (a&&b)⟩ Γ:=by
 unfold d7 aK;rw [ha];simp only [Out.bind]
 cases a with
 | false=>rfl
 | true=>exact hb
theorem nM {g g':D->D->Option D} {b b':Bool} (ha:fa Γ=.ok p Γ) (hb:fb Γ=.ok q Γ) (hg:g p.d q.d=some (.bool b)) (hs:aZ q.d=true) {z:PV} (hc:fc Γ=.ok z Γ) (hg':g' q.d z.d=some (.bool b')):yZ g g' fa fb fc Γ=.ok ⟨.leaf,.bool (b&&b')⟩ Γ:=by
 unfold yZ aK;rw [ha];simp only [Out.bind];rw [hb];simp only [hg]
 cases b with
 | false=>rfl
 | true=>simp only [hs,if_true,hc,hg',Bool.true_and]
theorem fG (ha:fa Γ=.ok ⟨s,.bool b⟩ Γ1):aP av fa Γ=.ok b Γ1:=by unfold aP;rw [ha];rfl
theorem gC (ha:fa Γ=.ok ⟨s,.bool b⟩ Γ1):aP bu fa Γ=.ok b Γ1:=by unfold aP;rw [ha];rfl
theorem lN {ga:FB} {b:Bool} (h:ga Γ=.ok b Γ1):du ga Γ=.ok (!b) Γ1:=by unfold du;rw [h];rfl
theorem zR {ga gb:FB} {a b:Bool} (ha:ga Γ=.ok a Γ) (hb:gb Γ=.ok b Γ):d9 ga gb Γ=.ok (a&&b) Γ:=by
 unfold d9;rw [ha];simp only [Out.bind]
 cases a with
 | false=>rfl
 | true=>exact hb
theorem yP {ga gb:FB} {a b:Bool} (ha:ga Γ=.ok a Γ) (hb:gb Γ=.ok b Γ):jC ga gb Γ=.ok (a||b) Γ:=by
 unfold jC;rw [ha];simp only [Out.bind]
 cases a with
 | false=>exact hb
 | true=>rfl
theorem bB {ds:List D} (ha:fa Γ=.ok ⟨s,.list ds⟩ Γ1) (ho:bH ⟨s,.list ds⟩ ds=true):aN fa Γ=.ok ⟨ds,!s.isView⟩ Γ1:=by
 unfold aN;rw [ha];simp only [Out.bind,ho,if_true]
theorem pA {k:Int} (hl:fl Γ=.ok ps Γ1) (hp:ps.map (·.d)=[.int k]) (h0:-1000<=k) (h1:k<=100000):dz fl Γ=.ok ⟨bA 0 k.toNat,true⟩ Γ1:=by
 have h3:bV k=true:=by unfold bV;simp only [Bool.and_eq_true,decide_eq_true_eq];omega
 unfold dz;rw [hl];simp only [Out.bind,hp,gP,h3,if_true]
theorem AB {k m:Int} (hl:fl Γ=.ok ps Γ1) (hp:ps.map (·.d)=[.int k,.int m]) (h0:-1000<=k) (h1:k<=100000) (h2:-1000<=m) (h4:m<=100000):rE fl Γ=.ok ⟨bA k (m-k).toNat,true⟩ Γ1:=by
 have h3:bV k=true:=by unfold bV;simp only [Bool.and_eq_true,decide_eq_true_eq];omega
 have h5:bV m=true:=by unfold bV;simp only [Bool.and_eq_true,decide_eq_true_eq];omega
 unfold rE;rw [hl];simp only [Out.bind,hp,pW,h3,h5,Bool.and_self,if_true]
theorem ay {g1 g2:FS} {o:cu} (h1:g1 Γ=.nx Γ1) (h2:g2 Γ1=o):ak g1 g2 Γ=o:=by unfold ak;rw [h1];exact h2
theorem vZ {g1 g2:FS} (h1:g1 Γ=.rt p):ak g1 g2 Γ=.rt p:=by unfold ak;rw [h1]
theorem bF {c:FB} {a b:FS} {t:Bool} {o:cu} (hc:c Γ=.ok t Γ1) (ht:t=true->a Γ1=o) (hf:t=false->b Γ1=o):b7 c a b Γ=o:=by
 unfold b7;rw [hc]
 cases t with
 | true=>exact ht rfl
 | false=>exact hf rfl
theorem aS (h:fa Γ=.ok p Γ1) (hs:p.s.isView=false):aF fa Γ=.rt p:=by
 unfold aF d0;rw [h];simp only [hs];rfl
theorem cD (h:fa Γ=.ok p Γ1) (hc:coer .leaf p=true) (hi:i<Γ1.length):aA false i fa Γ=.nx (Γ1.set i (L5 p.d)):=by
 unfold aA d0;rw [h];simp only [hi,if_true,hc,Bool.false_and];rfl
theorem Ac (h:fa Γ=.ok p Γ1) (hs:p.s.isView=false) (hi:i<Γ1.length):aA true i fa Γ=.nx (Γ1.set i (some p)):=by
 unfold aA d0;rw [h];simp only [hi,if_true,hs,Bool.true_and,Bool.not_false]
theorem Gx {ds:List D} (ho:Γ[i]?=some (some ⟨.lst s,.list ds⟩)) (h:fa Γ=.ok p Γ) (hc:coer s p=true) (hn:ds.length<=900):cX i fa Γ=.nx (Γ.set i (some ⟨.lst s,.list (ds++[p.d])⟩)):=by
 have h2:ds.length<sizeLine:=Nat.lt_of_lt_of_le (by omega:ds.length<1000) Dj
 unfold cX De;rw [ho];simp only [if_true];unfold d0;rw [h];simp only;unfold yS;rw [ho];simp only [hc,decide_eq_true h2,Bool.and_self,if_true]
theorem Aw {ds:List D} {k:Int} (ho:Γ[i]?=some (some ⟨.lst .leaf,.list ds⟩)) (h:fa Γ=.ok p Γ) (hk:fb Γ=.ok ⟨s,.int k⟩ Γ) (hi:cx ds.length k=some j) (hc:coer .leaf p=true):dG i fa fb Γ=.nx (Γ.set i (some ⟨.lst .leaf,.list (ds.set j p.d)⟩)):=by
 unfold dG zc;rw [ho];simp only [if_true];unfold d0;rw [h];simp only;rw [hk];simp only;unfold AU;rw [ho];simp only [hi,hc,if_true]
theorem Ee {g:FS} {o:cu} (h:Γ[i]?=some (some p)) (hg:g (Γ.set i (L5 p.d))=o):pV i g Γ=o:=by unfold pV;rw [h];exact hg
theorem eh {fi:FI} {body:FS} {ds:List D} {o:cu} (h:fi Γ=.ok ⟨ds,true⟩ Γ1) (hg:bp i body ds Γ1=o):cJ i fi body Γ=o:=by unfold cJ;rw [h];exact hg
end
end T
namespace KC
open PySem PySem.Spec L2 T
open PyProof.Rows hiding St
def zj:L4:=.tuple [.str "a",.str "b",.str "c",.str "d",.str "e",.str "f"]
def Ao:L4:=.tuple [.int 0,.int 1]
def JD:L4:=.int 24
def G5:L4:=.int 200
def G4:L4:=.int 24
def vQ:L4:=.tuple [.str "some until",.str "all until"]
def zh:L4:=.tuple [.str "some always",.str "all always"]
def Dt:L4:=.tuple [.str "some next",.str "some until",.str "all always"]
def Gh:List (Str×Int):=[("yes",0),("not",1),("some next",1),("all next",1),("some always",1),("all always",1),("and",2),("or",2),("some until",2),("all until",2)]
def lg:FS:=(aF (ba (bK false) (ab (ax .leaf 1 (rE (ab (eK (.int 1)) (ab (ba aV (ab (ae 0) af)) af))) aC (az iN (ai (ae 0) (az gSub (ae 1) (eK (.int 1)))) (ai (ae 0) (ae 1)))) af)))
def GJ:List L4->Res:=aB 2 lg
def lA:FS:=(aF (d7 (ba (bK false) (ab (ax .leaf 1 (aN (ae 0)) aC (az (bh false) (ae 1) (eK zj))) af)) (ag 1 GJ (ab (ae 0) af))))
def GG:List L4->Res:=aB 2 lA
def lz:FS:=(aF (d7 (ba (bK false) (ab (ax .leaf 2 (aN (ae 0)) aC (yZ DE iN (eK (.int 0)) (ae 2) (ae 1))) af)) (ag 1 GJ (ab (ae 0) af))))
def Jr:List L4->Res:=aB 3 lz
def lq:FS:=(aF (d7 (az qG (ba aV (ab (ae 0) af)) (eK (.int 0))) (ag 2 Jr (ab (ae 0) (ab (ae 1) af)))))
def GH:List L4->Res:=aB 2 lq
def m7:FS:=(ak (aA false 3 (ba aV (ab (ae 0) af)))
  (ak (b7 (jC (aP av (az iN (ae 3) (eK (.int 1)))) (jC (aP av (az qG (ae 3) (eK JD))) (jC (aP av (az qE (ba aV (ab (ae 1) af)) (ae 3))) (aP av (az qE (ba aV (ab (ae 2) af)) (ae 3)))))) (aF (eK (.bool false))) aQ)
  (ak (b7 (du (aP bu (ba (bK false) (ab (ax .leaf 4 (aN (ae 0)) aC (az (bh false) (ae 4) (eK Ao))) af)))) (aF (eK (.bool false))) aQ)
  (aF (d7 (ba (bK false) (ab (ax .leaf 5 (aN (ae 1)) aC (ag 1 GG (ab (ae 5) af))) af)) (ba (bK false) (ab (ax .leaf 5 (aN (ae 2)) aC (ag 2 GH (ab (ae 5) (ab (ae 3) af)))) af)))))))
def GM:List L4->Res:=aB 6 m7
def ia:FS:=(b7 (du (aP bu (ag 3 GM (ab (ai (ae 0) (eK (.int 0))) (ab (ai (ae 0) (eK (.int 1))) (ab (ai (ae 0) (eK (.int 2))) af)))))) Ez aQ)
def Aq:List L4->Res:=aB 1 ia
def D5:FS:=(aF (rF (aP av (az bE (ai (ae 0) (eK (.int 0))) (eK (.str "mark")))) (bg af) (yw (ae 0) (eK (.int 1)))))
def lV:List L4->Res:=aB 1 D5
def D6:FS:=(ak (b7 (jC (du (aP bu (vb "tuple" (ae 0)))) (jC (aP av (az bE (ba aV (ab (ae 0) af)) (eK (.int 0)))) (du (aP bu (vb "str" (ai (ae 0) (eK (.int 0)))))))) (aF (eK (.bool false))) aQ)
  (ak (b7 (aP av (az bE (ai (ae 0) (eK (.int 0))) (eK (.str "mark")))) (aF (d7 (az bE (ba aV (ab (ae 0) af)) (eK (.int 2))) (az (bh false) (ai (ae 0) (eK (.int 1))) (eK zj)))) aQ)
  (aF (d7 (vc false Gh (ai (ae 0) (eK (.int 0)))) (az bE (ba aV (ab (ae 0) af)) (az aJ (eK (.int 1)) (oY Gh (ai (ae 0) (eK (.int 0))))))))))
def wq:List L4->Res:=aB 1 D6
def cO:FS:=(ak (aA true 1 (aW .leaf af))
  (ak (cJ 2 (aN (ae 0))
  (je 1 (ag 1 lV (ab (ae 2) af))))
  (aF (bx 1))))
def G7:List L4->Res:=aB 3 cO
def eV:FS:=(ak (aA true 1 (aW .leaf af))
  (ak (aA false 2 (aW .leaf (ab (ae 0) af)))
  (ak (aA false 3 (eK (.int 0)))
  (ak (pw 1000 (aP bu (ae 2))
  (ak (eB 3 (ba aV (ab (ae 2) af)))
  (ak (b7 (jC (aP av (az qG (ae 3) (eK G5))) (jC (aP av (az bE (ba aV (ab (ae 1) af)) (eK G4))) (du (aP bu (ba (bK false) (ab (ax .leaf 4 (aN (ae 2)) aC (ag 1 wq (ab (ae 4) af))) af)))))) (aF (eK .none)) aQ)
  (ak (cX 1 (ae 2))
  (aA false 2 (ag 1 G7 (ab (ae 2) af)))))))
  (aF (bx 1))))))
def Js:List L4->Res:=aB 5 eV
def cj:FS:=(ak (aA false 1 (ag 1 Js (ab (ae 0) af)))
  (ak (b7 (aP av (az (cW false) (ae 1) (eK .none))) Ez aQ)
  (aF (ae 1))))
def JF:List L4->Res:=aB 2 cj
def ck:FS:=(bS (ag 1 JF (ab (ae 0) af)))
def JE:List L4->Res:=aB 1 ck
def dj:FS:=(aF (ax .leaf 2 (dz (ab (ba aV (ab (ai (ae 0) (eK (.int 0))) af)) af)) (aP av (az (bh true) (ae 2) (ae 1))) (ae 2)))
def GY:List L4->Res:=aB 3 dj
def lh:FS:=(aF (rF (aP bu (ae 0)) (ba (bK true) (ab (ae 1) af)) (ba (bK false) (ab (ae 1) af))))
def zd:List L4->Res:=aB 2 lh
def bW:FS:=(ak (b7 (aP av (az (bh false) (ai (ae 1) (eK (.int 0))) (eK vQ))) (aF (bg (ab (ai (ae 2) (eK (.int 0))) (ab (ai (ae 2) (eK (.int 1))) af)))) aQ)
  (aF (bg (ab (CM (ab (ba aV (ab (ai (ae 0) (eK (.int 0))) af)) af)) (ab (ag 2 GY (ab (ae 0) (ab (ai (ae 2) (eK (.int 0))) af))) af)))))
def Dw:List L4->Res:=aB 3 bW
def dh:FS:=(ak (aA true 4 (aW .leaf af))
  (ak (cJ 5 (aN (ae 2))
  (b7 (d9 (aP av (az (cW false) (ai (ae 3) (ae 5)) (eK .none))) (aP bu (ag 2 zd (ab (ai (ae 1) (ae 5)) (ab (ax .leaf 6 (aN (ai (ai (ae 0) (eK (.int 2))) (ae 5))) aC (az (cW true) (ai (ae 3) (ae 6)) (eK .none))) af))))) (cX 4 (ae 5)) aQ))
  (aF (bx 4))))
def Eb:List L4->Res:=aB 7 dh
def gz:FS:=(ak (aA true 4 (ax .leaf 8 (aN (ai (ae 0) (eK (.int 0)))) aC (eK .none)))
  (ak (aA false 5 (eK (.int 0)))
  (ak (aA false 6 (ae 3))
  (ak (pw 1000 (aP bu (ae 6))
  (ak (cJ 7 (aN (ae 6))
  (dG 4 (ae 5) (ae 7)))
  (ak (eB 5 (eK (.int 1)))
  (aA false 6 (zV 4 Eb (ab (ae 0) (ab (ae 1) (ab (ae 2) (ab (ae 4) af)))))))))
  (aF (bx 4))))))
def Jw:List L4->Res:=aB 9 gz
def Jk:FS:=(ak (aA false 3 (ai (ae 1) (eK (.int 0))))
  (ak (b7 (d9 (aP av (az (bh true) (ae 3) (eK vQ))) (aP av (az (bh true) (ae 3) (eK zh)))) (aF (eK .none)) aQ)
  (ak (aA false 4 (ag 3 Dw (ab (ae 0) (ab (ae 1) (ab (ae 2) af)))))
  (aF (ag 4 Jw (ab (ae 0) (ab (ax .leaf 5 (aN (ai (ae 0) (eK (.int 0)))) aC (az (bh false) (ae 3) (eK Dt))) (ab (ai (ae 4) (eK (.int 0))) (ab (ai (ae 4) (eK (.int 1))) af)))))))))
def As:List L4->Res:=aB 6 Jk
def rC:FS:=(ak (aA false 5 (ai (ae 1) (eK (.int 0))))
  (ak (b7 (aP av (az bE (ae 5) (eK (.str "yes")))) (aF (eK (.bool true))) aQ)
  (ak (b7 (aP av (az bE (ae 5) (eK (.str "mark")))) (aF (az (bh false) (ai (ae 1) (eK (.int 1))) (ai (ai (ae 0) (eK (.int 1))) (ae 4)))) aQ)
  (ak (b7 (aP av (az (bh false) (ae 5) (eK vQ))) (aF (az (cW true) (ai (ae 3) (ae 4)) (eK .none))) aQ)
  (ak (b7 (aP av (az (bh false) (ae 5) (eK zh))) (aF (az (cW false) (ai (ae 3) (ae 4)) (eK .none))) aQ)
  (ak (aA false 6 (ax .leaf 7 (aN (ae 2)) aC (az (bh false) (ae 4) (ae 7))))
  (ak (b7 (aP av (az bE (ae 5) (eK (.str "not")))) (aF (yx (ai (ae 6) (eK (.int 0))))) aQ)
  (ak (b7 (jC (aP av (az bE (ae 5) (eK (.str "and")))) (aP av (az bE (ae 5) (eK (.str "or"))))) (aF (rF (aP av (az bE (ae 5) (eK (.str "and")))) (ba (bK false) (ab (ae 6) af)) (ba (bK true) (ab (ae 6) af)))) aQ)
  (aF (ag 2 zd (ab (az (bh false) (ae 5) (eK Dt)) (ab (ax .leaf 8 (aN (ai (ai (ae 0) (eK (.int 2))) (ae 4))) aC (az (bh false) (ae 8) (ai (ae 2) (eK (.int 0))))) af))))))))))))
def GK:List L4->Res:=aB 9 rC
def gy:FS:=(aF (ax .leaf 4 (dz (ab (ba aV (ab (ai (ae 0) (eK (.int 0))) af)) af)) (aP bu (ag 5 GK (ab (ae 0) (ab (ae 1) (ab (ae 2) (ab (ae 3) (ab (ae 4) af))))))) (ae 4)))
def GN:List L4->Res:=aB 5 gy
def IC (r_judged:List L4->Res):FS:=(ak (aA false 2 (ax .leaf 3 (cZ (ag 1 lV (ab (ae 1) af))) aC (ag 2 r_judged (ab (ae 0) (ab (ae 3) af)))))
  (aF (ag 4 GN (ab (ae 0) (ab (ae 1) (ab (ae 2) (ab (ag 3 As (ab (ae 0) (ab (ae 1) (ab (ae 2) af)))) af)))))))
def Ak:Nat->List L4->Res
 | 0=>fun _=>.no
 | n+1=>aB 4 (IC (Ak n))
def DW:List L4->Res:=Ak 30
def gA:FS:=(ak (b7 (aP av (az iN (ae 1) (ba aV (ab (ae 0) af)))) (aF (ai (ae 0) (ae 1))) aQ)
  (aF (eK (.int 0))))
def nF:List L4->Res:=aB 2 gA
def lC:FS:=(ak (b7 (aP av (az mU (ae 0) (az yp (eK (.int 10)) (eK (.int 18))))) (ak (aA false 4 (ae 0))
  (ak (cJ 5 (dz (ab (ae 1) af))
  (aA false 4 (az u5 (ae 4) (ae 2))))
  (aF (az b8 (ae 4) (ae 2))))) aQ)
  (ak (aA false 3 (az b8 (az kP (az aJ (az aJ (az b8 (ae 0) (eK (.int 1000000007))) (az kP (eK (.int 1009)) (ae 1))) (eK (.int 17))) (eK (.int 69621))) (eK (.int 2147483647))))
  (ak (aA false 3 (az b8 (az aJ (az aJ (az kP (ae 3) (ae 3)) (az kP (eK (.int 40503)) (ae 1))) (eK (.int 5))) (eK (.int 2147483629))))
  (aF (az b8 (az u5 (az b8 (az kP (ae 3) (eK (.int 48271))) (eK (.int 2147483647))) (eK (.int 32))) (ae 2))))))
def bZ:List L4->Res:=aB 6 lC
def d__law_world:FS:=(ak (aA false 3 (az aJ (eK (.int 1)) (az b8 (ag 2 nF (ab (ae 0) (ab (ae 1) af))) (ae 2))))
  (ak (aA true 4 (aW .leaf af))
  (ak (aA true 5 (aW .leaf af))
  (ak (aA true 6 (aW .leaf af))
  (ak (cJ 7 (dz (ab (ae 3) af))
  (ak (aA false 8 (ag 2 nF (ab (ae 0) (ab (az aJ (az aJ (ae 1) (eK (.int 1))) (ae 7)) af))))
  (ak (cX 4 (ag 3 bZ (ab (ae 8) (ab (eK (.int 0)) (ab (eK (.int 2)) af)))))
  (ak (cX 5 (ax .leaf 11 (dz (ab (eK (.int 3)) af)) (aP av (az bE (ag 3 bZ (ab (ae 8) (ab (az aJ (eK (.int 1)) (ae 11)) (ab (eK (.int 2)) af)))) (eK (.int 1)))) (ai (eK (.str "abc")) (ae 11))))
  (ak (aA false 9 (ax .leaf 10 (dz (ab (ae 3) af)) (aP av (az bE (ag 3 bZ (ab (ae 8) (ab (az aJ (eK (.int 4)) (ae 10)) (ab (az aJ (eK (.int 2)) (ba mT (ab (az qG (ae 3) (eK (.int 3))) af))) af)))) (eK (.int 1)))) (ae 10)))
  (ak (b7 (aP av (az bE (ae 9) (aW .leaf af))) (aA false 9 (aW .leaf (ab (ag 3 bZ (ab (ae 8) (ab (az aJ (eK (.int 4)) (ae 3)) (ab (ae 3) af)))) af))) aQ)
  (cX 6 (ae 9))))))))
  (aF (bg (ab (bx 4) (ab (bx 5) (ab (bx 6) af))))))))))
def m__law_world:List L4->Res:=aB 12 d__law_world
open PySem.SeqAt
def Hu (a b:D):Bool:=match iN a b with
 | some (.bool t)=>t
 | _=>false
def gD (ds:List D):Prop:=∀a∈ds,∃n,a=.int n
def ie (ds:List D):Prop:=∀a∈ds,∃x,a=.str x/\PyData.strOk x=true
def Row (ds:List D):Prop:=gD ds\/ie ds
theorem Af (i:Int):shaped (.int i)=true:=by simp [shaped,PyData.canLay0,PyData.depth]
theorem sM {x:Str} (h:PyData.strOk x=true):shaped (.str x)=true:=by simp [shaped,PyData.canLay0,PyData.depth,h]
theorem Row.lt {ds:List D} {a b:D} (h:Row ds) (ha:a∈ds) (hb:b∈ds):iN a b=some (.bool (Hu a b))/\mU a b=some (.bool (!Hu a b)):=by
 rcases h with h | h
 ·obtain ⟨n,rfl⟩:=h a ha
  obtain ⟨m,rfl⟩:=h b hb;refine ⟨rfl,?_⟩
  show some (PyData.bool (decide (m<=n)))=some (.bool (!decide (n<m)))
  congr 2
  by_cases q:n<m
  ·simp [q,Int.not_le.mpr q]
  ·simp [q,Int.not_lt.mp q]
 ·obtain ⟨n,rfl,_⟩:=h a ha
  obtain ⟨m,rfl,_⟩:=h b hb;exact ⟨rfl,rfl⟩
def zG (ds:List D) (d:D):Bool:=match d with
 | .int j=>Hu (ds.getD (j-1).toNat .none) (ds.getD j.toNat .none)
 | _=>false
def eC (ds:List D):Bool:=(bA 1 ((ds.length:Int)-1).toNat).all (zG ds)
theorem DP {lo:Int} {n:Nat} {d:D} (h:d∈bA lo n):∃k:Nat,k<n/\d=.int (lo+k):=by
 unfold bA at h;simp only [mem_map,mem_range] at h
 obtain ⟨k,hk,e⟩:=h;exact ⟨k,hk,e.symm⟩
theorem Gc {lo:Int} {n:Nat}:(bA lo n).length=n:=by unfold bA;simp
theorem zZ {n:Nat} {k:Nat} (h:k<n):cx n (k:Int)=some k:=by
 unfold cx;rw [if_pos (by omega),if_pos (by omega)]
 simp
theorem E9 {n:Nat} {i:Int} (h0:0<=i) (h1:i<n):cx n i=some i.toNat:=by
 unfold cx;rw [if_pos h0,if_pos h1]
theorem Ct {i:Int} (h0:-1000<=i) (h1:i<=100000):bV i=true:=by
 unfold bV;simp only [Bool.and_eq_true,decide_eq_true_eq]
 omega
theorem FR {ds:List D} {k:Nat} (h:k<ds.length):ds[k]?=some (ds.getD k .none):=by
 rw [LU,LR h];rfl
theorem getD_mem {ds:List D} {k:Nat} (h:k<ds.length):ds.getD k .none∈ds:=mem_of_getElem? (FR h)
theorem E8 {ds:List D} {k:Nat} (h:Row ds) (hk:k<((ds.length:Int)-1).toNat):cx ds.length (1+(k:Int)-1)=some k/\cx ds.length (1+(k:Int))=some (k+1)/\ds[k]?=some (ds.getD k .none)/\ds[k+1]?=some (ds.getD (k+1) .none) /\
  iN (ds.getD k .none) (ds.getD (k+1) .none)=some (.bool (zG ds (.int (1+(k:Int)))))/\mU (ds.getD k .none) (ds.getD (k+1) .none)=some (.bool (!zG ds (.int (1+(k:Int))))):=by
 have h1:k<ds.length:=by omega
 have h2:k+1<ds.length:=by omega
 have l:=h.lt (getD_mem h1) (getD_mem h2)
 have e3:zG ds (.int (1+(k:Int)))=Hu (ds.getD k .none) (ds.getD (k+1) .none):=by
  unfold zG;dsimp only;rw [show (1+(k:Int)-1).toNat=k by omega,show (1+(k:Int)).toNat=k+1 by omega]
 rw [e3];exact ⟨by rw [show (1+(k:Int)-1)=k by omega];exact zZ h1,by rw [show (1+(k:Int))=((k+1:Nat):Int) by omega];exact zZ h2,FR h1,FR h2,l.1,l.2⟩
theorem aM {n:Nat} {g:FS} {ds:List D} {p:PV} (h:g (aI n ds)=.rt p):aB n g ds=.ok p:=by unfold aB;rw [h]
theorem eq_int {a b:Int}:bE (.int a) (.int b)=some (.bool (a==b)):=by
 unfold bE;rw [Af,Af,Bool.and_self,if_pos rfl,PyData.eqv]
theorem df {ds:List D} (h:Row ds) (hl:ds.length<=100):GJ [.list ds]=.ok ⟨.leaf,.bool (eC ds)⟩:=by
 have hc:ax .leaf 1 (rE (ab (eK (.int 1)) (ab (ba aV (ab (ae 0) af)) af))) aC (az iN (ai (ae 0) (az gSub (ae 1) (eK (.int 1)))) (ai (ae 0) (ae 1))) [L5 (.list ds),none] =
   .ok ⟨.lst .leaf,.list ((bA 1 ((ds.length:Int)-1).toNat).map fun d=>.bool (zG ds d))⟩ [L5 (.list ds),none]:=by
  refine Dm (f:=fun d=>⟨.leaf,.bool (zG ds d)⟩) (st:=true) (AB (k:=1) (m:=(ds.length:Int)) (aq aO (aq (bD (aq (aw rfl) ah) rfl) ah)) rfl (by omega) (by omega) (by omega) (by omega)) (by simp) rfl (by rw [Gc];omega) fun d hd=>⟨?_,rfl⟩
  obtain ⟨k,hk,rfl⟩:=DP hd;obtain ⟨e1,e2,e3,e4,e5,e6⟩:=E8 h hk;exact aE (vK (aw rfl) (aE (aw rfl) aO rfl) e1 e3 rfl) (vK (aw rfl) (aw rfl) e2 e4 rfl) e5
 exact aM (aS (bD (aq hc ah) wc) rfl)
def DD (a:D):Bool:=[PyData.str "a",.str "b",.str "c",.str "d",.str "e",.str "f"].any fun y=>PyData.eqv y a
def Fd (a:D):Bool:=[PyData.int 0,.int 1].any fun y=>PyData.eqv y a
def inR (n:Int) (a:D):Bool:=match a with
 | .int i=>decide (0<=i)&&decide (i<n)
 | _=>false
def DB (d:D):Bool:=match d with
 | .list xs=>xs.all DD&&eC xs
 | _=>false
def Hd (n:Int) (d:D):Bool:=match d with
 | .list xs=>decide (0<xs.length)&&(xs.all (inR n)&&eC xs)
 | _=>false
theorem AQ:shaped zj=true:=by decide +kernel
theorem Ew:shaped Ao=true:=by decide +kernel
theorem uR {x:Str} (hx:PyData.strOk x=true):bh false (.str x) zj=some (.bool (DD (.str x))):=by
 unfold bh zj;have:=AQ
 unfold zj at this;simp only [sM hx,this,Bool.and_self,if_true]
 rfl
theorem Fc {i:Int}:bh false (.int i) Ao=some (.bool (Fd (.int i))):=by
 unfold bh Ao;have:=Ew
 unfold Ao at this;simp only [Af,this,Bool.and_self,if_true]
 rfl
theorem hJ {ds:List D} (h:ie ds) (hl:ds.length<=100):GG [.list ds]=.ok ⟨.leaf,.bool (ds.all DD&&eC ds)⟩:=by
 have hc:ax .leaf 1 (aN (ae 0)) aC (az (bh false) (ae 1) (eK zj)) [L5 (.list ds),none]=.ok ⟨.lst .leaf,.list (ds.map fun d=>.bool (DD d))⟩ [L5 (.list ds),none]:=by
  refine Dm (f:=fun d=>⟨.leaf,.bool (DD d)⟩) (bB (aw rfl) rfl) (by simp) rfl (by omega) fun d hd=>⟨?_,rfl⟩
  obtain ⟨x,rfl,hx⟩:=h d hd;exact aE (aw rfl) aO (uR hx)
 exact aM (aS (v_and (bD (aq hc ah) wc) (bq (aq (aw rfl) ah) (df (.inr h) hl) rfl rfl)) rfl)
theorem chain_ev {i n:Int}:DE (.int 0) (.int i)=some (.bool (decide (0<=i)))/\iN (.int i) (.int n)=some (.bool (decide (i<n))):=⟨rfl,rfl⟩
theorem hE {ds:List D} {n:Int} (h:gD ds) (hl:ds.length<=100):Jr [.list ds,.int n]=.ok ⟨.leaf,.bool (ds.all (inR n)&&eC ds)⟩:=by
 have hc:ax .leaf 2 (aN (ae 0)) aC (yZ DE iN (eK (.int 0)) (ae 2) (ae 1)) [L5 (.list ds),L5 (.int n),none]=.ok ⟨.lst .leaf,.list (ds.map fun d=>.bool (inR n d))⟩ [L5 (.list ds),L5 (.int n),none]:=by
  refine Dm (f:=fun d=>⟨.leaf,.bool (inR n d)⟩) (bB (aw rfl) rfl) (by simp) rfl (by omega) fun d hd=>⟨?_,rfl⟩
  obtain ⟨i,rfl⟩:=h d hd;exact nM aO (aw rfl) (chain_ev (n:=n)).1 rfl (aw rfl) chain_ev.2
 exact aM (aS (v_and (bD (aq hc ah) wc) (bq (aq (aw rfl) ah) (df (.inl h) hl) rfl rfl)) rfl)
theorem g9 {ds:List D} {n:Int} (h:gD ds) (hl:ds.length<=100):GH [.list ds,.int n]=.ok ⟨.leaf,.bool (decide (0<ds.length)&&(ds.all (inR n)&&eC ds))⟩:=by
 have e:qG (.int (ds.length:Nat)) (.int 0)=some (.bool (decide (0<ds.length))):=by
  show some (PyData.bool (decide ((0:Int)<(ds.length:Int))))=_
  congr 2
  exact decide_eq_decide.mpr (by omega)
 exact aM (aS (v_and (aE (bD (aq (aw rfl) ah) rfl) aO e) (bq (aq (aw rfl) (aq (aw rfl) ah)) (hE h hl) rfl rfl)) rfl)
structure Wk (b:Nat) (os ms ss:List D):Prop where
 o:gD os
 m:∀r∈ms,∃xs,r=.list xs/\ie xs/\xs.length<=30
 s:∀r∈ss,∃xs,r=.list xs/\gD xs/\xs.length<=30
 lo:os.length<=b
 lm:ms.length<=b
 ls:ss.length<=b
def HA (os ms ss:List D):Bool:=decide ((os.length:Int)<1)||(decide ((24:Int)<os.length)||((!((ms.length:Int)==(os.length:Int)))||(!((ss.length:Int)==(os.length:Int)))))
def isW (os ms ss:List D):Bool:=!HA os ms ss&&(os.all Fd&&(ms.all DB&&ss.all (Hd os.length)))
theorem ne_int {a b:Int}:qE (.int a) (.int b)=some (.bool (!(a==b))):=by
 unfold qE;rw [Af,Af,Bool.and_self,if_pos rfl,PyData.eqv]
theorem js {b:Nat} {os ms ss:List D} (h:Wk b os ms ss) (hb:b<=100):GM [.list os,.list ms,.list ss]=.ok ⟨.leaf,.bool (isW os ms ss)⟩:=by
 have lo:=h.lo
 have lm:=h.lm
 have ls:=h.ls
 refine aM ?_
 refine ay (cD (bD (aq (aw rfl) ah) rfl) rfl (by simp [aI])) ?_
 have hif:(jC (aP av (az iN (ae 3) (eK (.int 1)))) (jC (aP av (az qG (ae 3) (eK JD))) (jC (aP av (az qE (ba aV (ab (ae 1) af)) (ae 3))) (aP av (az qE (ba aV (ab (ae 2) af)) (ae 3)))))) [L5 (.list os),L5 (.list ms),L5 (.list ss),L5 (.int (os.length:Nat)),none,none]
   = .ok (HA os ms ss) [L5 (.list os),L5 (.list ms),L5 (.list ss),L5 (.int (os.length:Nat)),none,none]:=
  yP (fG (aE (aw rfl) aO rfl)) (yP (fG (aE (aw rfl) aO rfl)) (yP (fG (aE (bD (aq (aw rfl) ah) rfl) (aw rfl) ne_int)) (fG (aE (bD (aq (aw rfl) ah) rfl) (aw rfl) ne_int))))
 cases hbad:HA os ms ss with
 | true=>
  rw [hbad] at hif;unfold isW;rw [hbad];exact vZ (bF hif (fun _=>aS aO rfl) nofun)
 | false=>
  rw [hbad] at hif;refine ay (bF hif nofun (fun _=>rfl)) ?_
  have c1:ax .leaf 4 (aN (ae 0)) aC (az (bh false) (ae 4) (eK Ao)) [L5 (.list os),L5 (.list ms),L5 (.list ss),L5 (.int (os.length:Nat)),none,none]
    = .ok ⟨.lst .leaf,.list (os.map fun d=>.bool (Fd d))⟩ [L5 (.list os),L5 (.list ms),L5 (.list ss),L5 (.int (os.length:Nat)),none,none]:=by
   refine Dm (f:=fun d=>⟨.leaf,.bool (Fd d)⟩) (bB (aw rfl) rfl) (by simp) rfl (by omega) fun d hd=>⟨?_,rfl⟩
   obtain ⟨i,rfl⟩:=h.o d hd;exact aE (aw rfl) aO Fc
  have c2:ax .leaf 5 (aN (ae 1)) aC (ag 1 GG (ab (ae 5) af)) [L5 (.list os),L5 (.list ms),L5 (.list ss),L5 (.int (os.length:Nat)),none,none]
    = .ok ⟨.lst .leaf,.list (ms.map fun d=>.bool (DB d))⟩ [L5 (.list os),L5 (.list ms),L5 (.list ss),L5 (.int (os.length:Nat)),none,none]:=by
   refine Dm (f:=fun d=>⟨.leaf,.bool (DB d)⟩) (bB (aw rfl) rfl) (by simp) rfl (by omega) fun d hd=>⟨?_,rfl⟩
   obtain ⟨xs,rfl,hx,hl⟩:=h.m d hd;exact bq (aq (aw rfl) ah) (hJ hx (by omega)) rfl rfl
  have c3:ax .leaf 5 (aN (ae 2)) aC (ag 2 GH (ab (ae 5) (ab (ae 3) af))) [L5 (.list os),L5 (.list ms),L5 (.list ss),L5 (.int (os.length:Nat)),none,none]
    = .ok ⟨.lst .leaf,.list (ss.map fun d=>.bool (Hd os.length d))⟩ [L5 (.list os),L5 (.list ms),L5 (.list ss),L5 (.int (os.length:Nat)),none,none]:=by
   refine Dm (f:=fun d=>⟨.leaf,.bool (Hd os.length d)⟩) (bB (aw rfl) rfl) (by simp) rfl (by omega) fun d hd=>⟨?_,rfl⟩
   obtain ⟨xs,rfl,hx,hl⟩:=h.s d hd;exact bq (aq (aw rfl) (aq (aw rfl) ah)) (g9 hx (by omega)) rfl rfl
  have t1:=lN (gC (bD (aq c1 ah) wc))
  cases ho:os.all Fd with
  | false=>
   rw [ho] at t1;unfold isW;rw [ho,Bool.false_and,Bool.and_false];exact vZ (bF t1 (fun _=>aS aO rfl) nofun)
  | true=>
   rw [ho] at t1;refine ay (bF t1 nofun (fun _=>rfl)) ?_
   unfold isW;rw [hbad,ho,Bool.not_false,Bool.true_and,Bool.true_and];exact aS (v_and (bD (aq c2 ah) wc) (bD (aq c3 ah) wc)) rfl
theorem CK {xs:List D} (h:shaped (.list xs)=true):bE (.list xs) (.list [])=some (.bool (decide (xs.length=0))):=by
 unfold bE;have h2:shaped (.list [])=true:=by decide +kernel
 rw [h,h2,Bool.and_self,if_pos rfl]
 cases xs with
 | nil=>rfl
 | cons a r=>rfl
theorem Gg {xs:List D} (h:gD xs):shaped (.list xs)=true:=by
 have c:PyData.canLayAll0 xs=true/\PyData.depthAll xs=0:=by
  induction xs with
  | nil=>exact ⟨rfl,rfl⟩
  | cons a r ih=>
   obtain ⟨n,rfl⟩:=h a mem_cons_self;have q:=ih fun x hx=>h x (LW _ hx)
   simp [PyData.canLayAll0,PyData.canLay0,PyData.depthAll,PyData.depth,q.1,q.2]
 simp [shaped,PyData.canLay0,PyData.depth,c.1,c.2]
theorem wW {xs:List D} (h:ie xs):shaped (.list xs)=true:=by
 have c:PyData.canLayAll0 xs=true/\PyData.depthAll xs=0:=by
  induction xs with
  | nil=>exact ⟨rfl,rfl⟩
  | cons a r ih=>
   obtain ⟨n,rfl,hn⟩:=h a mem_cons_self;have q:=ih fun x hx=>h x (LW _ hx)
   simp [PyData.canLayAll0,PyData.canLay0,PyData.depthAll,PyData.depth,q.1,q.2,hn]
 simp [shaped,PyData.canLay0,PyData.depth,c.1,c.2]
theorem lt_int {a b:Int}:iN (.int a) (.int b)=some (.bool (decide (a<b))):=rfl
theorem yl {a b:Int}:mU (.int a) (.int b)=some (.bool (decide (b<=a))):=rfl
theorem add_int' {a b:Int}:aJ (.int a) (.int b)=some (.int (a+b)):=rfl
theorem sub_int' {a b:Int}:gSub (.int a) (.int b)=some (.int (a-b)):=rfl
theorem cK {a b:Int} (h:0<b):b8 (.int a) (.int b)=some (.int (a % b)):=by
 show (if yN a b then _ else _)=_
 rw [if_pos (by unfold yN;simpa using h)]
theorem zO {a b:Int} (h:0<b) (h2:b<1073741824):u5 (.int a) (.int b)=some (.int (a / b)):=by
 show (if yO a b then _ else _)=_
 rw [if_pos (by unfold yO;simp [h,h2])]
theorem zF {a b:Int} (h:-1000000000000<b) (h2:b<1000000000000):kP (.int a) (.int b)=some (.int (a*b)):=by
 show (if rl a b then _ else _)=_
 rw [if_pos (by unfold rl;simp only [Bool.or_eq_true,Bool.and_eq_true,decide_eq_true_eq];right;omega)]
theorem uC {a b:Int} (h:-1000000000000<a) (h2:a<1000000000000):kP (.int a) (.int b)=some (.int (a*b)):=by
 show (if rl a b then _ else _)=_
 rw [if_pos (by unfold rl;simp only [Bool.or_eq_true,Bool.and_eq_true,decide_eq_true_eq];left;omega)]
theorem ER {b:Int} (h:0<=b) (h2:b<=100):yp (.int 10) (.int b)=some (.int (10 ^ b.toNat)):=by
 show (if yM 10 b then _ else _)=_
 rw [if_pos (by unfold yM;simp only [Bool.and_eq_true,decide_eq_true_eq];exact ⟨⟨h,by omega⟩,by decide⟩)]
theorem Ai {xs:List D} (h:gD xs) {k:Int} (hk:0<=k):∃c,nF [.list xs,.int k]=.ok ⟨.leaf,.int c⟩:=by
 have t:aP av (az iN (ae 1) (ba aV (ab (ae 0) af))) [L5 (.list xs),L5 (.int k)]=.ok (decide (k<(xs.length:Int))) [L5 (.list xs),L5 (.int k)]:=
  fG (aE (aw rfl) (bD (aq (aw rfl) ah) rfl) lt_int)
 cases hlt:decide (k<(xs.length:Int)) with
 | true=>
  rw [hlt] at t;have hl:=of_decide_eq_true hlt
  have hk2:k.toNat<xs.length:=by omega
  obtain ⟨c,hc⟩:=h _ (getD_mem hk2);have g:=FR hk2
  rw [hc] at g;exact ⟨c,aM (vZ (bF t (fun _=>aS (vK (aw rfl) (aw rfl) (E9 hk hl) g rfl) rfl) nofun))⟩
 | false=>
  rw [hlt] at t;exact ⟨0,aM (ay (bF t nofun (fun _=>rfl)) (aS aO rfl))⟩
theorem kY {c k b:Int} (hk:0<=k) (hk2:k<=1000) (hb:1<=b) (hb2:b<=1000):∃r,bZ [.int c,.int k,.int b]=.ok ⟨.leaf,.int r⟩/\0<=r/\r<b:=by
 have t:aP av (az mU (ae 0) (az yp (eK (.int 10)) (eK (.int 18)))) [L5 (.int c),L5 (.int k),L5 (.int b),none,none,none]=.ok (decide (10 ^ (18:Int).toNat<=c)) [L5 (.int c),L5 (.int k),L5 (.int b),none,none,none]:=
  fG (aE (aw rfl) (aE aO aO (ER (by omega) (by omega))) yl)
 cases hge:decide (10 ^ (18:Int).toNat<=c) with
 | true=>
  rw [hge] at t;obtain ⟨Γ',e,l,x,hΓ⟩:=ID (P:=fun _ Γ=>∃l x,Γ=[L5 (.int c),L5 (.int k),L5 (.int b),none,L5 (.int l),x]) (i:=5) (body:=aA false 4 (az u5 (ae 4) (ae 2))) (bA 0 k.toNat) 0
   [L5 (.int c),L5 (.int k),L5 (.int b),none,L5 (.int c),none] ⟨c,none,rfl⟩ (fun m d Γ hd _ _ ⟨l,x,hΓ⟩=>by
    subst hΓ;refine ⟨by simp,_,cD (aE (aw rfl) (aw rfl) (zO (by omega) (by omega))) rfl (by simp),_,_,rfl⟩)
  subst hΓ;exact ⟨_,aM (vZ (bF t (fun _=>ay (cD (aw rfl) rfl (by simp)) (ay (eh (pA (k:=k) (aq (aw rfl) ah) rfl (by omega) (by omega)) e) (aS (aE (aw rfl) (aw rfl) (cK (by omega))) rfl))) nofun)),Int.emod_nonneg _ (by omega),Int.emod_lt_of_pos _ (by omega)⟩
 | false=>
  rw [hge] at t;have m1:∀x:Int,0<=x % 2147483647/\x % 2147483647<2147483647:=fun x=>⟨Int.emod_nonneg _ (by omega),Int.emod_lt_of_pos _ (by omega)⟩
  refine ⟨_,aM (ay (bF t nofun (fun _=>rfl)) (ay (cD (aE (aE (aE (aE (aE (aw rfl) aO (cK (by omega))) (aE aO (aw rfl) (uC (by omega) (by omega))) add_int') aO add_int') aO (zF (by omega) (by omega))) aO (cK (by omega))) rfl (by simp [aI]))
   (ay (cD (aE (aE (aE (aE (aw rfl) (aw rfl) (uC ?_ ?_)) (aE aO (aw rfl) (uC (by omega) (by omega))) add_int') aO add_int') aO (cK (by omega))) rfl (by simp [aI]))
   (aS (aE (aE (aE (aE (aw rfl) aO (zF (by omega) (by omega))) aO (cK (by omega))) aO (zO (by omega) (by omega))) (aw rfl) (cK (by omega))) rfl)))),Int.emod_nonneg _ (by omega),Int.emod_lt_of_pos _ (by omega)⟩
  ·exact Int.lt_of_lt_of_le (by omega) (m1 _).1
  ·exact Int.lt_trans (m1 _).2 (by omega)
def cM (c k b:Int):Int:=match bZ [.int c,.int k,.int b] with
 | .ok ⟨_,.int r⟩=>r
 | _=>0
theorem wb {c k b:Int} (hk:0<=k) (hk2:k<=1000) (hb:1<=b) (hb2:b<=1000):bZ [.int c,.int k,.int b]=.ok ⟨.leaf,.int (cM c k b)⟩:=by
 obtain ⟨r,e,_⟩:=kY (c:=c) hk hk2 hb hb2
 unfold cM;rw [e]
theorem DI {c k b:Int} (hk:0<=k) (hk2:k<=1000) (hb:1<=b) (hb2:b<=1000):0<=cM c k b/\cM c k b<b:=by
 obtain ⟨r,e,h⟩:=kY (c:=c) hk hk2 hb hb2
 unfold cM;rw [e];exact h
def abc (d:D):D:=match d with
 | .int k=>(match cn [97,98,99] k with
  | some c=>.str ⟨#[c]⟩
  | none=>.none)
 | _=>.none
theorem uk {c:Nat} (h:c<1000):PyData.strOk ⟨#[c]⟩=true:=by
 unfold PyData.strOk;simp
 omega
theorem yU:(Str.ofString "abc").cps.toList=[97,98,99]:=by decide +kernel
theorem pf:(Str.ofString "abc").length<=sizeLine:=by decide +kernel
abbrev eW:FS:=(ak (aA false 8 (ag 2 nF (ab (ae 0) (ab (az aJ (az aJ (ae 1) (eK (.int 1))) (ae 7)) af))))
  (ak (cX 4 (ag 3 bZ (ab (ae 8) (ab (eK (.int 0)) (ab (eK (.int 2)) af)))))
  (ak (cX 5 (ax .leaf 11 (dz (ab (eK (.int 3)) af)) (aP av (az bE (ag 3 bZ (ab (ae 8) (ab (az aJ (eK (.int 1)) (ae 11)) (ab (eK (.int 2)) af)))) (eK (.int 1)))) (ai (eK (.str "abc")) (ae 11))))
  (ak (aA false 9 (ax .leaf 10 (dz (ab (ae 3) af)) (aP av (az bE (ag 3 bZ (ab (ae 8) (ab (az aJ (eK (.int 4)) (ae 10)) (ab (az aJ (eK (.int 2)) (ba mT (ab (az qG (ae 3) (eK (.int 3))) af))) af)))) (eK (.int 1)))) (ae 10)))
  (ak (b7 (aP av (az bE (ae 9) (aW .leaf af))) (aA false 9 (aW .leaf (ab (ag 3 bZ (ab (ae 8) (ab (az aJ (eK (.int 4)) (ae 3)) (ab (ae 3) af)))) af))) aQ)
  (cX 6 (ae 9)))))))
theorem sY {ts:List Int} (h:ts.Pairwise (· < ·)):eC (ts.map .int)=true:=by
 unfold eC;rw [all_eq_true];intro d hd;obtain ⟨k,hk,rfl⟩:=DP hd;rw [length_map] at hk;have h1:k<ts.length:=by omega
 have h2:k+1<ts.length:=by omega
 unfold zG;dsimp only;rw [show (1+(k:Int)-1).toNat=k by omega,show (1+(k:Int)).toNat=k+1 by omega]
 rw [LU,LU,getElem?_map,getElem?_map,LR h1,LR h2];have:=List.pairwise_iff_getElem.mp h k (k+1) h1 h2 (by omega)
 show decide (ts[k]<ts[k+1])=true
 exact decide_eq_true this
structure Gw (N:Int) (n:Nat) (os ms ss:List D):Prop where
 lo:os.length=n
 lm:ms.length=n
 ls:ss.length=n
 o:∀a∈os,a=.int 0\/a=.int 1
 m:∀r∈ms,∃xs,r=.list xs/\ie xs/\xs.length<=30/\DB r=true
 s:∀r∈ss,∃ts:List Int,r=.list (ts.map .int)/\ts.length<=30/\ts≠[]/\(∀t∈ts,0<=t/\t<N)/\ts.Pairwise (· < ·)
theorem DX {ts:List Int}:gD (ts.map .int):=fun a ha=>by
 obtain ⟨n,_,e⟩:=List.mem_map.mp ha;exact ⟨n,e.symm⟩
theorem Gw.wk {N:Int} {n b:Nat} {os ms ss:List D} (h:Gw N n os ms ss) (hb:n<=b):Wk b os ms ss:=
 ⟨fun a ha=>(h.o a ha).elim (fun e=>⟨0,e⟩) fun e=>⟨1,e⟩,fun r hr=>let ⟨xs,e,a,b,_⟩:=h.m r hr;⟨xs,e,a,b⟩,fun r hr=>let ⟨ts,e,a,_⟩:=h.s r hr;⟨_,e,DX,by rw [length_map];exact a⟩,by rw [h.lo];exact hb,by rw [h.lm];exact hb,by rw [h.ls];exact hb⟩
theorem Gw.isW {n:Nat} {os ms ss:List D} (h:Gw (n:Int) n os ms ss) (h1:1<=n) (h24:n<=24):isW os ms ss=true:=by
 unfold KC.isW HA;rw [h.lo,h.lm,h.ls];have e1:decide ((n:Int)<1)=false:=decide_eq_false (by omega)
 have e2:decide ((24:Int)<n)=false:=decide_eq_false (by omega)
 rw [e1,e2];simp only [beq_self_eq_true,Bool.not_true,Bool.or_self,Bool.not_false,Bool.true_and,Bool.and_eq_true,all_eq_true]
 refine ⟨fun a ha=>?_,fun r hr=>?_,fun r hr=>?_⟩
 ·rcases h.o a ha with rfl | rfl<;>rfl
 ·obtain ⟨xs,_,_,_,e⟩:=h.m r hr
  exact e
 ·obtain ⟨ts,rfl,h2,h3,h4,h5⟩:=h.s r hr
  unfold Hd;simp only [Bool.and_eq_true,decide_eq_true_eq,length_map,all_eq_true]
  refine ⟨by cases ts with | nil=>exact absurd rfl h3 | cons a r=>simp,fun a ha=>?_,sY h5⟩
  obtain ⟨t,ht,rfl⟩:=List.mem_map.mp ha;have:=h4 t ht
  unfold inR;simp only [Bool.and_eq_true,decide_eq_true_eq]
  exact this
theorem Kl (c0 c1 c2:Bool):DB (.list (((if c0 then [PyData.str ⟨#[97]⟩] else [])++((if c1 then [PyData.str ⟨#[98]⟩] else [])++(if c2 then [PyData.str ⟨#[99]⟩] else [])))))=true:=by
 cases c0<;>cases c1<;>cases c2<;>decide +kernel
theorem AX (n:Nat) (c:D->Bool):∃ts:List Int,((bA 0 n).filter c).map (fun d=>d)=ts.map .int/\(∀t∈ts,0<=t/\t<(n:Int))/\ts.Pairwise (· < ·)/\ts.length<=n:=by
 refine ⟨((List.range n).map fun i=>(0:Int)+(i:Nat)).filter fun i=>c (.int i),?_,fun t ht=>?_,?_,?_⟩
 ·rw [List.map_id']
  unfold bA;rw [show (fun i:Nat=>PyData.int (0+(i:Int)))=(PyData.int∘fun i:Nat=>(0:Int)+(i:Nat)) from rfl,<-map_map,List.filter_map]
  rfl
 ·obtain ⟨h1,_⟩:=List.mem_filter.mp ht
  obtain ⟨i,hi,rfl⟩:=List.mem_map.mp h1;rw [mem_range] at hi;omega
 ·refine List.Pairwise.filter _ ?_
  rw [pairwise_map];exact List.pairwise_lt_range.imp fun h=>by omega
 ·refine Nat.le_trans (length_filter_le _ _) ?_
  simp
abbrev W3:Sh:=.tup [.lst .leaf,.lst .leaf,.lst .leaf]
abbrev dD (os ms ss:List D):D:=.tuple [.list os,.list ms,.list ss]
theorem oF {n:Nat} {g:FS} {ds:List D} {Γ:Ev} (h:g (aI n ds)=.nx Γ):aB n g ds=.ok ⟨.leaf,.none⟩:=by unfold aB;rw [h]
theorem za {Γ Γ1:Ev} {fa:F1} {p:PV} (h:fa Γ=.ok p Γ1):bS fa Γ=.nx Γ1:=by unfold bS d0;rw [h]
theorem qT {b:Nat} {os ms ss:List D} (h:Wk b os ms ss) (hb:b<=100) (hw:isW os ms ss=true):Aq [dD os ms ss]=.ok ⟨.leaf,.none⟩:=by
 have t:du (aP bu (ag 3 GM (ab (ai (ae 0) (eK (.int 0))) (ab (ai (ae 0) (eK (.int 1))) (ab (ai (ae 0) (eK (.int 2))) af))))) [L5 (dD os ms ss)]=.ok (!(isW os ms ss)) [L5 (dD os ms ss)]:=
  lN (gC (bq (aq (vY (j:=0) (aw rfl) aO rfl rfl rfl) (aq (vY (j:=1) (aw rfl) aO rfl rfl rfl) (aq (vY (j:=2) (aw rfl) aO rfl rfl rfl) ah))) (js h hb) rfl rfl))
 rw [hw] at t;exact oF (bF t nofun (fun _=>rfl))
def dl (S:List (List Int)):List D:=S.map fun ts=>.list (ts.map .int)
structure Sw (n:Nat) (S:List (List Int)):Prop where
 len:S.length=n
 row:∀ts∈S,ts.length<=30/\(∀t∈ts,0<=t/\t<(n:Int))/\ts.Pairwise (· < ·)
theorem uQ {ts:List Int} {i:Int}:bh false (.int i) (.list (ts.map .int))=some (.bool (ts.contains i)):=by
 unfold bh;simp only [Af,Gg DX,Bool.and_self,if_true]
 congr 2
 rw [Bool.eq_iff_iff];simp only [Bool.false_eq_true,if_false,any_eq_true,mem_map,contains_iff_mem]
 constructor
 ·rintro ⟨d,⟨t,ht,rfl⟩,e⟩
  rw [PyData.eqv] at e;have:t=i:=by simpa using e
  rw [<-this];exact ht
 ·intro h
  exact ⟨.int i,⟨i,h,rfl⟩,by rw [PyData.eqv];simp⟩
def has (x:Str) (d:D):Bool:=match d with
 | .list xs=>xs.any fun y=>PyData.eqv y (.str x)
 | _=>false
theorem Cv {x:Str} {xs:List D} (hx:PyData.strOk x=true) (h:ie xs):bh false (.str x) (.list xs)=some (.bool (has x (.list xs))):=by
 unfold bh;simp only [sM hx,wW h,Bool.and_self,if_true]
 rfl
theorem qt {ts:List Int} {i:Int}:bh true (.int i) (.list (ts.map .int))=some (.bool (!ts.contains i)):=by
 have h:=uQ (ts:=ts) (i:=i)
 unfold bh at h ⊢
 simp only [Af,Gg DX,Bool.and_self,if_true,Bool.false_eq_true,if_false] at h ⊢
 have h:=Option.some.inj h
 injection h with h
 rw [h]
end KC
namespace T
open PySem PySem.Spec L2
open PyProof.Rows hiding St
section
variable {Γ Γ1:Ev} {fa fb fc:F1} {fl:FL} {p:PV} {i n:Nat} {ga gb:FB} {g1 g2:FS}
@[simp] theorem JY:sizeLine=16777216:=rfl
@[simp] theorem vJ {α β:Type} {a:α} {e:Ev} {k:α->Ev->Out β}:(Out.ok a e).bind k=k a e:=rfl
@[simp] theorem r_k {d:D}:eK d Γ=.ok ⟨.leaf,d⟩ Γ:=rfl
@[simp] theorem Ld:af Γ=.ok [] Γ:=rfl
@[simp] theorem JR:aC Γ=.ok true Γ:=rfl
@[simp] theorem JV:aQ Γ=.nx Γ:=rfl
@[simp] theorem Kc:ab fa fl Γ=(fa Γ).bind fun p Γ1=>(fl Γ1).bind fun ps Γ2=>.ok (p::ps) Γ2:=rfl
@[simp] theorem Bs {g:D->D->Option D}:az g fa fb Γ=(fa Γ).bind fun p Γ1=>(fb Γ1).bind fun q Γ2=>match g p.d q.d with | some d=>.ok ⟨.leaf,d⟩ Γ2 | none=>.no:=rfl
@[simp] theorem Lx {g:List D->Option D}:ba g fl Γ=(fl Γ).bind fun ps Γ'=>match g (ps.map (·.d)) with | some d=>.ok ⟨.leaf,d⟩ Γ' | none=>.no:=rfl
@[simp] theorem EE {g:D->Option Bool}:aP g fa Γ=(fa Γ).bind fun p Γ'=>match g p.d with | some b=>.ok b Γ' | none=>.no:=rfl
@[simp] theorem Ke:du ga Γ=(ga Γ).bind fun c Γ'=>.ok (!c) Γ':=rfl
@[simp] theorem Kf:d9 ga gb Γ=(ga Γ).bind fun c Γ'=>if c then gb Γ' else .ok false Γ':=rfl
@[simp] theorem Lk:jC ga gb Γ=(ga Γ).bind fun c Γ'=>if c then .ok true Γ' else gb Γ':=rfl
@[simp] theorem Lj:rF ga fa fb Γ=(ga Γ).bind fun b Γ'=>if b then fa Γ' else fb Γ':=rfl
@[simp] theorem Ka:d7 fa fb Γ=(fa Γ).bind fun p Γ=>match p.d with | .bool true=>fb Γ | .bool false=>.ok ⟨.leaf,.bool false⟩ Γ | _=>.no:=rfl
@[simp] theorem J9:yx fa Γ=(fa Γ).bind fun p Γ=>match p.d with | .bool b=>.ok ⟨.leaf,.bool (!b)⟩ Γ | _=>.no:=rfl
@[simp] theorem cA:ak g1 g2 Γ=match g1 Γ with | .nx Γ'=>g2 Γ' | .rt p=>.rt p | .bk Γ'=>.bk Γ' | .ct Γ'=>.ct Γ' | .er c Γ'=>.er c Γ' | .no=>.no:=by
 unfold ak
 cases g1 Γ<;>rfl
@[simp] theorem tL {k:PV->Ev->cu}:d0 fa k Γ=match fa Γ with | .ok p Γ1=>k p Γ1 | .er c Γ1=>.er c Γ1 | .no=>.no:=by
 unfold d0
 cases fa Γ<;>rfl
@[simp] theorem J3:b7 ga g1 g2 Γ=match ga Γ with | .ok b Γ1=>if b then g1 Γ1 else g2 Γ1 | .er c Γ1=>.er c Γ1 | .no=>.no:=by
 unfold b7
 cases ga Γ<;>rfl
@[simp] theorem Hi {b:Bool}:av (.bool b)=some b:=rfl
@[simp] theorem J6 {b:Bool}:bu (.bool b)=some b:=rfl
@[simp] theorem Hf {xs:List D}:bu (.list xs)=some (!xs.isEmpty):=rfl
def Hn (p:PV):PV:=match p.s with
 | .leaf=>p
 | _=>⟨.view,p.d⟩
@[simp] theorem tK {d:D}:Hn ⟨.leaf,d⟩=⟨.leaf,d⟩:=rfl
@[simp] theorem K9 {s:Sh} {d:D}:Hn ⟨.lst s,d⟩=⟨.view,d⟩:=rfl
@[simp] theorem K8 {s:List Sh} {d:D}:Hn ⟨.tup s,d⟩=⟨.view,d⟩:=rfl
@[simp] theorem oh:ae i Γ=match Γ[i]? with | some (some p)=>.ok (Hn p) Γ | _=>.no:=by
 unfold ae
 cases h:Γ[i]? with
 | none=>rfl
 | some o=>
  cases o with
  | none=>rfl
  | some p=>
   obtain ⟨s,d⟩:=p
   cases s<;>rfl
@[simp] theorem JW:bx i Γ=match Γ[i]? with | some (some p)=>.ok p (Γ.set i none) | _=>.no:=rfl
@[simp] theorem Bu {d:D}:coer .leaf ⟨.leaf,d⟩=true:=rfl
@[simp] theorem Hk {s:Sh} {d:D}:coer .leaf ⟨.lst s,d⟩=true:=rfl
@[simp] theorem Hj {s:List Sh} {d:D}:coer .leaf ⟨.tup s,d⟩=true:=rfl
@[simp] theorem Hl {i:Int} {s:Sh}:coer .leaf ⟨s,.int i⟩=true:=by cases s<;>rfl
@[simp] theorem Hm {b:Bool} {s:Sh}:coer .leaf ⟨s,.bool b⟩=true:=by cases s<;>rfl
@[simp] theorem J2:Sh.isView .leaf=false:=rfl
@[simp] theorem J1 {s:Sh}:Sh.isView (.lst s)=false:=rfl
@[simp] theorem J0 {s:List Sh}:Sh.isView (.tup s)=false:=rfl
@[simp] theorem oj {own:Bool}:aA own i fa Γ=match fa Γ with | .ok p Γ1=>(if i<Γ1.length then (if own&&!p.s.isView then .nx (Γ1.set i (some p)) else if T.coer .leaf p then .nx (Γ1.set i (some ⟨.leaf,p.d⟩)) else .no) else .no) | .er c Γ1=>.er c Γ1 | .no=>.no:=by
 unfold aA;rw [tL]
@[simp] theorem tJ:aF fa Γ=match fa Γ with | .ok p Γ1=>(if p.s.isView then (if aZ p.d then .rt ⟨.leaf,p.d⟩ else .no) else .rt p) | .er c Γ1=>.er c Γ1 | .no=>.no:=by
 unfold aF;rw [tL]
@[simp] theorem Kb:bS fa Γ=match fa Γ with | .ok p Γ1=>.nx Γ1 | .er c Γ1=>.er c Γ1 | .no=>.no:=by
 unfold bS;rw [tL]
@[simp] theorem Kd {den:List D->Res}:ag n den fl Γ=(fl Γ).bind fun ps Γ'=>if ps.length=n then (match den (ps.map (·.d)) with | .ok p=>if ps.all (T.coer .leaf) then .ok p Γ' else if aZ p.d then .ok ⟨.leaf,p.d⟩ Γ' else .ok ⟨.view,p.d⟩ Γ' | _=>.no) else .no:=rfl
@[simp] theorem J8 {a b:Int}:aJ (.int a) (.int b)=some (.int (a+b)):=rfl
@[simp] theorem J7 {a b:Int}:gSub (.int a) (.int b)=some (.int (a-b)):=rfl
@[simp] theorem Lh {a b:Int}:iN (.int a) (.int b)=some (.bool (decide (a<b))):=rfl
@[simp] theorem Li {a b:Int}:qG (.int a) (.int b)=some (.bool (decide (b<a))):=rfl
@[simp] theorem Iy {ds:List D}:aV [.list ds]=some (.int ds.length):=rfl
@[simp] theorem Hh {ds:List D}:aV [.tuple ds]=some (.int ds.length):=rfl
def kO (p q:PV):Ev->Out PV:=ai (fun Γ=>.ok p Γ) (fun Γ=>.ok q Γ)
@[simp] theorem bT:ai fa fb Γ=(fa Γ).bind fun p Γ1=>(fb Γ1).bind fun q Γ2=>kO p q Γ2:=by
 unfold kO ai aK
 cases fa Γ with
 | ok p Γ1=>simp only [vJ]
 | er c Γ1=>rfl
 | no=>rfl
@[simp] theorem ki {ds:List D} {k:Int} {s:Sh}:kO ⟨.leaf,.tuple ds⟩ ⟨s,.int k⟩ Γ=match cn ds k with | some d=>.ok ⟨.leaf,d⟩ Γ | none=>.no:=by
 unfold kO ai aK cn;simp only [vJ]
 cases h:cx ds.length k with
 | none=>rfl
 | some j=>
  simp only [Option.bind_some]
  cases h2:ds[j]? with
  | none=>rfl
  | some d=>rfl
@[simp] theorem kj {ds:List D} {k:Int} {s:Sh}:kO ⟨.leaf,.list ds⟩ ⟨s,.int k⟩ Γ=match cn ds k with | some d=>.ok ⟨.leaf,d⟩ Γ | none=>.no:=by
 unfold kO ai aK cn;simp only [vJ]
 cases h:cx ds.length k with
 | none=>rfl
 | some j=>
  simp only [Option.bind_some]
  cases h2:ds[j]? with
  | none=>rfl
  | some d=>rfl
@[simp] theorem zx {ds:List D} {k:Int} {s:Sh}:kO ⟨.view,.list ds⟩ ⟨s,.int k⟩ Γ=match cn ds k with | some d=>.ok ⟨if aZ d then .leaf else .view,d⟩ Γ | none=>.no:=by
 unfold kO ai aK cn;simp only [vJ]
 cases h:cx ds.length k with
 | none=>rfl
 | some j=>
  simp only [Option.bind_some]
  cases h2:ds[j]? with
  | none=>rfl
  | some d=>rfl
@[simp] theorem zz {α:Type} {a:α} {r:List α}:cn (a::r) 0=some a:=by
 simp [cn,cx]
@[simp] theorem EF {α:Type} {a b:α} {r:List α}:cn (a::b::r) 1=some b:=by
 have:(1:Int)<(r.length:Int)+1+1:=by omega
 simp [cn,cx,this]
@[simp] theorem zy {α:Type} {a b c:α} {r:List α}:cn (a::b::c::r) 2=some c:=by
 have:(2:Int)<(r.length:Int)+1+1+1:=by omega
 simp [cn,cx,this]
theorem yY {α:Type} {xs:List α} {k:Nat} {x:α} (h:xs[k]?=some x):cn xs (k:Int)=some x:=by
 have hk:=(LY h).1
 have:(k:Int)<(xs.length:Int):=by omega
 simp [cn,cx,this,h]
end
section
variable {Γ:Ev} {fa fb:F1} {i:Nat}
@[simp] theorem Le {c:String}:vb c fa Γ=(fa Γ).bind fun p Γ=>.ok ⟨.leaf,.bool (kL (vS p.d) c)⟩ Γ:=rfl
@[simp] theorem JX {s:Sh} {fl:FL}:aW s fl Γ=(fl Γ).bind fun ps Γ'=>if !s.isView&&ps.all (T.coer s)&&decide (ps.length<=sizeLine) then .ok ⟨.lst s,.list (ps.map (·.d))⟩ Γ' else .no:=rfl
@[simp] theorem K6 {fl:FL}:bg fl Γ=(fl Γ).bind fun ps Γ'=>if ps.all tok&&decide (ps.length<=sizeLine) then .ok ⟨.tup (ps.map zo),.tuple (ps.map (·.d))⟩ Γ' else .no:=rfl
@[simp] theorem JU {d:D}:tok ⟨.leaf,d⟩=true:=rfl
@[simp] theorem JT {s:Sh} {d:D}:tok ⟨.lst s,d⟩=true:=rfl
@[simp] theorem JS {s:List Sh} {d:D}:tok ⟨.tup s,d⟩=true:=rfl
@[simp] theorem Lf {a:D}:cW false a .none=some (.bool (we a)):=rfl
@[simp] theorem JZ {a:D}:cW true a .none=some (.bool (!we a)):=rfl
@[simp] theorem K7:yw fa fb Γ=(fa Γ).bind fun p Γ1=>(fb Γ1).bind fun q Γ2=>match p.d,q.d with | .tuple xs,.int k=>if !p.s.isView&&decide (1<=k)&&decide (k<=xs.length) then .ok ⟨.leaf,.tuple (xs.drop k.toNat)⟩ Γ2 else .no | _,_=>.no:=rfl
@[simp] theorem Lg {neg:Bool} {tab:List (Str×Int)}:vc neg tab fa Γ=(fa Γ).bind fun p Γ=>match p.d with | .str k=>.ok ⟨.leaf,.bool (if neg then !(bC k tab).isSome else (bC k tab).isSome)⟩ Γ | _=>.no:=rfl
@[simp] theorem J5 {tab:List (Str×Int)}:oY tab fa Γ=(fa Γ).bind fun p Γ=>match p.d with | .str k=>(match bC k tab with | some i=>.ok ⟨.leaf,.int i⟩ Γ | none=>.no) | _=>.no:=rfl
@[simp] theorem Bt:cZ fa Γ=(fa Γ).bind fun p Γ'=>match p.d with | .tuple ds=>if bH p ds then .ok ⟨ds,!p.s.isView⟩ Γ' else .no | _=>.no:=rfl
@[simp] theorem J4:aN fa Γ=(fa Γ).bind fun p Γ'=>match p.d with | .list ds=>if bH p ds then .ok ⟨ds,!p.s.isView⟩ Γ' else .no | _=>.no:=rfl
@[simp] theorem Lc {d:D} {ds:List D}:bH ⟨.leaf,d⟩ ds=true:=rfl
@[simp] theorem Lb {s:Sh} {d:D} {ds:List D}:bH ⟨.lst s,d⟩ ds=true:=rfl
@[simp] theorem La {s:List Sh} {d:D} {ds:List D}:bH ⟨.tup s,d⟩ ds=true:=rfl
@[simp] theorem Ll {f:F1}:eB i f Γ=match Γ[i]? with | some (some ⟨.leaf,.int a⟩)=>d0 f (vx i a) Γ | _=>.no:=rfl
@[simp] theorem Kg {a b:Int} {s:Sh}:vx i a ⟨s,.int b⟩ Γ=if i<Γ.length then .nx (Γ.set i (L5 (.int (a+b)))) else .no:=rfl
theorem ED {f:F1} {p:PV} {ds es:List D} (h:Γ[i]?=some (some ⟨.lst .leaf,.list ds⟩)) (hf:f Γ=.ok p Γ) (hp:p.d=.tuple es) (ho:p.s.isView=false) (hn:ds.length+es.length<=10000):je i f Γ=.nx (Γ.set i (some ⟨.lst .leaf,.list (ds++es)⟩)):=by
 have hb:(10000:Nat)<=sizeLine:=by decide
 obtain ⟨s,d⟩:=p;simp only at hp ho
 subst hp;unfold je zc;rw [h];simp only [if_true,tL,hf]
 unfold CJ bH;rw [h];have:ds.length+es.length<=sizeLine:=by omega
 simp only [ho,Bool.not_false,Bool.true_or,decide_eq_true this,Bool.and_self,if_true]
theorem jH {β:Type} {c:FB} {g:FS} {G:β->Ev} {test:β->Bool} {step:β->β} {Inv:β->Prop} {meas:β->Nat} (hc:∀b,Inv b->c (G b)=.ok (test b) (G b)) (hg:∀b,Inv b->test b=true->g (G b)=.nx (G (step b))/\Inv (step b)/\meas (step b)<meas b) :
  ∀(N:Nat) (b:β),Inv b->meas b<N->∃b',nC c g N (G b)=.nx (G b')/\Inv b'/\test b'=false
 | 0,b,_,h=>by omega
 | N+1,b,hi,hm=>by
  rw [nC,hc b hi]
  cases ht:test b with
  | false=>exact ⟨b,rfl,hi,ht⟩
  | true=>
   obtain ⟨h1,h2,h3⟩:=hg b hi ht;obtain ⟨b',e,q⟩:=jH hc hg N (step b) h2 (by omega)
   refine ⟨b',?_,q⟩
   simp only [h1]
   exact e
theorem D4 {β:Type} {c:FB} {g:FS} {G:β->Ev} {test:β->Bool} {Inv:β->Prop} {meas:β->Nat} (hc:∀b,Inv b->c (G b)=.ok (test b) (G b)) (hg:∀b,Inv b->test b=true->∃b',g (G b)=.nx (G b')/\Inv b'/\meas b'<meas b) :
  ∀(N:Nat) (b:β),Inv b->meas b<N->∃b',nC c g N (G b)=.nx (G b')/\Inv b'/\test b'=false
 | 0,b,_,h=>by omega
 | N+1,b,hi,hm=>by
  rw [nC,hc b hi]
  cases ht:test b with
  | false=>exact ⟨b,rfl,hi,ht⟩
  | true=>
   obtain ⟨b1,h1,h2,h3⟩:=hg b hi ht;obtain ⟨b',e,q⟩:=D4 hc hg N b1 h2 (by omega)
   refine ⟨b',?_,q⟩
   simp only [h1]
   exact e
theorem vz {fa:F1} {p:PV} {ds:List D} (ho:Γ[i]?=some (some ⟨.lst .leaf,.list ds⟩)) (h:fa Γ=.ok p Γ) (hc:coer .leaf p=true) (hn:ds.length<=9000):cX i fa Γ=.nx (Γ.set i (some ⟨.lst .leaf,.list (ds++[p.d])⟩)):=by
 have hb:(10000:Nat)<=sizeLine:=by decide
 unfold cX De;rw [ho];simp only [if_true,tL,h]
 unfold yS;rw [ho];have:ds.length<sizeLine:=by omega
 simp only [hc,decide_eq_true this,Bool.and_self,if_true]
end
theorem IW {α:Type} {en:α->D} {i:Nat} {fc:FB} {fe:F1} {s:Sh} {c:α->Bool} {f:α->PV} {Γ:Ev} (hΓ:Γ.set i none=Γ):∀(r:List α) (acc:List D),(∀x∈r,fc (Γ.set i (L5 (en x)))=.ok (c x) (Γ.set i (L5 (en x)))) ->
  (∀x∈r,c x=true->fe (Γ.set i (L5 (en x)))=.ok (f x) (Γ.set i (L5 (en x)))/\coer s (f x)=true)->acc.length+r.length<=sizeLine->pq i fc fe s (r.map en) Γ acc=.ok (acc++((r.filter c).map fun x=>(f x).d)) Γ
 | [],acc,_,_,_=>by simp [pq]
 | x::r,acc,hc,he,hl=>by
  have h1:=hc x mem_cons_self
  have hl1:acc.length<sizeLine:=by simp only [length_cons] at hl;omega
  have back:(Γ.set i (L5 (en x))).set i none=Γ:=by rw [set_set];exact hΓ
  rw [map_cons,pq,h1]
  cases hcd:c x with
  | false=>
   dsimp only;rw [if_pos hl1,back,IW hΓ r acc (fun d hd=>hc d (LW _ hd)) (fun d hd=>he d (LW _ hd)) (by simp only [length_cons] at hl;omega)]
   rw [List.filter_cons_of_neg (by rw [hcd];exact Bool.false_ne_true)]
  | true=>
   obtain ⟨h2,h3⟩:=he x mem_cons_self hcd;dsimp only;rw [h2];dsimp only;rw [h3,decide_eq_true hl1,Bool.and_self,if_pos rfl,back,IW hΓ r (acc++[(f x).d]) (fun d hd=>hc d (LW _ hd)) (fun d hd=>he d (LW _ hd)) (by simp only [length_cons,length_append,length_nil] at hl ⊢;omega)]
   rw [List.filter_cons_of_pos hcd,map_cons,append_assoc];rfl
theorem Di {α:Type} (en:α->D) (xs:List α) (c:α->Bool) (f:α->PV) {s:Sh} {i:Nat} {fi:FI} {fc:FB} {fe:F1} {st:Bool} {Γ:Ev} (hi:fi Γ=.ok ⟨xs.map en,st⟩ Γ) (hl:i<Γ.length) (hs:s.isView=false) (hn:xs.length<=10000)
  (hc:∀x∈xs,fc (Γ.set i (L5 (en x)))=.ok (c x) (Γ.set i (L5 (en x)))) (he:∀x∈xs,c x=true->fe (Γ.set i (L5 (en x)))=.ok (f x) (Γ.set i (L5 (en x)))/\coer s (f x)=true) :
  ax s i fi fc fe Γ=.ok ⟨.lst s,.list ((xs.filter c).map fun x=>(f x).d)⟩ Γ:=by
 have hb:(10000:Nat)<=sizeLine:=by decide
 unfold ax;rw [hi];unfold Out.bind;dsimp only;rw [IW (c:=c) (f:=f) (by rw [set_set]) xs [] (fun d hd=>by rw [set_set];exact hc d hd) (fun d hd=>by rw [set_set];exact he d hd) (by simp;omega)]
 dsimp only;rw [hs,decide_eq_true hl];simp only [Bool.not_false,Bool.and_self,if_true,nil_append,set_set]
 have:Γ.set i (Γ.getD i none)=Γ:=by
  apply rO
  rw [LU,LR hl];rfl
 rw [this]
theorem i5 {α:Type} (en:α->D) (xs:List α) (f:α->PV) {s:Sh} {i:Nat} {fi:FI} {fe:F1} {st:Bool} {Γ:Ev} (hi:fi Γ=.ok ⟨xs.map en,st⟩ Γ) (hl:i<Γ.length) (hs:s.isView=false) (hn:xs.length<=10000)
  (he:∀x∈xs,fe (Γ.set i (L5 (en x)))=.ok (f x) (Γ.set i (L5 (en x)))/\coer s (f x)=true):ax s i fi aC fe Γ=.ok ⟨.lst s,.list (xs.map fun x=>(f x).d)⟩ Γ:=by
 rw [Di (fc:=aC) en xs (fun _=>true) f hi hl hs hn (fun _ _=>rfl) fun x hx _=>he x hx,List.filter_eq_self.mpr fun _ _=>rfl]
theorem Gn {α β:Type} (en:α->D) (step:β->α->β) {Inv:β->List α->Prop} {i:Nat} {body:FS} {G:β->Option PV->Ev} (hi:∀b x,i<(G b x).length) (hset:∀b x y,(G b x).set i y=G b y)
  (hb:∀b a r,Inv b (a::r)->body (G b (L5 (en a)))=.nx (G (step b a) (L5 (en a)))/\Inv (step b a) r):∀(xs:List α) (b:β) (x:Option PV),Inv b xs->∃y,bp i body (xs.map en) (G b x)=.nx (G (xs.foldl step b) y)/\Inv (xs.foldl step b) []
 | [],b,x,h=>⟨x,rfl,h⟩
 | a::r,b,x,h=>by
  obtain ⟨h1,h2⟩:=hb b a r h;obtain ⟨y,e,h3⟩:=Gn en step hi hset hb r (step b a) (L5 (en a)) h2
  refine ⟨y,?_,h3⟩
  rw [map_cons,bp,if_pos (hi b x),hset,h1];exact e
end T
namespace KC
open PySem PySem.Spec L2 T PySem.SeqAt
open PyProof.Rows hiding St
abbrev rm (t:Nat):D:=.int (t:Int)
abbrev ao (r:List Nat):D:=.list (r.map rm)
theorem Gd {n:Nat}:bA 0 n=(List.range n).map rm:=by
 unfold bA;simp
theorem Dd {t:Nat} {r:List Nat}:bh false (rm t) (ao r)=some (.bool (r.contains t)):=by
 have h:=uQ (ts:=r.map fun t:Nat=>(t:Int)) (i:=t)
 rw [map_map] at h;refine h.trans ?_
 congr 2
 rw [Bool.eq_iff_iff,contains_iff_mem,contains_iff_mem,mem_map];exact ⟨fun ⟨a,h1,h2⟩=>by rw [<-Int.ofNat_inj.mp h2];exact h1,fun h=>⟨t,h,rfl⟩⟩
theorem Jn {t:Nat} {r:List Nat}:bh true (rm t) (ao r)=some (.bool (!r.contains t)):=by
 have h:=qt (ts:=r.map fun t:Nat=>(t:Int)) (i:=t)
 rw [map_map] at h;refine h.trans ?_
 congr 3
 rw [Bool.eq_iff_iff,contains_iff_mem,contains_iff_mem,mem_map];exact ⟨fun ⟨a,h1,h2⟩=>by rw [<-Int.ofNat_inj.mp h2];exact h1,fun h=>⟨t,h,rfl⟩⟩
structure Wd where
 n:Nat
 os:List D
 m:List (List Str)
 s:List (List Nat)
def sm (r:List Str):D:=.list (r.map .str)
def Wd.enc (w:Wd):D:=dD w.os (w.m.map sm) (w.s.map ao)
structure Wd.Ok (w:Wd):Prop where
 g:Gw (w.n:Int) w.n w.os (w.m.map sm) (w.s.map ao)
 h1:1<=w.n
 h24:w.n<=24
 lm:w.m.length=w.n
 ls:w.s.length=w.n
 st:∀r∈w.s,r≠[]/\r.length<=30/\∀t∈r,t<w.n
 mc:∀r∈w.m,∀c∈r,PyData.strOk c=true
def Wd.stp (w:Wd) (r:Nat):List Nat:=w.s.getD r []
def Wd.mks (w:Wd) (r:Nat):List Str:=w.m.getD r []
theorem Wd.Ok.at2 {w:Wd} (h:w.Ok) {r:Nat} (hr:r<w.n):cn (w.s.map ao) (r:Int)=some (ao (w.stp r)):=by
 refine yY ?_
 unfold Wd.stp;rw [getElem?_map,LU,LR (by rw [h.ls];exact hr)]
 rfl
theorem Wd.Ok.at1 {w:Wd} (h:w.Ok) {r:Nat} (hr:r<w.n):cn (w.m.map sm) (r:Int)=some (sm (w.mks r)):=by
 refine yY ?_
 unfold Wd.mks;rw [getElem?_map,LU,LR (by rw [h.lm];exact hr)]
 rfl
theorem Wd.Ok.stp_lt {w:Wd} (h:w.Ok) {r t:Nat} (ht:t∈w.stp r):t<w.n:=by
 unfold Wd.stp at ht;rw [LU] at ht
 cases e:w.s[r]? with
 | none=>rw [e] at ht;simp at ht
 | some x=>rw [e] at ht;exact (h.st x (mem_of_getElem? e)).2.2 t ht
theorem Wd.Ok.stp_ne {w:Wd} (h:w.Ok) {r:Nat} (hr:r<w.n):w.stp r≠[]:=by
 unfold Wd.stp;rw [LU,LR (by rw [h.ls];exact hr)]
 exact (h.st _ (getElem_mem _)).1
theorem fx {w:Wd} (h:w.Ok) {r:List Nat}:GY [w.enc,ao r]=.ok ⟨.lst .leaf,ao ((List.range w.n).filter fun t=>!r.contains t)⟩:=by
 have lo:=h.g.lo
 have h24:=h.h24
 refine aM ?_
 have e:ax .leaf 2 (dz (ab (ba aV (ab (ai (ae 0) (eK (.int 0))) af)) af)) (aP av (az (bh true) (ae 2) (ae 1))) (ae 2) (aI 3 [w.enc,ao r])=.ok ⟨.lst .leaf,.list (((List.range w.n).filter fun t=>!r.contains t).map fun t=>rm t)⟩ (aI 3 [w.enc,ao r]):=by
  refine Di rm (List.range w.n) (fun t=>!r.contains t) (fun t=>⟨.leaf,rm t⟩) (st:=true) ?_ (by simp [aI]) rfl (by simp;omega) ?_ ?_
  ·refine (pA (k:=(w.n:Int)) (ps:=[⟨.leaf,.int w.n⟩]) ?_ rfl (by omega) (by omega)).trans (by rw [<-Gd];rfl)
   simp [aI,Wd.enc,lo]
  ·intro t ht
   simp [aI,Jn]
  ·intro t ht _
   simp [aI]
 unfold dj;rw [tJ,e];rfl
inductive Wr where
 | yes | mark | not | sn | an | sa | aa | and | or | su | au
 deriving DecidableEq
def Wr.t:Wr->Str
 | .yes => "yes" | .mark => "mark" | .not => "not" | .sn => "some next" | .an => "all next" | .sa => "some always" | .aa => "all always" | .and => "and" | .or => "or" | .su => "some until" | .au => "all until"
theorem kS (a b:Wr):bE (.str a.t) (.str b.t)=some (.bool (decide (a=b))):=by cases a<;>cases b<;>kernel_rfl
@[simp] theorem Kv (a:Wr):bE (.str a.t) (.str "yes")=some (.bool (decide (a=.yes))):=kS a .yes
@[simp] theorem Hy (a:Wr):bE (.str a.t) (.str "mark")=some (.bool (decide (a=.mark))):=kS a .mark
@[simp] theorem Kw (a:Wr):bE (.str a.t) (.str "not")=some (.bool (decide (a=.not))):=kS a .not
@[simp] theorem Kx (a:Wr):bE (.str a.t) (.str "and")=some (.bool (decide (a=.and))):=kS a .and
@[simp] theorem Lp (a:Wr):bE (.str a.t) (.str "or")=some (.bool (decide (a=.or))):=kS a .or
@[simp] theorem uP (a:Wr):bh false (.str a.t) vQ=some (.bool (decide (a=.su\/a=.au))):=by cases a<;>kernel_rfl
@[simp] theorem Hs (a:Wr):bh true (.str a.t) vQ=some (.bool (!decide (a=.su\/a=.au))):=by cases a<;>kernel_rfl
@[simp] theorem Cw (a:Wr):bh false (.str a.t) zh=some (.bool (decide (a=.sa\/a=.aa))):=by cases a<;>kernel_rfl
@[simp] theorem Ht (a:Wr):bh true (.str a.t) zh=some (.bool (!decide (a=.sa\/a=.aa))):=by cases a<;>kernel_rfl
def Wr.some (a:Wr):Bool:=decide (a=.sn\/a=.su\/a=.aa)
@[simp] theorem Ko (a:Wr):bh false (.str a.t) Dt=.some (.bool a.some):=by cases a<;>kernel_rfl
def Wr.ar:Wr->Option Int
 | .yes=>Option.some 0 | .mark=>none | .and=>Option.some 2 | .or=>Option.some 2 | .su=>Option.some 2 | .au=>Option.some 2 | _=>Option.some 1
@[simp] theorem Hv (a:Wr):bC a.t Gh=a.ar:=by cases a<;>kernel_rfl
inductive U5 where
 | not | sn | an | sa | aa
 deriving DecidableEq
inductive B4 where
 | and | or | su | au
 deriving DecidableEq
def U5.w:U5->Wr
 | .not=>.not | .sn=>.sn | .an=>.an | .sa=>.sa | .aa=>.aa
def B4.w:B4->Wr
 | .and=>.and | .or=>.or | .su=>.su | .au=>.au
inductive Sn where
 | yes | mk (c:Str) | un (k:U5) (a:Sn) | bi (k:B4) (a b:Sn)
 deriving DecidableEq
def Sn.w:Sn->Wr
 | .yes=>.yes | .mk _=>.mark | .un k _=>k.w | .bi k _ _=>k.w
def Sn.args:Sn->List Sn
 | .yes=>[] | .mk _=>[] | .un _ a=>[a] | .bi _ a b=>[a,b]
def Sn.enc:Sn->D
 | .yes=>.tuple [.str Wr.yes.t] | .mk c=>.tuple [.str Wr.mark.t,.str c] | .un k a=>.tuple [.str k.w.t,a.enc] | .bi k a b=>.tuple [.str k.w.t,a.enc,b.enc]
def Sn.size:Sn->Nat
 | .yes=>1 | .mk _=>1 | .un _ a=>a.size+1 | .bi _ a b=>a.size+b.size+1
def Sn.dep:Sn->Nat
 | .yes=>1 | .mk _=>1 | .un _ a=>a.dep+1 | .bi _ a b=>max a.dep b.dep+1
def DO:List Str:=["a", "b", "c", "d", "e", "f"]
def Sn.ok:Sn->Prop
 | .yes=>True | .mk c=>c∈DO | .un _ a=>a.ok | .bi _ a b=>a.ok/\b.ok
theorem uH {c:Str} (h:c∈DO):PyData.strOk c=true/\DD (.str c)=true:=by
 unfold DO at h;simp only [mem_cons,not_mem_nil,or_false] at h
 rcases h with rfl | rfl | rfl | rfl | rfl | rfl<;>decide +kernel
def Sn.psh:Sn->Sh
 | .mk _=>.tup [] | _=>.leaf
@[simp] theorem EO (s:Sn):s.psh.isView=false:=by cases s<;>rfl
theorem IY (s:Sn):lV [s.enc]=.ok ⟨s.psh,.tuple (s.args.map Sn.enc)⟩:=by
 cases s with
 | yes=>simp [lV,aB,D5,aI,Sn.enc,Sn.args,Sn.psh]
 | mk c=>simp [lV,aB,D5,aI,Sn.enc,Sn.args,Sn.psh]
 | un k a=>cases k<;>simp [lV,aB,D5,aI,Sn.enc,Sn.args,Sn.psh,U5.w]
 | bi k a b=>cases k<;>simp [lV,aB,D5,aI,Sn.enc,Sn.args,Sn.psh,B4.w]
theorem m6 {s:Sn} (h:s.ok):wq [s.enc]=.ok ⟨.leaf,.bool true⟩:=by
 cases s with
 | yes=>simp [wq,aB,D6,aI,Sn.enc,kL,vS,Wr.ar,eq_int]
 | mk c=>
  obtain ⟨h1,h2⟩:=uH h;simp [wq,aB,D6,aI,Sn.enc,kL,vS,Wr.ar,eq_int,uR h1,h2]
 | un k a=>cases k<;>simp [wq,aB,D6,aI,Sn.enc,kL,vS,Wr.ar,U5.w,eq_int]
 | bi k a b=>cases k<;>simp [wq,aB,D6,aI,Sn.enc,kL,vS,Wr.ar,B4.w,eq_int]
def dy (l:List Sn):D:=.list (l.map Sn.enc)
def iz (l:List Sn):Nat:=(l.map Sn.size).sum
theorem Sn.size_pos (s:Sn):1<=s.size:=by cases s<;>simp [Sn.size]
theorem Sn.args_le (s:Sn):s.args.length<=2:=by cases s<;>simp [Sn.args]
theorem Sn.args_sz (s:Sn):iz s.args+1=s.size:=by cases s<;>simp [Sn.args,iz,Sn.size]
theorem xW (l:List Sn):l.length<=iz l:=by
 induction l with
 | nil=>simp [iz]
 | cons a r ih=>
  have:=a.size_pos
  simp only [iz,map_cons,sum_cons,length_cons] at ih ⊢
  omega
theorem wM (a b:List Sn):iz (a++b)=iz a+iz b:=by simp [iz]
theorem sG (l:List Sn):iz (l.flatMap Sn.args)+l.length=iz l:=by
 induction l with
 | nil=>simp [iz]
 | cons a r ih=>
  have:=a.args_sz
  rw [List.flatMap_cons,wM];simp only [iz,map_cons,sum_cons,length_cons] at ih this ⊢
  omega
def cN (l:List Sn):Nat:=l.foldr (fun s m=>max s.dep m) 0
theorem GF (a:Sn) (r:List Sn):cN (a::r)=max a.dep (cN r):=rfl
theorem vf (a b:List Sn):cN (a++b)=max (cN a) (cN b):=by
 induction a with
 | nil=>simp [cN]
 | cons x r ih=>rw [cons_append,GF,GF,ih,Nat.max_assoc]
theorem Sn.dep_args (s:Sn):cN s.args+1=s.dep:=by cases s<;>simp [Sn.args,cN,Sn.dep]
theorem iS (l:List Sn) (h:l≠[]):cN (l.flatMap Sn.args)+1=cN l:=by
 induction l with
 | nil=>exact absurd rfl h
 | cons a r ih=>
  have:=a.dep_args
  rw [List.flatMap_cons,vf,GF]
  cases r with
  | nil=>simp [cN] at this ⊢;omega
  | cons b t=>
   have:=ih (by simp)
   omega
theorem g6 {l:List Sn} (hn:l.length<=1000):G7 [dy l]=.ok ⟨.lst .leaf,dy (l.flatMap Sn.args)⟩:=by
 obtain ⟨y,e,_⟩:=Gn Sn.enc (fun (b:List Sn) a=>b++a.args) (Inv:=fun b r=>b.length+2*r.length<=2000) (i:=2) (body:=je 1 (ag 1 lV (ab (ae 2) af))) (G:=fun b x=>[L5 (dy l),some ⟨.lst .leaf,dy b⟩,x])
  (fun _ _=>by simp) (fun _ _ _=>by simp) (fun b a r hI=>by
   have h2:=a.args_le
   simp only [length_cons] at hI
   refine ⟨?_,by simp only [length_append];omega⟩
   rw [ED (ds:=b.map Sn.enc) (es:=a.args.map Sn.enc) (p:=⟨a.psh,.tuple (a.args.map Sn.enc)⟩) rfl ?_ rfl (by simp) (by simp only [length_map];omega)]
   ·simp [dy]
   ·simp [IY,EO,coer]) l [] none (by simp;omega)
 have ef:l.foldl (fun (b:List Sn) a=>b++a.args) []=l.flatMap Sn.args:=by
  have:∀(l:List Sn) (b:List Sn),l.foldl (fun (b:List Sn) a=>b++a.args) b=b++l.flatMap Sn.args:=by
   intro l;induction l with
   | nil=>intro b;simp
   | cons a r ih=>intro b;rw [foldl_cons,ih,List.flatMap_cons,append_assoc]
  rw [this,nil_append]
 rw [ef] at e;refine aM ?_
 have e2:cJ 2 (aN (ae 0)) (je 1 (ag 1 lV (ab (ae 2) af))) [L5 (dy l),some ⟨.lst .leaf,dy []⟩,none]=.nx [L5 (dy l),some ⟨.lst .leaf,dy (l.flatMap Sn.args)⟩,y]:=eh (bB (ds:=l.map Sn.enc) (aw rfl) rfl) e
 have e1:aA true 1 (aW .leaf af) (aI 3 [dy l])=.nx [L5 (dy l),some ⟨.lst .leaf,dy []⟩,none]:=by simp [aI,dy]
 unfold cO;rw [cA,e1];simp only
 rw [cA,e2];simp
structure LS where
 ls:List (List Sn)
 l:List Sn
 many:Nat
abbrev HH (s:Sn) (b:LS):Ev:=[L5 s.enc,some ⟨.lst .leaf,.list (b.ls.map dy)⟩,L5 (dy b.l),L5 (.int (b.many:Int)),none]
structure LI (s:Sn) (b:LS):Prop where
 tot:(b.ls.map List.length).sum+iz b.l=s.size
 mny:b.many=(b.ls.map List.length).sum
 dep:b.ls.length+cN b.l=s.dep
 ok:∀a∈b.l,a.ok
theorem Sn.args_ok {s:Sn} (h:s.ok):∀a∈s.args,a.ok:=by
 cases s with
 | yes=>simp [Sn.args]
 | mk c=>simp [Sn.args]
 | un k a=>simpa [Sn.args,Sn.ok] using h
 | bi k a b=>simpa [Sn.args,Sn.ok] using h
theorem ve {l:List Sn} (h:l≠[]):1<=cN l:=by
 have:=iS l h
 omega
theorem m4 {s:Sn} (h:s.ok) (hs:s.size<=200) (hd:s.dep<=24):∃L:List (List Sn),Js [s.enc]=.ok ⟨.lst .leaf,.list (L.map dy)⟩/\L.length=s.dep/\(L.map List.length).sum=s.size:=by
 obtain ⟨b',e,I,ht⟩:=jH (c:=aP bu (ae 2)) (G:=HH s) (test:=fun b=>!b.l.isEmpty) (step:=fun b=>⟨b.ls++[b.l],b.l.flatMap Sn.args,b.many+b.l.length⟩) (Inv:=LI s) (meas:=fun b=>iz b.l)
  (g:=(ak (eB 3 (ba aV (ab (ae 2) af)))
  (ak (b7 (jC (aP av (az qG (ae 3) (eK G5))) (jC (aP av (az bE (ba aV (ab (ae 1) af)) (eK G4))) (du (aP bu (ba (bK false) (ab (ax .leaf 4 (aN (ae 2)) aC (ag 1 wq (ab (ae 4) af))) af)))))) (aF (eK .none)) aQ)
  (ak (cX 1 (ae 2))
  (aA false 2 (ag 1 G7 (ab (ae 2) af))))))) (fun b I=>by simp [HH,dy]) (fun b I ht=>by
   have hne:b.l≠[]:=by intro z;rw [z] at ht;simp at ht
   have t1:=I.tot
   have t2:=I.mny
   have t3:=I.dep
   have t4:=xW b.l
   have t5:=ve hne
   have t6:=sG b.l
   have t7:=iS b.l hne
   have t8:0<b.l.length:=List.length_pos_iff.mpr hne
   refine ⟨?_,⟨?_,?_,?_,?_⟩,?_⟩
   ·have c1:ax .leaf 4 (aN (ae 2)) aC (ag 1 wq (ab (ae 4) af)) [L5 s.enc,some ⟨.lst .leaf,.list (b.ls.map dy)⟩,L5 (dy b.l),L5 (.int ((b.many:Int)+b.l.length)),none]=.ok ⟨.lst .leaf,.list (b.l.map fun _=>.bool true)⟩ [L5 s.enc,some ⟨.lst .leaf,.list (b.ls.map dy)⟩,L5 (dy b.l),L5 (.int ((b.many:Int)+b.l.length)),none]:=by
     refine i5 Sn.enc b.l (fun _=>⟨.leaf,.bool true⟩) (st:=true) (by simp [dy]) (by simp) rfl (by omega) fun a ha=>?_
     simp [m6 (I.ok a ha)]
    have c2:bK false [.list (b.l.map fun _=>.bool true)]=some (.bool true):=by
     rw [wc (f:=fun _=>true)]
     simp
    have n1:¬((200:Int)<(b.many:Int)+b.l.length):=by omega
    have n2:¬((b.ls.length:Int)=24):=by omega
    have lb:b.ls.length<=24:=by omega
    have pa:=g6 (l:=b.l) (by omega)
    have ap:cX 1 (ae 2) [L5 s.enc,some ⟨.lst .leaf,.list (b.ls.map dy)⟩,L5 (dy b.l),L5 (.int ((b.many:Int)+b.l.length)),none]=.nx [L5 s.enc,some ⟨.lst .leaf,.list (b.ls.map dy++[dy b.l])⟩,L5 (dy b.l),L5 (.int ((b.many:Int)+b.l.length)),none]:=
     vz rfl (aw rfl) rfl (by simp;omega)
    simp [HH,dy,G5,G4] at c1 ap pa ⊢
    simp [c1,c2,n1,n2,eq_int,ap,pa]
   ·simp only [map_append,map_cons,map_nil,List.sum_append,sum_cons,List.sum_nil]
    omega
   ·simp only [map_append,map_cons,map_nil,List.sum_append,sum_cons,List.sum_nil]
    omega
   ·simp only [length_append,length_cons,length_nil]
    omega
   ·intro a ha
    obtain ⟨c,hc,ha⟩:=List.mem_flatMap.mp ha;exact Sn.args_ok (I.ok c hc) a ha
   ·show iz (b.l.flatMap Sn.args)<iz b.l
    omega) 1000 ⟨[],[s],0⟩ ⟨by simp [iz],by simp,by simp [cN],by simpa using h⟩ (by simp [iz];omega)
 have hl:b'.l=[]:=by simpa using ht
 refine ⟨b'.ls,?_,?_,?_⟩
 ·refine aM ?_
  have e0:HH s ⟨[],[s],0⟩=[L5 s.enc,some ⟨.lst .leaf,.list []⟩,L5 (.list [s.enc]),L5 (.int 0),none]:=rfl
  rw [e0] at e;unfold eV;simp [aI]
  unfold pw;rw [e];simp
 ·have:=I.dep;rw [hl] at this;simpa [cN] using this
 ·have:=I.tot;rw [hl] at this;simpa [iz] using this
theorem dt {s:Sn} (h:s.ok) (hs:s.size<=200) (hd:s.dep<=24):JE [s.enc]=.ok ⟨.leaf,.none⟩:=by
 obtain ⟨L,e,_⟩:=m4 h hs hd;have e2:JF [s.enc]=.ok ⟨.leaf,.list (L.map dy)⟩:=by
  refine aM ?_
  simp [cj,aI,e,we]
 refine oF (Γ:=[L5 s.enc]) ?_
 simp [ck,aI,e2]
end KC
namespace KC
def bj (rk:List (Option Nat)) (t:Nat):Option Nat:=rk.getD t none
def led (any:Bool) (l:List Nat) (P:Nat->Prop):Prop:=if any then ∃t∈l,P t else ∀t∈l,P t
theorem led_t {l:List Nat} {P:Nat->Prop}:led true l P↔∃t∈l,P t:=by unfold led;simp
theorem led_f {l:List Nat} {P:Nat->Prop}:led false l P↔∀t∈l,P t:=by unfold led;simp
theorem Aj {any:Bool} {l:List Nat} {P Q:Nat->Prop} (h:led any l P) (i:∀t∈l,P t->Q t):led any l Q:=by
 cases any with
 | true=>obtain ⟨t,ht,hp⟩:=led_t.mp h;exact led_t.mpr ⟨t,ht,i t ht hp⟩
 | false=>exact led_f.mpr fun t ht=>i t ht (led_f.mp h t ht)
structure nz (n:Nat) (st:Nat->List Nat) (ch:Nat->Bool) (thr goal:List Nat) (rk:List (Option Nat)):Prop where
 len:rk.length=n
 g:∀r,r<n->r∈goal->bj rk r=some 0
 p:∀r k,r<n->r∉goal->bj rk r=some k->0<k/\r∈thr/\led (ch r) (st r) fun t=>∃j,bj rk t=some j/\j<k
 z:∀r,r<n->bj rk r=none->r∉goal/\(r∉thr\/¬led (ch r) (st r) fun t=>bj rk t≠none)
def inn (st:Nat->List Nat) (L:List Nat) (r:Nat):List Nat:=(st r).filter fun t=>L.contains t
structure C1 (n:Nat) (st:Nat->List Nat) (own:Nat->Bool) (T X:Nat->Prop):Prop where
 lt:∀r,X r->r<n
 c:∀r,X r->led (own r) (st r) X
 a:∀S:Nat->Prop,(∀r,X r->T r->S r)->(∀r,X r->led (own r) (st r) (fun t=>X t/\S t)->S r)->∀r,X r->S r
structure Fr {α:Type} (n:Nat) (st:Nat->List Nat) (R:Nat->Prop) (M:List α) (mk:α->Nat->Prop) (X:Nat->Prop):Prop where
 lt:∀r,X r->r<n
 sub:∀r,X r->R r
 c:∀r,X r->∃t∈st r,X t
 a:∀m∈M,∀S:Nat->Prop,(∀r,X r->mk m r->S r)->(∀r,X r->(∃t∈st r,X t/\S t)->S r)->∀r,X r->S r
def KE (n:Nat) (L:List Nat):Prop:=∃q:Nat->Bool,L=(List.range n).filter q
open PySem PySem.Spec L2 T PySem.SeqAt
open PyProof.Rows hiding St
def oD:Option Nat->D
 | none=>.none
 | some k=>.int (k:Int)
@[simp] theorem Hr (o:Option Nat):we (oD o)=o.isNone:=by cases o<;>rfl
@[simp] theorem Hq (o:Option Nat):aZ (oD o)=true:=by cases o<;>rfl
abbrev iE (rk:List (Option Nat)):D:=.list (rk.map oD)
theorem i4 {rk:List (Option Nat)} {t:Nat} (h:t<rk.length):cn (rk.map oD) (t:Int)=some (oD (bj rk t)):=by
 refine yY ?_
 unfold bj;rw [getElem?_map,LU,LR h];rfl
def fZ (any:Bool) (bs:List Bool):Bool:=if any then bs.any id else bs.all id
theorem yr {bs:List Bool}:bK true [.list (bs.map .bool)]=some (.bool (bs.any id)):=by
 have h:=IE (any:=true) (xs:=bs) (f:=id)
 show Option.map _ (rH _)=_
 rw [show (bs.map PyData.bool)=bs.map fun x=>PyData.bool (id x) from rfl,h]
 simp
theorem u6 {bs:List Bool}:bK false [.list (bs.map .bool)]=some (.bool (bs.all id)):=by
 have h:=IE (any:=true) (xs:=bs) (f:=id)
 show Option.map _ (rH _)=_
 rw [show (bs.map PyData.bool)=bs.map fun x=>PyData.bool (id x) from rfl,h]
 simp
theorem o4 {c:Bool} {bs:List Bool}:zd [.bool c,.list (bs.map .bool)]=.ok ⟨.leaf,.bool (fZ c bs)⟩:=by
 unfold fZ
 cases c<;>simp [zd,aB,lh,aI,yr,u6]
structure Wd.Ok0 (w:Wd):Prop where
 lo:w.os.length=w.n
 h24:w.n<=24
 ls:w.s.length=w.n
 st:∀r∈w.s,r.length<=30/\∀t∈r,t<w.n
theorem Wd.Ok.z {w:Wd} (h:w.Ok):w.Ok0:=⟨h.g.lo,h.h24,h.ls,fun r hr=>(h.st r hr).2⟩
theorem Wd.Ok0.at2 {w:Wd} (h:w.Ok0) {r:Nat} (hr:r<w.n):cn (w.s.map ao) (r:Int)=some (ao (w.stp r)):=by
 refine yY ?_
 unfold Wd.stp;rw [getElem?_map,LU,LR (by rw [h.ls];exact hr)]
 rfl
theorem Wd.Ok0.stp_lt {w:Wd} (h:w.Ok0) {r t:Nat} (ht:t∈w.stp r):t<w.n:=by
 unfold Wd.stp at ht;rw [LU] at ht
 cases e:w.s[r]? with
 | none=>rw [e] at ht;simp at ht
 | some x=>rw [e] at ht;exact (h.st x (mem_of_getElem? e)).2 t ht
theorem Wd.Ok0.len {w:Wd} (h:w.Ok0) {r:Nat}:(w.stp r).length<=10000:=by
 unfold Wd.stp;rw [LU]
 cases e:w.s[r]? with
 | none=>simp
 | some x=>
  have:=(h.st x (mem_of_getElem? e)).1
  simp only [Option.getD_some]
  omega
abbrev nh (cl:List Bool):D:=.list (cl.map .bool)
def fA (cl:List Bool) (r:Nat):Bool:=cl.getD r false
theorem FA {cl:List Bool} {t:Nat} (h:t<cl.length):cn (cl.map PyData.bool) (t:Int)=some (.bool (fA cl t)):=by
 refine yY ?_
 unfold fA;rw [getElem?_map,LU,LR h];rfl
def ur (w:Wd) (ch:Nat->Bool) (thr:List Nat) (rk:List (Option Nat)):List Nat:=thr.filter fun r=>(bj rk r).isNone&&fZ (ch r) ((w.stp r).map fun t=>(bj rk t).isSome)
theorem vi {w:Wd} (h:w.Ok0) {cl:List Bool} {thr:List Nat} {rk:List (Option Nat)} (hcl:cl.length=w.n) (ht:∀r∈thr,r<w.n) (hl:rk.length=w.n) (hn:thr.length<=1000):Eb [w.enc,nh cl,ao thr,iE rk]=.ok ⟨.lst .leaf,ao (ur w (fA cl) thr rk)⟩:=by
 obtain ⟨y,e,_⟩:=Gn rm (fun (b:List Nat) r=>if (bj rk r).isNone&&fZ (fA cl r) ((w.stp r).map fun t=>(bj rk t).isSome) then b++[r] else b) (Inv:=fun b r=>b.length+r.length<=1000/\∀t∈r,t<w.n) (i:=5)
  (body:=(b7 (d9 (aP av (az (cW false) (ai (ae 3) (ae 5)) (eK .none))) (aP bu (ag 2 zd (ab (ai (ae 1) (ae 5)) (ab (ax .leaf 6 (aN (ai (ai (ae 0) (eK (.int 2))) (ae 5))) aC (az (cW true) (ai (ae 3) (ae 6)) (eK .none))) af))))) (cX 4 (ae 5)) aQ))
  (G:=fun b x=>[L5 w.enc,L5 (nh cl),L5 (ao thr),L5 (iE rk),some ⟨.lst .leaf,ao b⟩,x,none])
  (fun _ _=>by simp) (fun _ _ _=>by simp) (fun b r rest hI=>by
   obtain ⟨h1,h2⟩:=hI;have hr:r<w.n:=h2 r mem_cons_self
   have a1:=i4 (rk:=rk) (t:=r) (by omega)
   have a2:=h.at2 hr
   have a4:=FA (cl:=cl) (t:=r) (by omega)
   simp only [length_cons] at h1
   have c1:ax .leaf 6 (aN (ai (ai (ae 0) (eK (.int 2))) (ae 5))) aC (az (cW true) (ai (ae 3) (ae 6)) (eK .none)) [L5 w.enc,L5 (nh cl),L5 (ao thr),L5 (iE rk),some ⟨.lst .leaf,ao b⟩,L5 (rm r),none]
     = .ok ⟨.lst .leaf,.list ((w.stp r).map fun t=>.bool (bj rk t).isSome)⟩ [L5 w.enc,L5 (nh cl),L5 (ao thr),L5 (iE rk),some ⟨.lst .leaf,ao b⟩,L5 (rm r),none]:=by
    refine i5 rm (w.stp r) (fun t=>⟨.leaf,.bool (bj rk t).isSome⟩) (st:=true) (by simp [Wd.enc,a2]) (by simp) rfl h.len fun t ht=>?_
    have a3:=i4 (rk:=rk) (t:=t) (by rw [hl];exact h.stp_lt ht)
    simp [a3]
   have dl:=o4 (c:=fA cl r) (bs:=(w.stp r).map fun t=>(bj rk t).isSome)
   rw [map_map] at dl;have dl:zd [.bool (fA cl r),.list ((w.stp r).map fun t=>.bool (bj rk t).isSome)]=.ok ⟨.leaf,.bool (fZ (fA cl r) ((w.stp r).map fun t=>(bj rk t).isSome))⟩:=dl
   have ap:cX 4 (ae 5) [L5 w.enc,L5 (nh cl),L5 (ao thr),L5 (iE rk),some ⟨.lst .leaf,ao b⟩,L5 (rm r),none]=.nx [L5 w.enc,L5 (nh cl),L5 (ao thr),L5 (iE rk),some ⟨.lst .leaf,.list (b.map rm++[rm r])⟩,L5 (rm r),none]:=
    vz rfl (aw rfl) rfl (by simp;omega)
   refine ⟨?_,?_⟩
   ·cases q1:(bj rk r).isNone with
    | false=>simp [a1,q1]
    | true=>
     cases q2:fZ (fA cl r) ((w.stp r).map fun t=>(bj rk t).isSome) with
     | false=>simp [a1,a4,q1,c1,dl,q2]
     | true=>simp [a1,a4,q1,c1,dl,q2,ap]
   ·refine ⟨?_,fun t ht=>h2 t (LW _ ht)⟩
    split
    ·rw [length_append,length_singleton];omega
    ·omega) thr [] none (by simp;exact ⟨hn,ht⟩)
 have ef:∀(l b:List Nat),l.foldl (fun (b:List Nat) r=>if (bj rk r).isNone&&fZ (fA cl r) ((w.stp r).map fun t=>(bj rk t).isSome) then b++[r] else b) b=b++ur w (fA cl) l rk:=by
  intro l;induction l with
  | nil=>intro b;simp [ur]
  | cons r t ih=>
   intro b;rw [foldl_cons,ih];unfold ur;rw [filter_cons];split<;>simp
 rw [ef,nil_append] at e;refine aM ?_
 have e2:=eh (fi:=aN (ae 2)) (Γ:=[L5 w.enc,L5 (nh cl),L5 (ao thr),L5 (iE rk),some ⟨.lst .leaf,ao []⟩,none,none]) (bB (ds:=thr.map rm) (aw rfl) rfl) e
 have e1:aA true 4 (aW .leaf af) (aI 7 [w.enc,nh cl,ao thr,iE rk])=.nx [L5 w.enc,L5 (nh cl),L5 (ao thr),L5 (iE rk),some ⟨.lst .leaf,ao []⟩,none,none]:=by simp [aI]
 unfold dh;rw [cA,e1];simp only
 rw [cA,e2];simp
theorem led_iff {any:Bool} {l:List Nat} {b:Nat->Bool}:fZ any (l.map b)=true↔led any l fun t=>b t=true:=by
 unfold fZ led
 cases any<;>simp
structure Right (w:Wd) (any:Bool) (thr goal:List Nat) (rk:List (Option Nat)):Prop where
 len:rk.length=w.n
 g:∀r,r<w.n->r∈goal->bj rk r=some 0
 p:∀r k,r<w.n->r∉goal->bj rk r=some k->0<k/\r∈thr/\led any (w.stp r) fun t=>∃j,bj rk t=some j/\j<k
 z:∀r,r<w.n->bj rk r=none->r∉goal/\(r∉thr\/¬led any (w.stp r) fun t=>bj rk t≠none)
inductive Unt (w:Wd) (any:Bool) (P Q:Nat->Prop):Nat->Prop where
 | now {r:Nat}:Q r->Unt w any P Q r
 | some {r t:Nat}:any=true->P r->t∈w.stp r->Unt w any P Q t->Unt w any P Q r
 | all {r:Nat}:any=false->P r->(∀t∈w.stp r,Unt w any P Q t)->Unt w any P Q r
theorem Unt.of_led {w:Wd} {any:Bool} {P Q:Nat->Prop} {r:Nat} (hp:P r) (h:led any (w.stp r) (Unt w any P Q)):Unt w any P Q r:=by
 unfold led at h
 cases any with
 | true=>obtain ⟨t,ht,hu⟩:=(by simpa using h:∃t,t∈w.stp r/\Unt w true P Q t);exact .some rfl hp ht hu
 | false=>exact .all rfl hp (by simpa using h)
theorem Right.iff {w:Wd} (ok:w.Ok) {any:Bool} {thr goal:List Nat} {rk:List (Option Nat)} (h:Right w any thr goal rk) {r:Nat} (hr:r<w.n):bj rk r≠none↔Unt w any (·∈thr) (·∈goal) r:=by
 constructor
 ·intro hn
  obtain ⟨k,hk⟩:=Option.ne_none_iff_exists'.mp hn
  have key:∀k r,r<w.n->bj rk r=some k->Unt w any (·∈thr) (·∈goal) r:=by
   intro k;induction k using Nat.strongRecOn with
   | ind k ih=>
    intro r hr hk;by_cases hg:r∈goal
    ·exact .now hg
    ·obtain ⟨_,h2,h3⟩:=h.p r k hr hg hk
     exact .of_led h2 (Aj h3 fun t ht ⟨j,hj,hlt⟩=>ih j hlt t (ok.stp_lt ht) hj)
  exact key k r hr hk
 ·intro hu
  induction hu with
  | now q=>rw [h.g _ hr q];simp
  | @some r t e hp ht _ ih=>
   intro hz;obtain ⟨_,z⟩:=h.z r hr hz;rcases z with z | z
   ·exact z hp
   ·subst e
    exact z (by unfold led;simpa using ⟨t,ht,by have:=ih (ok.stp_lt ht);simpa using this⟩)
  | @all r e hp _ ih=>
   intro hz;obtain ⟨_,z⟩:=h.z r hr hz;rcases z with z | z
   ·exact z hp
   ·subst e
    exact z (by unfold led;simpa using fun t ht=>by have:=ih t ht (ok.stp_lt ht);simpa using this)
def bG (rk:List (Option Nat)) (k:Nat) (fr:List Nat):List (Option Nat):=fr.foldl (fun l r=>l.set r (some k)) rk
theorem IL {k:Nat}:∀(fr:List Nat) (rk:List (Option Nat)),(bG rk k fr).length=rk.length
 | [],_=>rfl
 | a::r,rk=>by
  show (bG (rk.set a (some k)) k r).length=_
  rw [IL,length_set]
theorem w9 {rk:List (Option Nat)} {a t:Nat} {o:Option Nat} (h:a<rk.length):bj (rk.set a o) t=if t=a then o else bj rk t:=by
 unfold bj;rw [LU,LU];split
 ·rename_i e;subst e;rw [getElem?_set_self h];rfl
 ·rename_i e;rw [getElem?_set_ne (fun z=>e z.symm)]
theorem oe {k t:Nat}:∀(fr:List Nat) (rk:List (Option Nat)),(∀a∈fr,a<rk.length)->bj (bG rk k fr) t=if t∈fr then some k else bj rk t
 | [],rk,_=>by simp [bG]
 | a::r,rk,h=>by
  show bj (bG (rk.set a (some k)) k r) t=_
  rw [oe r _ (fun b hb=>by rw [length_set];exact h b (LW _ hb)),w9 (h a mem_cons_self)]
  by_cases e1:t∈r
  ·simp [e1]
  ·by_cases e2:t=a
   ·simp [e2]
   ·simp [e1,e2]
def br (rk:List (Option Nat)):Nat:=(rk.filter Option.isNone).length
theorem qu {rk:List (Option Nat)} {a k:Nat} (h:rk[a]?=some none):br (rk.set a (some k))+1=br rk:=by
 induction rk generalizing a with
 | nil=>simp at h
 | cons x r ih=>
  cases a with
  | zero=>
   simp at h
   subst h;simp [br]
  | succ a=>
   have:=ih (a:=a) (by simpa using h)
   simp only [br,List.set_cons_succ,filter_cons] at this ⊢
   cases x with
   | none=>simp only [Option.isNone_none,if_true,length_cons];omega
   | some v=>simpa using this
theorem uy {rk:List (Option Nat)} {a k:Nat}:br (rk.set a (some k))<=br rk:=by
 induction rk generalizing a with
 | nil=>simp [br]
 | cons x r ih=>
  cases a with
  | zero=>cases x<;>simp [br]
  | succ a=>
   have:=ih (a:=a)
   simp only [br,List.set_cons_succ,filter_cons] at this ⊢
   cases x with
   | none=>simp only [Option.isNone_none,if_true,length_cons];omega
   | some v=>simpa using this
theorem dH {k:Nat}:∀(fr:List Nat) (rk:List (Option Nat)),br (bG rk k fr)<=br rk
 | [],_=>L3 _
 | a::r,rk=>Nat.le_trans (dH r (rk.set a (some k))) uy
theorem qv {k:Nat} {fr:List Nat} {rk:List (Option Nat)} (hne:fr≠[]) (h:∀a∈fr,rk[a]?=some none):br (bG rk k fr)<br rk:=by
 cases fr with
 | nil=>exact absurd rfl hne
 | cons a r=>
  have h1:=qu (k:=k) (h a mem_cons_self)
  have h2:=dH (k:=k) r (rk.set a (some k))
  show br (bG (rk.set a (some k)) k r)<_
  omega
structure RS where
 rk:List (Option Nat)
 k:Nat
 fr:List Nat
 x8:Option PV
structure RI (w:Wd) (ch:Nat->Bool) (thr goal:List Nat) (b:RS):Prop where
 len:b.rk.length=w.n
 frn:∀r∈b.fr,r<w.n/\bj b.rk r=none
 frl:b.fr.length<=1000
 lt:∀r j,bj b.rk r=some j->j<b.k
 zero:b.k=0->b.fr=goal
 g:0<b.k->∀r,r∈goal->bj b.rk r=some 0
 p:∀r j,r<w.n->r∉goal->bj b.rk r=some j->0<j/\r∈thr/\led (ch r) (w.stp r) fun t=>∃i,bj b.rk t=some i/\i<j
 nx:0<b.k->b.fr=ur w ch thr b.rk
 m1:∀r,r∈thr->bj b.rk r=none->¬led (ch r) (w.stp r) fun t=>∃i,bj b.rk t=some i/\i+1<b.k
 m2:∀r j,r∉goal->bj b.rk r=some j->¬led (ch r) (w.stp r) fun t=>∃i,bj b.rk t=some i/\i+1<j
def LJ (st:Nat->List Nat) (ch:Nat->Bool) (goal:List Nat) (rk:List (Option Nat)):Prop:=∀r j,r∉goal->bj rk r=some j->¬led (ch r) (st r) fun t=>∃i,bj rk t=some i/\i+1<j
theorem RI.right {w:Wd} {ch:Nat->Bool} {thr goal:List Nat} {b:RS} (hne:∀r∈thr,w.stp r≠[]) (I:RI w ch thr goal b) (he:b.fr=[]):nz w.n w.stp ch thr goal b.rk:=by
 refine ⟨I.len,fun r hr hg=>?_,I.p,fun r hr hz=>?_⟩
 ·rcases Nat.eq_zero_or_pos b.k with h | h
  ·rw [<-I.zero h,he] at hg;simp at hg
  ·exact I.g h r hg
 ·rcases Nat.eq_zero_or_pos b.k with h | h
  ·have hg:goal=[]:=by rw [<-I.zero h];exact he
   refine ⟨by rw [hg];simp,?_⟩
   by_cases ht:r∈thr
   case neg=>exact .inl ht
   refine .inr fun hl=>?_
   have no:∀t,bj b.rk t=none:=fun t=>by
    cases e:bj b.rk t with
    | none=>rfl
    | some j=>have:=I.lt t j e;omega
   cases hc:ch r with
   | true=>
    rw [hc] at hl;obtain ⟨t,_,z⟩:=led_t.mp hl;exact z (no t)
   | false=>
    rw [hc] at hl;obtain ⟨t,ht'⟩:=exists_mem_of_ne_nil _ (hne r ht);exact led_f.mp hl t ht' (no t)
  ·refine ⟨fun hg=>(by rw [I.g h r hg] at hz;cases hz),?_⟩
   by_cases ht:r∈thr
   ·refine .inr fun hl=>?_
    have hx:=I.nx h
    rw [he] at hx;have:r∈ur w ch thr b.rk:=by
     unfold ur;refine List.mem_filter.mpr ⟨ht,?_⟩
     rw [hz];simp only [Option.isNone_none,Bool.true_and]
     exact led_iff.mpr (Aj hl fun t _ z=>by cases e:bj b.rk t with | none=>exact absurd e z | some j=>rfl)
    rw [<-hx] at this;simp at this
   ·exact .inl ht
theorem RI.step {w:Wd} {ch:Nat->Bool} {thr goal:List Nat} (hne0:∀r∈thr,w.stp r≠[]) {b:RS} {y:Option PV} (hthr:∀r∈thr,r<w.n) (hl:thr.length<=1000) (I:RI w ch thr goal b) (hne:b.fr≠[]) :
  RI w ch thr goal ⟨bG b.rk b.k b.fr,b.k+1,ur w ch thr (bG b.rk b.k b.fr),y⟩/\br (bG b.rk b.k b.fr)<br b.rk:=by
 have hfl:∀a∈b.fr,a<b.rk.length:=fun a ha=>by rw [I.len];exact (I.frn a ha).1
 have pt:∀t,bj (bG b.rk b.k b.fr) t=if t∈b.fr then some b.k else bj b.rk t:=fun t=>oe _ _ hfl
 refine ⟨⟨by rw [IL];exact I.len,fun r hr=>?_,?_,fun r j e=>?_,fun z=>absurd z (Nat.succ_ne_zero _),fun _ r hg=>?_,fun r j hr hg e=>?_,fun _=>rfl,fun r ht hz hl=>?_,fun r j hg e hl=>?_⟩,qv hne fun a ha=>?_⟩
 ·obtain ⟨h1,h2⟩:=List.mem_filter.mp hr
  simp only [Bool.and_eq_true,Option.isNone_iff_eq_none] at h2
  exact ⟨hthr r h1,h2.1⟩
 ·exact Nat.le_trans (length_filter_le _ _) hl
 ·rw [pt] at e
  show j<b.k+1
  split at e
  ·cases e;omega
  ·have:=I.lt r j e;omega
 ·show bj (bG b.rk b.k b.fr) r=some 0
  rw [pt];rcases Nat.eq_zero_or_pos b.k with h | h
  ·rw [I.zero h,if_pos hg,h]
  ·have:=I.g h r hg
   split
   ·rename_i z;rw [(I.frn r z).2] at this;cases this
   ·exact this
 ·have e:bj (bG b.rk b.k b.fr) r=some j:=e
  rw [pt] at e;split at e
  ·rename_i hm
   cases e;have hk:0<b.k:=by
    rcases Nat.eq_zero_or_pos b.k with h | h
    ·rw [I.zero h] at hm;exact absurd hm hg
    ·exact h
   have hx:=I.nx hk
   rw [hx] at hm;obtain ⟨h1,h2⟩:=List.mem_filter.mp hm;simp only [Bool.and_eq_true] at h2
   refine ⟨hk,h1,Aj (led_iff.mp h2.2) fun t _ z=>?_⟩
   cases e:bj b.rk t with
   | none=>rw [e] at z;cases z
   | some i=>
    refine ⟨i,?_,I.lt t i e⟩
    show bj (bG b.rk b.k b.fr) t=_
    rw [pt,if_neg (fun q=>by rw [(I.frn t q).2] at e;cases e),e]
  ·obtain ⟨h1,h2,h3⟩:=I.p r j hr hg e
   refine ⟨h1,h2,Aj h3 fun t _ ⟨i,hi,hlt⟩=>⟨i,?_,hlt⟩⟩
   show bj (bG b.rk b.k b.fr) t=_
   rw [pt,if_neg (fun q=>by rw [(I.frn t q).2] at hi;cases hi),hi]
 ·have hz:bj (bG b.rk b.k b.fr) r=none:=hz
  rw [pt] at hz;split at hz
  ·cases hz
  rename_i hf;have hl:led (ch r) (w.stp r) fun t=>∃i,bj (bG b.rk b.k b.fr) t=some i/\i+1<b.k+1:=hl
  have hl:led (ch r) (w.stp r) fun t=>∃i,bj b.rk t=some i/\i<b.k:=Aj hl fun t _ ⟨i,hi,hlt⟩=>by
   rw [pt] at hi;split at hi
   ·cases hi;omega
   ·exact ⟨i,hi,by omega⟩
  rcases Nat.eq_zero_or_pos b.k with h | h
  ·cases hc:ch r with
   | true=>
    rw [hc] at hl;obtain ⟨t,_,i,_,z⟩:=led_t.mp hl;omega
   | false=>
    rw [hc] at hl;obtain ⟨t,ht'⟩:=exists_mem_of_ne_nil _ (hne0 r ht);obtain ⟨i,_,z⟩:=led_f.mp hl t ht'
    omega
  ·refine hf ?_
   rw [I.nx h];refine List.mem_filter.mpr ⟨ht,?_⟩
   rw [hz];simp only [Option.isNone_none,Bool.true_and]
   exact led_iff.mpr (Aj hl fun t _ ⟨i,hi,_⟩=>by rw [hi];rfl)
 ·have e:bj (bG b.rk b.k b.fr) r=some j:=e
  have hl:led (ch r) (w.stp r) fun t=>∃i,bj (bG b.rk b.k b.fr) t=some i/\i+1<j:=hl
  have hj:j<=b.k:=by
   rw [pt] at e;split at e
   ·cases e;omega
   ·have:=I.lt r j e;omega
  have hl:led (ch r) (w.stp r) fun t=>∃i,bj b.rk t=some i/\i+1<j:=Aj hl fun t _ ⟨i,hi,hlt⟩=>by
   rw [pt] at hi;split at hi
   ·cases hi;omega
   ·exact ⟨i,hi,hlt⟩
  rw [pt] at e;split at e
  ·rename_i hm
   cases e;have hk:0<b.k:=by
    rcases Nat.eq_zero_or_pos b.k with h | h
    ·rw [I.zero h] at hm;exact absurd hm hg
    ·exact h
   have hm':=hm
   rw [I.nx hk] at hm';exact I.m1 r (List.mem_filter.mp hm').1 (I.frn r hm).2 hl
  ·exact I.m2 r j hg e hl
 ·obtain ⟨h1,h2⟩:=I.frn a ha
  unfold bj at h2;rw [LU,LR (by rw [I.len];exact h1)] at h2
  rw [LR (by rw [I.len];exact h1)]
  simpa using h2
abbrev GR (w:Wd) (cl:List Bool) (thr goal:List Nat) (b:RS):Ev:=[L5 w.enc,L5 (nh cl),L5 (ao thr),L5 (ao goal),some ⟨.lst .leaf,iE b.rk⟩,L5 (.int (b.k:Int)),L5 (ao b.fr),b.x8,none]
abbrev FU:FS:=(ak (cJ 7 (aN (ae 6))
  (dG 4 (ae 5) (ae 7)))
  (ak (eB 5 (eK (.int 1)))
  (aA false 6 (zV 4 Eb (ab (ae 0) (ab (ae 1) (ab (ae 2) (ab (ae 4) af))))))))
theorem w6 {w:Wd} (ok:w.Ok0) {cl:List Bool} {thr goal:List Nat} {b:RS} (hcl:cl.length=w.n) (hne0:∀r∈thr,w.stp r≠[]) (hthr:∀r∈thr,r<w.n) (hl:thr.length<=1000) (I:RI w (fA cl) thr goal b) (hne:b.fr≠[]) :
  ∃b',FU (GR w cl thr goal b)=.nx (GR w cl thr goal b')/\RI w (fA cl) thr goal b'/\br b'.rk<br b.rk:=by
 obtain ⟨y,e,_⟩:=Gn rm (fun (l:List (Option Nat)) r=>l.set r (some b.k)) (Inv:=fun l r=>l.length=w.n/\∀t∈r,t<w.n) (i:=7) (body:=dG 4 (ae 5) (ae 7))
  (G:=fun l x=>[L5 w.enc,L5 (nh cl),L5 (ao thr),L5 (ao goal),some ⟨.lst .leaf,iE l⟩,L5 (.int (b.k:Int)),L5 (ao b.fr),x,none])
  (fun _ _=>by simp) (fun _ _ _=>by simp) (fun l r rest ⟨h1,h2⟩=>by
   have hr:=h2 r mem_cons_self
   refine ⟨?_,by rw [length_set];exact h1,fun t ht=>h2 t (LW _ ht)⟩
   rw [Aw (ds:=l.map oD) (j:=r) (k:=(r:Int)) rfl (aw rfl) (aw rfl) (zZ (by rw [length_map,h1];exact hr)) rfl]
   simp [List.map_set,oD]) b.fr b.rk b.x8 ⟨I.len,fun t ht=>(I.frn t ht).1⟩
 obtain ⟨I',hm⟩:=RI.step (y:=y) hne0 hthr hl I hne
 refine ⟨⟨bG b.rk b.k b.fr,b.k+1,ur w (fA cl) thr (bG b.rk b.k b.fr),y⟩,?_,I',hm⟩
 have e2:=eh (fi:=aN (ae 6)) (Γ:=GR w cl thr goal b) (bB (ds:=b.fr.map rm) (aw rfl) rfl) e
 have dn:=vi ok (cl:=cl) (thr:=thr) (rk:=bG b.rk b.k b.fr) hcl hthr (by rw [IL];exact I.len) hl
 unfold FU;rw [cA,e2];have fr:mV ⟨.lst .leaf,ao (ur w (fA cl) thr (bG b.rk b.k b.fr))⟩=true:=by
  unfold mV;simp [aZ]
 have ec:∀Γ:Ev,Γ=[L5 w.enc,L5 (nh cl),L5 (ao thr),L5 (ao goal),some ⟨.lst .leaf,iE (bG b.rk b.k b.fr)⟩,L5 (.int ((b.k:Int)+1)),L5 (ao b.fr),y,none] ->
   zV 4 Eb (ab (ae 0) (ab (ae 1) (ab (ae 2) (ab (ae 4) af)))) Γ=.ok ⟨.lst .leaf,ao (ur w (fA cl) thr (bG b.rk b.k b.fr))⟩ Γ:=fun Γ hΓ=>by
  subst hΓ;unfold zV;simp [dn,fr]
 have pu:b.fr.foldl (fun l r=>l.set r (some b.k)) b.rk=bG b.rk b.k b.fr:=rfl
 rw [pu];simp [ec _ rfl]
theorem jr {w:Wd} (ok:w.Ok0) {cl:List Bool} {thr goal:List Nat} (hcl:cl.length=w.n) (hne0:∀r∈thr,w.stp r≠[]) (hthr:∀r∈thr,r<w.n) (hl:thr.length<=1000) (hgoal:∀r∈goal,r<w.n) (hgl:goal.length<=1000) :
  ∃rk,Jw [w.enc,nh cl,ao thr,ao goal]=.ok ⟨.lst .leaf,iE rk⟩/\nz w.n w.stp (fA cl) thr goal rk/\LJ w.stp (fA cl) goal rk:=by
 have lo:=ok.lo
 have h24:=ok.h24
 have i0:RI w (fA cl) thr goal ⟨w.os.map fun _=>none,0,goal,none⟩:=by
  have z:∀r,bj (w.os.map fun _=>none) r=none:=fun r=>by
   unfold bj;rw [LU,getElem?_map]
   cases w.os[r]?<;>rfl
  refine ⟨by simp [lo],fun r hr=>⟨hgoal r hr,z r⟩,hgl,fun r j e=>(by rw [z] at e;cases e),fun _=>rfl,fun h=>absurd h (by simp),fun r j _ _ e=>(by rw [z] at e;cases e),fun h=>absurd h (by simp),fun r ht _ hl=>?_,fun r j _ e=>(by rw [z] at e;cases e)⟩
  have hl:led (fA cl r) (w.stp r) fun t=>∃i,bj (w.os.map fun _=>none) t=some i/\i+1<0:=hl
  cases hc:fA cl r with
  | true=>
   rw [hc] at hl;obtain ⟨t,_,i,_,z⟩:=led_t.mp hl;omega
  | false=>
   rw [hc] at hl;obtain ⟨t,ht'⟩:=exists_mem_of_ne_nil _ (hne0 r ht);obtain ⟨i,_,z⟩:=led_f.mp hl t ht'
   omega
 obtain ⟨b',e,I,hf⟩:=D4 (c:=aP bu (ae 6)) (g:=FU) (G:=GR w cl thr goal) (test:=fun b=>!b.fr.isEmpty) (Inv:=RI w (fA cl) thr goal) (meas:=fun b=>br b.rk) (fun b I=>by simp) (fun b I hb=>w6 ok hcl hne0 hthr hl I (by intro z;rw [z] at hb;simp at hb)) 1000 _ i0 (by
  have:br (w.os.map fun _=>none)<=w.os.length:=by unfold br;exact Nat.le_trans (length_filter_le _ _) (by simp)
  show br (w.os.map fun _=>none)<1000
  omega)
 refine ⟨b'.rk,?_,I.right hne0 (by simpa using hf),I.m2⟩
 refine aM ?_
 have co:∀Γ:Ev,Γ.length=9->Γ[0]?=some (L5 w.enc)->ax .leaf 8 (aN (ai (ae 0) (eK (.int 0)))) aC (eK .none) Γ=.ok ⟨.lst .leaf,.list (w.os.map fun _=>.none)⟩ Γ:=fun Γ h1 h2=>by
  have:=i5 (fun d:D=>d) w.os (fun _=>⟨.leaf,.none⟩) (s:=.leaf) (i:=8) (fi:=aN (ai (ae 0) (eK (.int 0)))) (fe:=eK .none) (st:=true) (Γ:=Γ) (by simp [h2,Wd.enc]) (by omega) rfl (by omega) (fun x hx=>by simp)
  simpa using this
 have e:nC (aP bu (ae 6)) FU 1000 [L5 w.enc,L5 (nh cl),L5 (ao thr),L5 (ao goal),some ⟨.lst .leaf,.list (w.os.map fun _=>.none)⟩,L5 (.int 0),L5 (ao goal),none,none]=.nx (GR w cl thr goal b'):=by
  have q:iE (w.os.map fun _=>none)=.list (w.os.map fun _=>.none):=by
   unfold iE;rw [map_map];rfl
  rw [<-q];exact e
 unfold gz;rw [cA,oj,co _ rfl rfl];simp [aI]
 unfold pw;rw [e];simp
theorem GE {w:Wd} (ok:w.Ok) {s:Sn} {P:D} {thr goal:List Nat} (hw:(s.w=.su\/s.w=.au)\/(s.w=.sa\/s.w=.aa)) (ht:∃sh,coer .leaf ⟨sh,.tuple [ao thr,ao goal]⟩=true/\Dw [w.enc,s.enc,P]=.ok ⟨sh,.tuple [ao thr,ao goal]⟩) (hthr:∀r∈thr,r<w.n) (hl:thr.length<=1000) (hgoal:∀r∈goal,r<w.n) (hgl:goal.length<=1000) :
  ∃rk,As [w.enc,s.enc,P]=.ok ⟨.lst .leaf,iE rk⟩/\Right w s.w.some thr goal rk:=by
 obtain ⟨sh,hsh,ht⟩:=ht;have lo:=ok.g.lo
 have h24:=ok.h24
 obtain ⟨rk,e,R,_⟩:=jr ok.z (cl:=w.os.map fun _=>s.w.some) (by rw [length_map];exact lo) (fun r hr=>ok.stp_ne (hthr r hr)) hthr hl hgoal hgl
 have hch:∀r,r<w.n->fA (w.os.map fun _=>s.w.some) r=s.w.some:=fun r hr=>by
  unfold fA;rw [LU,getElem?_map,LR (by omega)]
  rfl
 refine ⟨rk,?_,⟨R.len,R.g,fun r k hr hg e=>?_,fun r hr e=>?_⟩⟩
 ·have hst:ai (ae 1) (eK (.int 0)) (aI 6 [w.enc,s.enc,P])=.ok ⟨.leaf,.str s.w.t⟩ (aI 6 [w.enc,s.enc,P]):=by
   cases s<;>simp [aI,Sn.enc,Sn.w]
  have s1:aA false 3 (ai (ae 1) (eK (.int 0))) (aI 6 [w.enc,s.enc,P])=.nx [L5 w.enc,L5 s.enc,L5 P,L5 (.str s.w.t),none,none]:=by
   rw [oj,hst];simp [aI]
  have s2:b7 (d9 (aP av (az (bh true) (ae 3) (eK vQ))) (aP av (az (bh true) (ae 3) (eK zh)))) (aF (eK .none)) aQ [L5 w.enc,L5 s.enc,L5 P,L5 (.str s.w.t),none,none]=.nx [L5 w.enc,L5 s.enc,L5 P,L5 (.str s.w.t),none,none]:=by
   rcases hw with z | z
   ·simp [z]
   ·by_cases z2:(s.w=.su\/s.w=.au)<;>simp [z,z2]
  have s3:aA false 4 (ag 3 Dw (ab (ae 0) (ab (ae 1) (ab (ae 2) af)))) [L5 w.enc,L5 s.enc,L5 P,L5 (.str s.w.t),none,none]=.nx [L5 w.enc,L5 s.enc,L5 P,L5 (.str s.w.t),L5 (.tuple [ao thr,ao goal]),none]:=by
   simp [ht,hsh]
  have c1:ax .leaf 5 (aN (ai (ae 0) (eK (.int 0)))) aC (az (bh false) (ae 3) (eK Dt)) [L5 w.enc,L5 s.enc,L5 P,L5 (.str s.w.t),L5 (.tuple [ao thr,ao goal]),none]=.ok ⟨.lst .leaf,nh (w.os.map fun _=>s.w.some)⟩ [L5 w.enc,L5 s.enc,L5 P,L5 (.str s.w.t),L5 (.tuple [ao thr,ao goal]),none]:=by
   have:=i5 (fun d:D=>d) w.os (fun _=>⟨.leaf,.bool s.w.some⟩) (s:=.leaf) (i:=5) (fi:=aN (ai (ae 0) (eK (.int 0)))) (fe:=az (bh false) (ae 3) (eK Dt)) (st:=true) (Γ:=[L5 w.enc,L5 s.enc,L5 P,L5 (.str s.w.t),L5 (.tuple [ao thr,ao goal]),none]) (by simp [Wd.enc]) (by simp) rfl (by omega) (fun x hx=>by simp)
   rw [this];simp
  refine aM ?_
  unfold Jk;rw [cA,s1];simp only
  rw [cA,s2];simp only
  rw [cA,s3];simp only
  exact aS (bq (aq (aw rfl) (aq c1 (aq (vY (j:=0) (ds:=[ao thr,ao goal]) (aw rfl) aO rfl rfl rfl) (aq (vY (j:=1) (ds:=[ao thr,ao goal]) (aw rfl) aO rfl rfl rfl) ah)))) e rfl rfl) rfl
 ·have:=R.p r k hr hg e
  rw [hch r hr] at this;exact this
 ·have:=R.z r hr e
  rw [hch r hr] at this;exact this
def dk (w:Wd):Sn->Nat->Prop
 | .yes,_=>True
 | .mk c,r=>c∈w.mks r
 | .un .not a,r=>¬dk w a r
 | .un .sn a,r=>∃t∈w.stp r,dk w a t
 | .un .an a,r=>∀t∈w.stp r,dk w a t
 | .un .sa a,r=>¬Unt w false (fun _=>True) (fun t=>¬dk w a t) r
 | .un .aa a,r=>¬Unt w true (fun _=>True) (fun t=>¬dk w a t) r
 | .bi .and a b,r=>dk w a r/\dk w b r
 | .bi .or a b,r=>dk w a r\/dk w b r
 | .bi .su a b,r=>Unt w true (dk w a) (dk w b) r
 | .bi .au a b,r=>Unt w false (dk w a) (dk w b) r
noncomputable def cf (w:Wd) (s:Sn) (r:Nat):Bool:=@decide (dk w s r) (Classical.propDecidable _)
theorem satB_iff {w:Wd} {s:Sn} {r:Nat}:cf w s r=true↔dk w s r:=by
 unfold cf;exact @decide_eq_true_iff _ (Classical.propDecidable _)
theorem rN {w:Wd} {s:Sn} {r:Nat} {b:Bool} (h:b=true↔dk w s r):b=cf w s r:=by
 rw [Bool.eq_iff_iff,h,satB_iff]
noncomputable def aY (w:Wd) (s:Sn):List Nat:=(List.range w.n).filter (cf w s)
theorem mem_rof {w:Wd} {s:Sn} {r:Nat}:r∈aY w s↔r<w.n/\dk w s r:=by
 unfold aY;rw [List.mem_filter,mem_range,satB_iff]
theorem vL {w:Wd} {s:Sn} {r:Nat} (hr:r<w.n):(aY w s).contains r=cf w s r:=by
 rw [Bool.eq_iff_iff,contains_iff_mem,mem_rof,satB_iff];exact ⟨fun h=>h.2,fun h=>⟨hr,h⟩⟩
theorem Unt.congr {w:Wd} (ok:w.Ok) {any:Bool} {P P' Q Q':Nat->Prop} (hp:∀t,t<w.n->P t->P' t) (hq:∀t,t<w.n->Q t->Q' t) {r:Nat} (hr:r<w.n) (h:Unt w any P Q r):Unt w any P' Q' r:=by
 induction h with
 | now q=>exact .now (hq _ hr q)
 | some e p ht _ ih=>exact .some e (hp _ hr p) ht (ih (ok.stp_lt ht))
 | all e p _ ih=>exact .all e (hp _ hr p) fun t ht=>ih t ht (ok.stp_lt ht)
theorem Cs {c:Str} {r:List Str} (hc:PyData.strOk c=true) (h:∀x∈r,PyData.strOk x=true):bh false (.str c) (sm r)=some (.bool (r.contains c)):=by
 have hs:ie (r.map PyData.str):=fun a ha=>by
  obtain ⟨x,hx,rfl⟩:=List.mem_map.mp ha;exact ⟨x,rfl,h x hx⟩
 rw [sm,Cv hc hs];congr 2
 unfold has;simp only [List.any_map]
 rw [Bool.eq_iff_iff,any_eq_true,contains_iff_mem];constructor
 ·rintro ⟨x,hx,e⟩
  have:PyData.eqv (.str x) (.str c)=true:=e
  have:x=c:=by simpa [PyData.eqv] using this
  rw [<-this];exact hx
 ·intro hx
  exact ⟨c,hx,by show PyData.eqv (.str c) (.str c)=true;simp [PyData.eqv]⟩
abbrev bM (ps:List (List Nat)):D:=.list (ps.map ao)
theorem zL {ps:List (List Nat)} {r:Nat} {Γ:Ev} (hl:Γ.length=9) (h2:Γ[2]?=some (L5 (bM ps))) (h4:Γ[4]?=some (L5 (rm r))) (hn:ps.length<=10000) :
  ax .leaf 7 (aN (ae 2)) aC (az (bh false) (ae 4) (ae 7)) Γ=.ok ⟨.lst .leaf,.list (ps.map fun R=>.bool (R.contains r))⟩ Γ:=by
 refine i5 ao ps (fun R=>⟨.leaf,.bool (R.contains r)⟩) (st:=true) (by simp [h2]) (by omega) rfl hn fun R hR=>?_
 have g4:(Γ.set 7 (L5 (ao R)))[4]?=some (L5 (rm r)):=by rw [getElem?_set_ne (by omega)];exact h4
 have g7:(Γ.set 7 (L5 (ao R)))[7]?=some (L5 (ao R)):=getElem?_set_self (by omega)
 refine ⟨?_,rfl⟩
 rw [Bs,oh,g4];simp only [tK,vJ]
 rw [oh,g7];simp only [tK,vJ,Dd]
theorem nV {w:Wd} (ok:w.Ok) {r:Nat}:(w.stp r).length<=10000:=by
 unfold Wd.stp;rw [LU]
 cases e:w.s[r]? with
 | none=>simp
 | some x=>
  have:=(ok.st x (mem_of_getElem? e)).2.1
  simp only [Option.getD_some]
  omega
theorem Eu {w:Wd} (ok:w.Ok) {R:List Nat} {ps:List (List Nat)} {r:Nat} (hr:r<w.n) {Γ:Ev} (hl:Γ.length=9) (h0:Γ[0]?=some (L5 w.enc)) (h2:Γ[2]?=some (L5 (bM (R::ps)))) (h4:Γ[4]?=some (L5 (rm r))) :
  ax .leaf 8 (aN (ai (ai (ae 0) (eK (.int 2))) (ae 4))) aC (az (bh false) (ae 8) (ai (ae 2) (eK (.int 0)))) Γ=.ok ⟨.lst .leaf,.list ((w.stp r).map fun t=>.bool (R.contains t))⟩ Γ:=by
 have a2:=ok.at2 hr
 refine i5 rm (w.stp r) (fun t=>⟨.leaf,.bool (R.contains t)⟩) (st:=true) (by simp [h0,h4,Wd.enc,a2]) (by omega) rfl (nV ok) fun t ht=>?_
 have g2:(Γ.set 8 (L5 (rm t)))[2]?=some (L5 (bM (R::ps))):=by rw [getElem?_set_ne (by omega)];exact h2
 have g8:(Γ.set 8 (L5 (rm t)))[8]?=some (L5 (rm t)):=getElem?_set_self (by omega)
 refine ⟨?_,rfl⟩
 rw [Bs,oh,g8];simp only [tK,vJ]
 rw [bT,oh,g2];simp [Dd]
def C2 (w:Wd) (s:Sn) (R:D):Prop:=match s with
 | .bi .su a b=>∃rk,R=iE rk/\Right w true (aY w a) (aY w b) rk
 | .bi .au a b=>∃rk,R=iE rk/\Right w false (aY w a) (aY w b) rk
 | .un .sa a=>∃rk,R=iE rk/\Right w false (List.range w.n) ((List.range w.n).filter fun t=>!(aY w a).contains t) rk
 | .un .aa a=>∃rk,R=iE rk/\Right w true (List.range w.n) ((List.range w.n).filter fun t=>!(aY w a).contains t) rk
 | _=>R=.none
theorem nO {w:Wd} (ok:w.Ok) {any:Bool} {a b:Sn} {r:Nat} (hr:r<w.n):Unt w any (·∈aY w a) (·∈aY w b) r↔Unt w any (dk w a) (dk w b) r:=
 ⟨Unt.congr ok (fun t _ h=>(mem_rof.mp h).2) (fun t _ h=>(mem_rof.mp h).2) hr,Unt.congr ok (fun t ht h=>mem_rof.mpr ⟨ht,h⟩) (fun t ht h=>mem_rof.mpr ⟨ht,h⟩) hr⟩
theorem nP {w:Wd} (ok:w.Ok) {any:Bool} {a:Sn} {r:Nat} (hr:r<w.n):Unt w any (·∈List.range w.n) (·∈(List.range w.n).filter fun t=>!(aY w a).contains t) r↔Unt w any (fun _=>True) (fun t=>¬dk w a t) r:=by
 have q:∀t,t<w.n->(t∈(List.range w.n).filter fun t=>!(aY w a).contains t)\/dk w a t:=fun t ht=>by
  by_cases h:dk w a t
  ·exact .inr h
  ·refine .inl (List.mem_filter.mpr ⟨List.mem_range.mpr ht,?_⟩)
   rw [vL ht]
   cases e:cf w a t with
   | false=>rfl
   | true=>exact absurd (satB_iff.mp e) h
 constructor
 ·refine Unt.congr ok (fun _ _ _=>trivial) (fun t ht h hs=>?_) hr
  have:=(List.mem_filter.mp h).2
  rw [vL ht,satB_iff.mpr hs] at this
  cases this
 ·exact Unt.congr ok (fun t ht _=>List.mem_range.mpr ht) (fun t ht h=>(q t ht).elim id fun z=>absurd z h) hr
theorem fV {o:Option Nat}:(!o.isNone)=true↔o≠none:=by cases o<;>simp
theorem oR {o:Option Nat}:o.isNone=true↔¬o≠none:=by cases o<;>simp
theorem Kz {a b:Bool}:bK true [.list [.bool a,.bool b]]=some (.bool (a||b)):=by cases a<;>cases b<;>rfl
theorem all2 {a b:Bool}:bK false [.list [.bool a,.bool b]]=some (.bool (a&&b)):=by cases a<;>cases b<;>rfl
theorem ju {w:Wd} (ok:w.Ok) {s:Sn} (hs:s.ok) {R:D} (hR:C2 w s R) {r:Nat} (hr:r<w.n):GK [w.enc,s.enc,bM (s.args.map (aY w)),R,rm r]=.ok ⟨.leaf,.bool (cf w s r)⟩:=by
 refine aM ?_
 have a1:=ok.at1 hr
 have a2:=ok.at2 hr
 cases s with
 | yes=>
  have e:true=cf w .yes r:=rN (by simp [dk])
  rw [<-e];simp [rC,aI,Sn.enc]
 | mk c=>
  have e:(w.mks r).contains c=cf w (.mk c) r:=rN (by rw [contains_iff_mem];rfl)
  have hm:∀x∈w.mks r,PyData.strOk x=true:=fun x hx=>by
   unfold Wd.mks at hx;rw [LU,LR (by rw [ok.lm];exact hr)] at hx
   exact ok.mc _ (getElem_mem _) x hx
  rw [<-e];simp [rC,aI,Sn.enc,Wd.enc,a1,Cs (uH hs).1 hm]
 | un k a=>
  have hc:=zL (ps:=[aY w a]) (r:=r) (Γ:=[L5 w.enc,L5 ((Sn.un k a).enc),L5 (bM [aY w a]),L5 R,L5 (rm r),L5 (.str k.w.t),none,none,none]) rfl rfl rfl (by simp)
  have sc:=Eu ok (R:=aY w a) (ps:=[]) hr (Γ:=[L5 w.enc,L5 ((Sn.un k a).enc),L5 (bM [aY w a]),L5 R,L5 (rm r),L5 (.str k.w.t),L5 (.list [.bool ((aY w a).contains r)]),none,none]) rfl rfl rfl rfl
  have dl:=o4 (c:=k.w.some) (bs:=(w.stp r).map fun t=>(aY w a).contains t)
  rw [map_map] at dl;have dl:zd [.bool k.w.some,.list ((w.stp r).map fun t=>.bool ((aY w a).contains t))]=_:=dl
  have stB:∀t∈w.stp r,(aY w a).contains t=true↔dk w a t:=fun t ht=>by rw [vL (ok.stp_lt ht),satB_iff]
  simp only [Sn.enc] at hc sc
  cases k with
  | not=>
   have e:(!(aY w a).contains r)=cf w (.un .not a) r:=rN (by rw [vL hr];simp [dk,<-satB_iff])
   rw [<-e];simp [U5.w] at hc
   simp [rC,aI,Sn.enc,Sn.args,U5.w,hc]
  | sn=>
   have e:fZ true ((w.stp r).map fun t=>(aY w a).contains t)=cf w (.un .sn a) r:=rN (by
    rw [led_iff];simp only [led,dk,if_true]
    exact ⟨fun ⟨t,ht,h⟩=>⟨t,ht,(stB t ht).mp h⟩,fun ⟨t,ht,h⟩=>⟨t,ht,(stB t ht).mpr h⟩⟩)
   have wk:U5.sn.w.some=true:=rfl
   have wk2:Wr.sn.some=true:=rfl
   rw [wk,e] at dl;simp [U5.w] at hc sc dl
   simp [rC,aI,Sn.enc,Sn.args,U5.w,hc,sc,dl,wk2]
  | an=>
   have e:fZ false ((w.stp r).map fun t=>(aY w a).contains t)=cf w (.un .an a) r:=rN (by
    rw [led_iff];simp only [led,dk,Bool.false_eq_true,if_false]
    exact ⟨fun h t ht=>(stB t ht).mp (h t ht),fun h t ht=>(stB t ht).mpr (h t ht)⟩)
   have wk:U5.an.w.some=false:=rfl
   have wk2:Wr.an.some=false:=rfl
   rw [wk,e] at dl;simp [U5.w] at hc sc dl
   simp [rC,aI,Sn.enc,Sn.args,U5.w,hc,sc,dl,wk2]
  | sa=>
   obtain ⟨rk,rfl,hR⟩:=hR;have a3:=i4 (rk:=rk) (t:=r) (by rw [hR.len];exact hr)
   have e:(bj rk r).isNone=cf w (.un .sa a) r:=rN (by rw [oR,hR.iff ok hr,nP ok hr];rfl)
   rw [<-e];simp [rC,aI,Sn.enc,Sn.args,U5.w,a3]
  | aa=>
   obtain ⟨rk,rfl,hR⟩:=hR;have a3:=i4 (rk:=rk) (t:=r) (by rw [hR.len];exact hr)
   have e:(bj rk r).isNone=cf w (.un .aa a) r:=rN (by rw [oR,hR.iff ok hr,nP ok hr];rfl)
   rw [<-e];simp [rC,aI,Sn.enc,Sn.args,U5.w,a3]
 | bi k a b=>
  have hc:=zL (ps:=[aY w a,aY w b]) (r:=r) (Γ:=[L5 w.enc,L5 ((Sn.bi k a b).enc),L5 (bM [aY w a,aY w b]),L5 R,L5 (rm r),L5 (.str k.w.t),none,none,none]) rfl rfl rfl (by simp)
  simp only [Sn.enc] at hc
  cases k with
  | and=>
   have e:((aY w a).contains r&&(aY w b).contains r)=cf w (.bi .and a b) r:=rN (by rw [vL hr,vL hr,Bool.and_eq_true,satB_iff,satB_iff];rfl)
   rw [<-e];simp [B4.w] at hc
   simp [rC,aI,Sn.enc,Sn.args,B4.w,hc,all2]
  | or=>
   have e:((aY w a).contains r||(aY w b).contains r)=cf w (.bi .or a b) r:=rN (by rw [vL hr,vL hr,Bool.or_eq_true,satB_iff,satB_iff];rfl)
   rw [<-e];simp [B4.w] at hc
   simp [rC,aI,Sn.enc,Sn.args,B4.w,hc,Kz]
  | su=>
   obtain ⟨rk,rfl,hR⟩:=hR;have a3:=i4 (rk:=rk) (t:=r) (by rw [hR.len];exact hr)
   have e:(!(bj rk r).isNone)=cf w (.bi .su a b) r:=rN (by rw [fV,hR.iff ok hr,nO ok hr];rfl)
   rw [<-e];simp [rC,aI,Sn.enc,Sn.args,B4.w,a3]
  | au=>
   obtain ⟨rk,rfl,hR⟩:=hR;have a3:=i4 (rk:=rk) (t:=r) (by rw [hR.len];exact hr)
   have e:(!(bj rk r).isNone)=cf w (.bi .au a b) r:=rN (by rw [fV,hR.iff ok hr,nO ok hr];rfl)
   rw [<-e];simp [rC,aI,Sn.enc,Sn.args,B4.w,a3]
theorem FV {w:Wd} {s:Sn}:∀r∈aY w s,r<w.n:=fun r hr=>(mem_rof.mp hr).1
theorem Ge {w:Wd} (ok:w.Ok) {s:Sn}:(aY w s).length<=1000:=by
 have:=ok.h24
 exact Nat.le_trans (length_filter_le _ _) (by simp;omega)
theorem JL {Γ Γ1:Ev} {fl:FL} {ps:List PV} {k:Int} (hl:fl Γ=.ok ps Γ1) (hp:ps.map (·.d)=[.int k]) (h0:0<=k) (h1:k<=1000):CM fl Γ=.ok ⟨.lst .leaf,.list (bA 0 k.toNat)⟩ Γ1:=by
 have h3:bV k=true:=Ct (by omega) (by omega)
 have hb:=Dj
 have h4:k<=(sizeLine:Int):=by omega
 unfold CM;rw [hl];simp only [Out.bind,hp,gP,h3,if_true,h4]
theorem FM {w:Wd} (ok:w.Ok) {Γ:Ev} (h0:Γ[0]?=some (L5 w.enc)):CM (ab (ba aV (ab (ai (ae 0) (eK (.int 0))) af)) af) Γ=.ok ⟨.lst .leaf,ao (List.range w.n)⟩ Γ:=by
 have lo:=ok.g.lo
 have h24:=ok.h24
 rw [JL (Γ1:=Γ) (ps:=[⟨.leaf,.int w.n⟩]) (k:=(w.n:Int)) (by simp [h0,Wd.enc,lo]) rfl (by omega) (by omega),Int.toNat_natCast,Gd]
theorem gq {w:Wd} {s:Sn} {A B:List Nat} (hw:s.w=.su\/s.w=.au):Dw [w.enc,s.enc,bM [A,B]]=.ok ⟨.tup [.leaf,.leaf],.tuple [ao A,ao B]⟩:=by
 have hst:ai (ae 1) (eK (.int 0)) (aI 3 [w.enc,s.enc,bM [A,B]])=.ok ⟨.leaf,.str s.w.t⟩ (aI 3 [w.enc,s.enc,bM [A,B]]):=by
  cases s<;>simp [aI,Sn.enc,Sn.w]
 refine aM ?_
 unfold bW;rw [cA,J3,EE,Bs,hst];simp [hw,aI,zo]
theorem xK {w:Wd} (ok:w.Ok) {x:PV} {A:List Nat}:ag 2 GY (ab (ae 0) (ab (ai (ae 2) (eK (.int 0))) af)) [L5 w.enc,some x,L5 (bM [A])]=.ok ⟨.lst .leaf,ao ((List.range w.n).filter fun t=>!A.contains t)⟩ [L5 w.enc,some x,L5 (bM [A])]:=
 bq (ps:=[⟨.leaf,w.enc⟩,⟨.leaf,ao A⟩]) (aq (aw rfl) (aq (vK (j:=0) (ds:=[ao A]) (aw rfl) aO rfl rfl rfl) ah)) (fx ok (r:=A)) rfl rfl
theorem gr {w:Wd} (ok:w.Ok) {s:Sn} {A:List Nat} (hw:¬(s.w=.su\/s.w=.au)):Dw [w.enc,s.enc,bM [A]]=.ok ⟨.tup [.lst .leaf,.lst .leaf],.tuple [ao (List.range w.n),ao ((List.range w.n).filter fun t=>!A.contains t)]⟩:=by
 have hst:ai (ae 1) (eK (.int 0)) [L5 w.enc,L5 s.enc,L5 (bM [A])]=.ok ⟨.leaf,.str s.w.t⟩ [L5 w.enc,L5 s.enc,L5 (bM [A])]:=by
  cases s<;>simp [Sn.enc,Sn.w]
 have lr:=FM ok (Γ:=[L5 w.enc,L5 s.enc,L5 (bM [A])]) rfl
 refine aM (ay (Γ1:=[L5 w.enc,L5 s.enc,L5 (bM [A])]) (bF (t:=false) (Γ1:=[L5 w.enc,L5 s.enc,L5 (bM [A])]) (fG (s:=.leaf) (aE hst aO (by show bh false (.str s.w.t) vQ=_;rw [uP,decide_eq_false hw]))) nofun (fun _=>rfl)) (aS (bw (aq lr (aq (xK ok) ah)) rfl rfl) rfl))
theorem p7 {w:Wd} (ok:w.Ok) {s:Sn}:∃p:PV,As [w.enc,s.enc,bM (s.args.map (aY w))]=.ok p/\coer .leaf p=true/\C2 w s p.d:=by
 have h24:=ok.h24
 have plain:∀s:Sn,¬(s.w=.su\/s.w=.au)->¬(s.w=.sa\/s.w=.aa)->∀P:D,As [w.enc,s.enc,P]=.ok ⟨.leaf,.none⟩:=fun s h1 h2 P=>by
  have hst:ai (ae 1) (eK (.int 0)) (aI 6 [w.enc,s.enc,P])=.ok ⟨.leaf,.str s.w.t⟩ (aI 6 [w.enc,s.enc,P]):=by
   cases s<;>simp [aI,Sn.enc,Sn.w]
  refine aM ?_
  unfold Jk;rw [cA,oj,hst];simp [aI,h1,h2]
 have gl:∀a:Sn,(∀r∈(List.range w.n).filter (fun t=>!(aY w a).contains t),r<w.n)/\((List.range w.n).filter fun t=>!(aY w a).contains t).length<=1000:=fun a=>
  ⟨fun r hr=>List.mem_range.mp (List.mem_filter.mp hr).1,Nat.le_trans (length_filter_le _ _) (by simp;omega)⟩
 cases s with
 | yes=>exact ⟨_,plain .yes (by simp [Sn.w]) (by simp [Sn.w]) _,rfl,rfl⟩
 | mk c=>exact ⟨_,plain (.mk c) (by simp [Sn.w]) (by simp [Sn.w]) _,rfl,rfl⟩
 | un k a=>
  cases k with
  | not=>exact ⟨_,plain (.un .not a) (by simp [Sn.w,U5.w]) (by simp [Sn.w,U5.w]) _,rfl,rfl⟩
  | sn=>exact ⟨_,plain (.un .sn a) (by simp [Sn.w,U5.w]) (by simp [Sn.w,U5.w]) _,rfl,rfl⟩
  | an=>exact ⟨_,plain (.un .an a) (by simp [Sn.w,U5.w]) (by simp [Sn.w,U5.w]) _,rfl,rfl⟩
  | sa=>
   obtain ⟨rk,e,R⟩:=GE ok (s:=.un .sa a) (P:=bM [aY w a]) (.inr (.inl rfl)) ⟨_,rfl,gr ok (by simp [Sn.w,U5.w])⟩ (fun r hr=>List.mem_range.mp hr) (by simp;omega) (gl a).1 (gl a).2
   exact ⟨_,e,rfl,rk,rfl,R⟩
  | aa=>
   obtain ⟨rk,e,R⟩:=GE ok (s:=.un .aa a) (P:=bM [aY w a]) (.inr (.inr rfl)) ⟨_,rfl,gr ok (by simp [Sn.w,U5.w])⟩ (fun r hr=>List.mem_range.mp hr) (by simp;omega) (gl a).1 (gl a).2
   exact ⟨_,e,rfl,rk,rfl,R⟩
 | bi k a b=>
  cases k with
  | and=>exact ⟨_,plain (.bi .and a b) (by simp [Sn.w,B4.w]) (by simp [Sn.w,B4.w]) _,rfl,rfl⟩
  | or=>exact ⟨_,plain (.bi .or a b) (by simp [Sn.w,B4.w]) (by simp [Sn.w,B4.w]) _,rfl,rfl⟩
  | su=>
   obtain ⟨rk,e,R⟩:=GE ok (s:=.bi .su a b) (P:=bM [aY w a,aY w b]) (.inl (.inl rfl)) ⟨_,rfl,gq (.inl rfl)⟩ FV (Ge ok) FV (Ge ok)
   exact ⟨_,e,rfl,rk,rfl,R⟩
  | au=>
   obtain ⟨rk,e,R⟩:=GE ok (s:=.bi .au a b) (P:=bM [aY w a,aY w b]) (.inl (.inr rfl)) ⟨_,rfl,gq (.inr rfl)⟩ FV (Ge ok) FV (Ge ok)
   exact ⟨_,e,rfl,rk,rfl,R⟩
theorem jq {w:Wd} (ok:w.Ok) {s:Sn} (hs:s.ok) {R:D} (hR:C2 w s R):GN [w.enc,s.enc,bM (s.args.map (aY w)),R]=.ok ⟨.lst .leaf,ao (aY w s)⟩:=by
 have lo:=ok.g.lo
 have h24:=ok.h24
 have e:ax .leaf 4 (dz (ab (ba aV (ab (ai (ae 0) (eK (.int 0))) af)) af)) (aP bu (ag 5 GK (ab (ae 0) (ab (ae 1) (ab (ae 2) (ab (ae 3) (ab (ae 4) af))))))) (ae 4) (aI 5 [w.enc,s.enc,bM (s.args.map (aY w)),R])=.ok ⟨.lst .leaf,.list (((List.range w.n).filter (cf w s)).map fun t=>rm t)⟩ (aI 5 [w.enc,s.enc,bM (s.args.map (aY w)),R]):=by
  refine Di rm (List.range w.n) (cf w s) (fun t=>⟨.leaf,rm t⟩) (st:=true) ?_ (by simp [aI]) rfl (by simp;omega) (fun t ht=>?_) (fun t ht _=>?_)
  ·refine (pA (k:=(w.n:Int)) (ps:=[⟨.leaf,.int w.n⟩]) ?_ rfl (by omega) (by omega)).trans (by rw [<-Gd];rfl)
   simp [aI,Wd.enc,lo]
  ·have:=ju ok hs hR (List.mem_range.mp ht)
   simp [aI,this]
  ·simp [aI]
 refine aM ?_
 unfold gy;rw [tJ,e];rfl
theorem gu {w:Wd} (ok:w.Ok):∀(n:Nat) (s:Sn),s.ok->s.dep<=n->Ak n [w.enc,s.enc]=.ok ⟨.lst .leaf,ao (aY w s)⟩
 | 0,s,_,h=>by
  have:=s.dep_args
  omega
 | n+1,s,hs,h=>by
  have da:∀a∈s.args,a.dep<=n:=fun a ha=>by
   have h1:=s.dep_args
   have:a.dep<=cN s.args:=by
    have:∀l:List Sn,a∈l->a.dep<=cN l:=fun l=>by
     induction l with
     | nil=>intro h;simp at h
     | cons b r ih=>
      intro h;rw [GF];rcases LQ h with rfl | h
      ·exact Nat.le_max_left _ _
      ·exact Nat.le_trans (ih h) (Nat.le_max_right _ _)
    exact this _ ha
   omega
  have pa:=IY s
  have c:ax .leaf 3 (cZ (ag 1 lV (ab (ae 1) af))) aC (ag 2 (Ak n) (ab (ae 0) (ab (ae 3) af))) (aI 4 [w.enc,s.enc])=.ok ⟨.lst .leaf,.list (s.args.map fun a=>ao (aY w a))⟩ (aI 4 [w.enc,s.enc]):=by
   refine i5 Sn.enc s.args (fun a=>⟨.lst .leaf,ao (aY w a)⟩) (st:=true) ?_ (by simp [aI]) rfl (by have:=s.args_le;omega) fun a ha=>?_
   ·simp [aI,pa,bH]
   ·have:=gu ok n a (Sn.args_ok hs a ha) (da a ha)
    simp [aI,this]
  obtain ⟨p,e1,e2,e3⟩:=p7 ok (s:=s)
  have rb:=jq ok hs e3
  have em:(s.args.map fun a=>ao (aY w a))=(s.args.map (aY w)).map ao:=by rw [map_map];rfl
  rw [em] at c;show aB 4 (IC (Ak n)) [w.enc,s.enc]=_
  refine aM ?_
  have s1:aA false 2 (ax .leaf 3 (cZ (ag 1 lV (ab (ae 1) af))) aC (ag 2 (Ak n) (ab (ae 0) (ab (ae 3) af)))) (aI 4 [w.enc,s.enc])=.nx [L5 w.enc,L5 s.enc,L5 (bM (s.args.map (aY w))),none]:=by
   rw [oj,c];simp [aI]
  have s2:ag 3 As (ab (ae 0) (ab (ae 1) (ab (ae 2) af))) [L5 w.enc,L5 s.enc,L5 (bM (s.args.map (aY w))),none]=.ok p [L5 w.enc,L5 s.enc,L5 (bM (s.args.map (aY w))),none]:=
   bq (aq (aw rfl) (aq (aw rfl) (aq (aw rfl) ah))) e1 rfl rfl
  have s3:ag 4 GN (ab (ae 0) (ab (ae 1) (ab (ae 2) (ab (ag 3 As (ab (ae 0) (ab (ae 1) (ab (ae 2) af)))) af)))) [L5 w.enc,L5 s.enc,L5 (bM (s.args.map (aY w))),none]=.ok ⟨.lst .leaf,ao (aY w s)⟩ [L5 w.enc,L5 s.enc,L5 (bM (s.args.map (aY w))),none]:=
   bq (aq (aw rfl) (aq (aw rfl) (aq (aw rfl) (aq s2 ah)))) rb rfl (by simp only [List.all_cons,Bu,e2,List.all_nil,Bool.and_self])
  unfold IC;rw [cA,s1];simp only
  rw [tJ,s3];rfl
theorem Wd.Ok.check {w:Wd} (ok:w.Ok):Aq [w.enc]=.ok ⟨.leaf,.none⟩:=qT (ok.g.wk (b:=24) ok.h24) (by omega) (ok.g.isW ok.h1 ok.h24)
end KC
namespace T
open PySem PySem.Spec L2
open PyProof.Rows hiding St
theorem iP {α:Type} (en:α->D) {i:Nat} {body:FS} {Inv:List α->Ev->Prop} (hb:∀a r Γ,Inv (a::r) Γ->i<Γ.length/\∃Γ',body (Γ.set i (L5 (en a)))=.nx Γ'/\Inv r Γ'):∀(xs:List α) (Γ:Ev),Inv xs Γ->∃Γ',bp i body (xs.map en) Γ=.nx Γ'/\Inv [] Γ'
 | [],Γ,h=>⟨Γ,rfl,h⟩
 | a::r,Γ,h=>by
  obtain ⟨hi,Γ1,h1,h2⟩:=hb a r Γ h;obtain ⟨Γ2,e,h3⟩:=iP en hb r Γ1 h2;refine ⟨Γ2,?_,h3⟩
  rw [map_cons,bp,if_pos hi,h1];exact e
theorem nN {Γ Γ1 Γ2:Ev} {fa fb:F1} {s s':Sh} {xs ys:List D} (ha:fa Γ=.ok ⟨s,.list xs⟩ Γ1) (hb:fb Γ1=.ok ⟨s',.list ys⟩ Γ2) (h1:bH ⟨s,.list xs⟩ xs=true) (h2:bH ⟨s',.list ys⟩ ys=true) (hn:xs.length+ys.length<=10000):g5 fa fb Γ=.ok ⟨.lst .leaf,.list (xs++ys)⟩ Γ2:=by
 have hb':(10000:Nat)<=sizeLine:=by decide
 have:xs.length+ys.length<=sizeLine:=Nat.le_trans hn hb'
 unfold g5 aK;rw [ha];simp only [vJ]
 rw [hb];simp only [vJ,h1,h2,decide_eq_true this,Bool.and_self,if_true]
end T
namespace KC
open PySem PySem.Spec L2 T PySem.SeqAt
open PyProof.Rows hiding St
theorem Ej {n:Nat} {os ms ss:List D} (g:Gw (n:Int) n os ms ss) (h1:1<=n) (h24:n<=24):∃w:Wd,w.Ok/\w.enc=dD os ms ss/\w.n=n:=by
 have hm:∀l:List D,(∀r∈l,∃xs,r=.list xs/\ie xs)->∃M:List (List Str),l=M.map sm/\∀r∈M,∀c∈r,PyData.strOk c=true:=by
  have one:∀xs:List D,ie xs->∃r:List Str,xs=r.map .str/\∀c∈r,PyData.strOk c=true:=by
   intro xs;induction xs with
   | nil=>intro _;exact ⟨[],rfl,by simp⟩
   | cons a r ih=>
    intro h;obtain ⟨x,rfl,hx⟩:=h a mem_cons_self;obtain ⟨t,rfl,ht⟩:=ih fun b hb=>h b (LW _ hb)
    exact ⟨x::t,rfl,fun c hc=>(LQ hc).elim (fun e=>by rw [e];exact hx) (ht c)⟩
  intro l;induction l with
  | nil=>intro _;exact ⟨[],rfl,by simp⟩
  | cons a r ih=>
   intro h;obtain ⟨xs,rfl,hx⟩:=h a mem_cons_self;obtain ⟨x,rfl,hx2⟩:=one xs hx;obtain ⟨M,rfl,hM⟩:=ih fun b hb=>h b (LW _ hb)
   exact ⟨x::M,rfl,fun c hc=>(LQ hc).elim (fun e=>by rw [e];exact hx2) (hM c)⟩
 have hs:∀l:List D,(∀r∈l,∃ts:List Int,r=.list (ts.map .int)/\ts.length<=30/\ts≠[]/\(∀t∈ts,0<=t/\t<(n:Int))/\ts.Pairwise (· < ·))->∃S:List (List Nat),l=S.map ao/\∀r∈S,r≠[]/\r.length<=30/\∀t∈r,t<n:=by
  have one:∀ts:List Int,(∀t∈ts,0<=t/\t<(n:Int))->∃r:List Nat,ts.map PyData.int=r.map rm/\r.length=ts.length/\∀t∈r,t<n:=by
   intro ts;induction ts with
   | nil=>intro _;exact ⟨[],rfl,rfl,by simp⟩
   | cons a r ih=>
    intro h;have ha:=h a mem_cons_self
    obtain ⟨t,e,el,ht⟩:=ih fun b hb=>h b (LW _ hb)
    refine ⟨a.toNat::t,?_,by simp [el],fun c hc=>(LQ hc).elim (fun e=>by omega) (ht c)⟩
    rw [map_cons,map_cons,e];congr 2
    omega
  intro l;induction l with
  | nil=>intro _;exact ⟨[],rfl,by simp⟩
  | cons a r ih=>
   intro h;obtain ⟨ts,rfl,t1,t2,t3,_⟩:=h a mem_cons_self;obtain ⟨x,e,el,hx⟩:=one ts t3;obtain ⟨S,rfl,hS⟩:=ih fun b hb=>h b (LW _ hb)
   refine ⟨x::S,by rw [map_cons,e],fun c hc=>(LQ hc).elim (fun e=>by
    subst e;exact ⟨fun z=>t2 (List.length_eq_zero_iff.mp (by rw [<-el,z];rfl)),by omega,hx⟩) (hS c)⟩
 obtain ⟨M,eM,hM⟩:=hm ms fun r hr=>let ⟨xs,a,b,_⟩:=g.m r hr;⟨xs,a,b⟩
 obtain ⟨S,eS,hS⟩:=hs ss g.s;subst eM eS;refine ⟨⟨n,os,M,S⟩,⟨g,h1,h24,?_,?_,hS,hM⟩,rfl,rfl⟩
 ·have:=g.lm;simpa using this
 ·have:=g.ls;simpa using this
def knd:List Wr:=[.mark,.mark,.not,.and,.su,.au,.sn,.an,.sa,.aa,.or,.yes]
abbrev Kn:D:=.list (knd.map fun a=>.str a.t)
@[simp] theorem Kp (a:Wr):bh false (.str a.t) (.tuple [.str "and",.str "or",.str "some until",.str "all until"])=some (.bool (decide (a=.and\/a=.or\/a=.su\/a=.au))):=by cases a<;>kernel_rfl
theorem vC {k:Int} (h0:0<=k) (h1:k<3):∃c:Nat,cn (Str.ofString "abc").cps.toList k=some c/\(⟨#[c]⟩:Str)∈DO:=by
 rw [yU];have:k=0\/k=1\/k=2:=by omega
 rcases this with rfl | rfl | rfl
 ·exact ⟨97,rfl,by decide +kernel⟩
 ·exact ⟨98,rfl,by decide +kernel⟩
 ·exact ⟨99,rfl,by decide +kernel⟩
abbrev GS (xs:List D) (at' many:Int) (made:List Sn) (x5 x6 x7 x8 x9:Option PV):Ev:=[L5 (.list xs),L5 (.int at'),L5 (.int many),L5 Kn,some ⟨.lst .leaf,dy made⟩,x5,x6,x7,x8,x9]
structure Mad (made:List Sn):Prop where
 ne:0<made.length
 ok:∀s∈made,s.ok
 dp:∀s∈made,s.dep<=made.length
theorem sX {n:Nat}:bA 1 n=(List.range n).map fun k:Nat=>PyData.int (1+(k:Int)):=rfl
theorem gh (l:List Int):intsOf (l.map .int)=some l:=by
 induction l with
 | nil=>rfl
 | cons a r ih=>rw [map_cons,intsOf,ih];rfl
theorem yz {s a:Sn} (h:a∈s.args):a.dep+1<=s.dep:=by
 cases s with
 | yes=>simp [Sn.args] at h
 | mk c=>simp [Sn.args] at h
 | un k b=>simp [Sn.args] at h;subst h;simp [Sn.dep]
 | bi k b c=>
  simp [Sn.args] at h
  simp only [Sn.dep]
  rcases h with rfl | rfl<;>omega
end KC
namespace KQ
open PySem PySem.Spec L2 T PySem.SeqAt KC
open PyProof.Rows hiding St
def d__law_world:FS:=(ak (aA false 3 (az aJ (eK (.int 1)) (az b8 (ag 2 nF (ab (ae 0) (ab (ae 1) af))) (ae 2))))
  (ak (aA true 4 (aW .leaf af))
  (ak (aA true 5 (aW .leaf af))
  (ak (aA true 6 (aW .leaf af))
  (ak (cJ 7 (dz (ab (ae 3) af))
  (ak (aA false 8 (ag 2 nF (ab (ae 0) (ab (az aJ (az aJ (ae 1) (eK (.int 1))) (ae 7)) af))))
  (ak (cX 4 (ag 3 bZ (ab (ae 8) (ab (eK (.int 0)) (ab (eK (.int 2)) af)))))
  (ak (cX 5 (ax .leaf 11 (gj "abc") (aP av (az bE (ag 3 bZ (ab (ae 8) (ab (az aJ (eK (.int 1)) (ba (dJ "abc") (ab (ae 11) af))) (ab (eK (.int 2)) af)))) (eK (.int 1)))) (ae 11)))
  (ak (aA false 9 (ax .leaf 10 (dz (ab (ae 3) af)) (aP av (az bE (ag 3 bZ (ab (ae 8) (ab (az aJ (eK (.int 4)) (ae 10)) (ab (az aJ (eK (.int 2)) (ba mT (ab (az qG (ae 3) (eK (.int 3))) af))) af)))) (eK (.int 1)))) (ae 10)))
  (ak (b7 (aP av (az bE (ae 9) (aW .leaf af))) (aA false 9 (aW .leaf (ab (ag 3 bZ (ab (ae 8) (ab (az aJ (eK (.int 4)) (ae 3)) (ab (ae 3) af)))) af))) aQ)
  (cX 6 (ae 9))))))))
  (aF (bg (ab (bx 4) (ab (bx 5) (ab (bx 6) af))))))))))
def m__law_world:List L4->Res:=aB 12 d__law_world
abbrev eW:FS:=(ak (aA false 8 (ag 2 nF (ab (ae 0) (ab (az aJ (az aJ (ae 1) (eK (.int 1))) (ae 7)) af))))
  (ak (cX 4 (ag 3 bZ (ab (ae 8) (ab (eK (.int 0)) (ab (eK (.int 2)) af)))))
  (ak (cX 5 (ax .leaf 11 (gj "abc") (aP av (az bE (ag 3 bZ (ab (ae 8) (ab (az aJ (eK (.int 1)) (ba (dJ "abc") (ab (ae 11) af))) (ab (eK (.int 2)) af)))) (eK (.int 1)))) (ae 11)))
  (ak (aA false 9 (ax .leaf 10 (dz (ab (ae 3) af)) (aP av (az bE (ag 3 bZ (ab (ae 8) (ab (az aJ (eK (.int 4)) (ae 10)) (ab (az aJ (eK (.int 2)) (ba mT (ab (az qG (ae 3) (eK (.int 3))) af))) af)))) (eK (.int 1)))) (ae 10)))
  (ak (b7 (aP av (az bE (ae 9) (aW .leaf af))) (aA false 9 (aW .leaf (ab (ag 3 bZ (ab (ae 8) (ab (az aJ (eK (.int 4)) (ae 3)) (ab (ae 3) af)))) af))) aQ)
  (cX 6 (ae 9)))))))
def vT (k:Nat):D:=.str ⟨#[97+k]⟩
theorem vB {Γ:Ev}:gj "abc" Γ=.ok ⟨[0,1,2].map vT,true⟩ Γ:=by
 have:Fp "abc"=[0,1,2].map vT:=by kernel_rfl
 unfold gj;rw [this]
theorem uF {k:Nat} (h:k∈[0,1,2]):k<3:=by
 simp at h
 omega
theorem Co {k:Nat} (h:k∈[0,1,2]):dJ "abc" [vT k]=some (.int (k:Int)):=by
 simp at h
 rcases h with rfl | rfl | rfl<;>kernel_rfl
theorem nk {xs os ms ss:List D} {at' lim many:Int} {n:Nat} {x8 x9:Option PV} (hx:gD xs) (ha:0<=at') (hm:1<=many) (hm2:many<=24) (h:Gw many n os ms ss) (hn:n<=30) {r:Nat} :
  ∃os' ms' ss' x8' x9',eW [L5 (.list xs),L5 (.int at'),L5 (.int lim),L5 (.int many),some ⟨.lst .leaf,.list os⟩,some ⟨.lst .leaf,.list ms⟩,some ⟨.lst .leaf,.list ss⟩,L5 (.int (r:Nat)),x8,x9,none,none]
   = .nx [L5 (.list xs),L5 (.int at'),L5 (.int lim),L5 (.int many),some ⟨.lst .leaf,.list os'⟩,some ⟨.lst .leaf,.list ms'⟩,some ⟨.lst .leaf,.list ss'⟩,L5 (.int (r:Nat)),x8',x9',none,none]/\Gw many (n+1) os' ms' ss':=by
 obtain ⟨c,hc⟩:=Ai hx (k:=at'+1+(r:Int)) (by omega)
 have lo:=h.lo
 have lm:=h.lm
 have ls:=h.ls
 have c5:∀(Γ:Ev),Γ.length=12->Γ[8]?=some (L5 (.int c))->(ax .leaf 11 (gj "abc") (aP av (az bE (ag 3 bZ (ab (ae 8) (ab (az aJ (eK (.int 1)) (ba (dJ "abc") (ab (ae 11) af))) (ab (eK (.int 2)) af)))) (eK (.int 1)))) (ae 11)) Γ
   = .ok ⟨.lst .leaf,.list (([0,1,2].filter fun k:Nat=>cM c (1+(k:Int)) 2==1).map vT)⟩ Γ:=fun Γ hl h8=>by
  refine Di vT [0,1,2] (fun k:Nat=>cM c (1+(k:Int)) 2==1) (fun k=>⟨.leaf,vT k⟩) (st:=true) vB (by omega) rfl (by simp) (fun k hk=>?_) fun k hk _=>?_
  ·have g11:(Γ.set 11 (L5 (vT k)))[11]?=some (L5 (vT k)):=by rw [getElem?_set_self (by omega)]
   have g8:(Γ.set 11 (L5 (vT k)))[8]?=some (L5 (.int c)):=by rw [getElem?_set_ne (by omega)];exact h8
   exact fG (aE (bq (aq (aw g8) (aq (aE aO (bD (aq (aw g11) ah) (Co hk)) add_int') (aq aO ah))) (wb (by omega) (by have:=uF hk;omega) (by omega) (by omega)) rfl rfl) aO eq_int)
  ·exact ⟨aw (by rw [getElem?_set_self (by omega)]),rfl⟩
 generalize hM:(([0,1,2].filter fun k:Nat=>cM c (1+(k:Int)) 2==1).map vT)=M at c5
 have rM:ie M/\M.length<=30/\DB (.list M)=true:=by
  refine ⟨?_,?_,?_⟩
  ·rw [<-hM]
   intro a ha;obtain ⟨k,hk,rfl⟩:=List.mem_map.mp ha;have:=uF (List.mem_filter.mp hk).1
   exact ⟨_,rfl,uk (by omega)⟩
  ·rw [<-hM,length_map]
   exact Nat.le_trans (length_filter_le _ _) (by simp)
  ·rw [<-hM]
   simp only [filter_cons,List.filter_nil]
   have:=Kl (cM c (1+((0:Nat):Int)) 2==1) (cM c (1+((1:Nat):Int)) 2==1) (cM c (1+((2:Nat):Int)) 2==1)
   revert this
   cases (cM c (1+((0:Nat):Int)) 2==1)<;>cases (cM c (1+((1:Nat):Int)) 2==1)<;>cases (cM c (1+((2:Nat):Int)) 2==1)<;>exact fun h=>h
 have c6:∀(Γ:Ev),Γ.length=12->Γ[8]?=some (L5 (.int c))->Γ[3]?=some (L5 (.int many))->ax .leaf 10 (dz (ab (ae 3) af)) (aP av (az bE (ag 3 bZ (ab (ae 8) (ab (az aJ (eK (.int 4)) (ae 10)) (ab (az aJ (eK (.int 2)) (ba mT (ab (az qG (ae 3) (eK (.int 3))) af))) af)))) (eK (.int 1)))) (ae 10) Γ
   = .ok ⟨.lst .leaf,.list (((bA 0 many.toNat).filter fun d=>match d with | .int k=>cM c (4+k) (2+(if decide (3<many) then 1 else 0))==1 | _=>false).map fun d=>d)⟩ Γ:=fun Γ hl h8 h3=>by
  refine gp (c:=fun d=>match d with | .int k=>cM c (4+k) (2+(if decide (3<many) then 1 else 0))==1 | _=>false) (f:=fun d=>⟨.leaf,d⟩) (st:=true) (pA (k:=many) (aq (aw h3) ah) rfl (by omega) (by omega)) (by omega) rfl (by rw [Gc];omega) (fun d hd=>?_) fun d hd _=>?_
  ·obtain ⟨k,hk,rfl⟩:=DP hd
   have g10:(Γ.set 10 (L5 (.int (0+(k:Int)))))[10]?=some (L5 (.int (0+(k:Int)))):=by rw [getElem?_set_self (by omega)]
   have g8:(Γ.set 10 (L5 (.int (0+(k:Int)))))[8]?=some (L5 (.int c)):=by rw [getElem?_set_ne (by omega)];exact h8
   have g3:(Γ.set 10 (L5 (.int (0+(k:Int)))))[3]?=some (L5 (.int many)):=by rw [getElem?_set_ne (by omega)];exact h3
   have b1:(1:Int)<=2+(if decide (3<many) then 1 else 0)/\(2:Int)+(if decide (3<many) then 1 else 0)<=1000:=by split<;>omega
   exact fG (aE (bq (aq (aw g8) (aq (aE aO (aw g10) add_int') (aq (aE aO (bD (aq (aE (aw g3) aO rfl) ah) rfl) add_int') ah))) (wb (by omega) (by omega) b1.1 b1.2) rfl rfl) aO eq_int)
  ·obtain ⟨k,hk,rfl⟩:=DP hd
   exact ⟨aw (by rw [getElem?_set_self (by omega)]),rfl⟩
 obtain ⟨ts,hT,hts1,hts2,hts3⟩:=AX many.toNat (fun d=>match d with | .int k=>cM c (4+k) (2+(if decide (3<many) then 1 else 0))==1 | _=>false)
 rw [hT] at c6;have fin:∀(Γ:Ev) (T:List Int),(T.length<=30/\T≠[]/\(∀t∈T,0<=t/\t<many)/\T.Pairwise (· < ·))->Γ=[L5 (.list xs),L5 (.int at'),L5 (.int lim),L5 (.int many),some ⟨.lst .leaf,.list (os++[.int (cM c 0 2)])⟩,some ⟨.lst .leaf,.list (ms++[.list M])⟩,some ⟨.lst .leaf,.list ss⟩,L5 (.int (r:Nat)),L5 (.int c),L5 (.list (T.map .int)),none,none] ->
   ∃os' ms' ss' x8' x9',cX 6 (ae 9) Γ=.nx [L5 (.list xs),L5 (.int at'),L5 (.int lim),L5 (.int many),some ⟨.lst .leaf,.list os'⟩,some ⟨.lst .leaf,.list ms'⟩,some ⟨.lst .leaf,.list ss'⟩,L5 (.int (r:Nat)),x8',x9',none,none]/\Gw many (n+1) os' ms' ss':=fun Γ T hT2 hΓ=>by
  subst hΓ;refine ⟨os++[.int (cM c 0 2)],ms++[.list M],ss++[.list (T.map .int)],_,_,Gx rfl (aw rfl) rfl (by omega),by simp;omega,by simp;omega,by simp;omega,fun a ha=>?_,fun a ha=>?_,fun a ha=>?_⟩
  ·rcases LP ha with z | z
   ·exact h.o a z
   ·have:=DI (c:=c) (k:=0) (b:=2) (by omega) (by omega) (by omega) (by omega)
    rw [List.mem_singleton.mp z];rcases (by omega:cM c 0 2=0\/cM c 0 2=1) with e | e
    ·exact .inl (by rw [e])
    ·exact .inr (by rw [e])
  ·rcases LP ha with z | z
   ·exact h.m a z
   ·exact ⟨M,List.mem_singleton.mp z,rM.1,rM.2.1,by rw [List.mem_singleton.mp z];exact rM.2.2⟩
  ·rcases LP ha with z | z
   ·exact h.s a z
   ·exact ⟨T,List.mem_singleton.mp z,hT2⟩
 have e1:=cD (i:=8) (bq (fl:=ab (ae 0) (ab (az aJ (az aJ (ae 1) (eK (.int 1))) (ae 7)) af)) (Γ:=[L5 (.list xs),L5 (.int at'),L5 (.int lim),L5 (.int many),some ⟨.lst .leaf,.list os⟩,some ⟨.lst .leaf,.list ms⟩,some ⟨.lst .leaf,.list ss⟩,L5 (.int (r:Nat)),x8,x9,none,none]) (aq (aw rfl) (aq (aE (aE (aw rfl) aO add_int') (aw rfl) add_int') ah)) hc rfl rfl) rfl (by simp)
 have e2:cX 4 (ag 3 bZ (ab (ae 8) (ab (eK (.int 0)) (ab (eK (.int 2)) af)))) [L5 (.list xs),L5 (.int at'),L5 (.int lim),L5 (.int many),some ⟨.lst .leaf,.list os⟩,some ⟨.lst .leaf,.list ms⟩,some ⟨.lst .leaf,.list ss⟩,L5 (.int (r:Nat)),L5 (.int c),x9,none,none]=_:=
  Gx rfl (bq (aq (aw rfl) (aq aO (aq aO ah))) (wb (by omega) (by omega) (by omega) (by omega)) rfl rfl) rfl (by omega)
 have e3:=Gx (i:=5) (Γ:=[L5 (.list xs),L5 (.int at'),L5 (.int lim),L5 (.int many),some ⟨.lst .leaf,.list (os++[.int (cM c 0 2)])⟩,some ⟨.lst .leaf,.list ms⟩,some ⟨.lst .leaf,.list ss⟩,L5 (.int (r:Nat)),L5 (.int c),x9,none,none]) rfl (c5 _ rfl rfl) rfl (by omega)
 have e4:=cD (i:=9) (Γ:=[L5 (.list xs),L5 (.int at'),L5 (.int lim),L5 (.int many),some ⟨.lst .leaf,.list (os++[.int (cM c 0 2)])⟩,some ⟨.lst .leaf,.list (ms++[.list M])⟩,some ⟨.lst .leaf,.list ss⟩,L5 (.int (r:Nat)),L5 (.int c),x9,none,none]) (c6 _ rfl rfl rfl) rfl (by simp)
 have t:aP av (az bE (ae 9) (aW .leaf af)) [L5 (.list xs),L5 (.int at'),L5 (.int lim),L5 (.int many),some ⟨.lst .leaf,.list (os++[.int (cM c 0 2)])⟩,some ⟨.lst .leaf,.list (ms++[.list M])⟩,some ⟨.lst .leaf,.list ss⟩,L5 (.int (r:Nat)),L5 (.int c),L5 (.list (ts.map .int)),none,none]
   = .ok (decide ((ts.map PyData.int).length=0)) _:=fG (aE (aw rfl) (rG (s:=.leaf) ah rfl rfl rfl) (CK (Gg DX)))
 cases hz:decide ((ts.map PyData.int).length=0) with
 | true=>
  rw [hz] at t;obtain ⟨o',m',s',y8,y9,f1,f2⟩:=fin _ [cM c (4+many) many] ⟨by simp,by simp,fun t ht=>by rw [List.mem_singleton.mp ht];exact DI (by omega) (by omega) (by omega) (by omega),List.pairwise_singleton _ _⟩ rfl
  exact ⟨o',m',s',y8,y9,ay e1 (ay e2 (ay e3 (ay e4 (ay (bF t (fun _=>cD (rG (s:=.leaf) (aq (bq (aq (aw rfl) (aq (aE aO (aw rfl) add_int') (aq (aw rfl) ah))) (wb (by omega) (by omega) (by omega) (by omega)) rfl rfl) ah) rfl rfl rfl) rfl (by simp)) nofun) f1)))),f2⟩
 | false=>
  rw [hz] at t;obtain ⟨o',m',s',y8,y9,f1,f2⟩:=fin _ ts ⟨by omega,(fun z=>by rw [z] at hz;cases hz),(fun t ht=>by have:=hts1 t ht;omega),hts2⟩ rfl
  exact ⟨o',m',s',y8,y9,ay e1 (ay e2 (ay e3 (ay e4 (ay (bF t nofun (fun _=>rfl)) f1)))),f2⟩
theorem qL {xs:List D} {at' lim:Int} (hx:gD xs) (ha:0<=at') (hl:1<=lim) (hl2:lim<=24):∃(n:Nat) (os ms ss:List D),m__law_world [.list xs,.int at',.int lim]=.ok ⟨W3,dD os ms ss⟩/\Gw (n:Int) n os ms ss/\1<=n/\(n:Int)<=lim:=by
 obtain ⟨c,hc⟩:=Ai hx (k:=at') ha
 have b0:0<=c % lim:=Int.emod_nonneg _ (by omega)
 have b1:c % lim<lim:=Int.emod_lt_of_pos _ (by omega)
 generalize hmm:1+c % lim=many at *
 have e0:aA false 3 (az aJ (eK (.int 1)) (az b8 (ag 2 nF (ab (ae 0) (ab (ae 1) af))) (ae 2))) [L5 (.list xs),L5 (.int at'),L5 (.int lim),none,none,none,none,none,none,none,none,none]
   = .nx [L5 (.list xs),L5 (.int at'),L5 (.int lim),L5 (.int many),none,none,none,none,none,none,none,none]:=by
  rw [<-hmm];exact cD (aE aO (aE (bq (aq (aw rfl) (aq (aw rfl) ah)) hc rfl rfl) (aw rfl) (cK (by omega))) add_int') rfl (by simp)
 obtain ⟨Γ',e,os,ms,ss,x7,x8,x9,hΓ,hw⟩:=ID (P:=fun n Γ=>∃os ms ss x7 x8 x9,Γ=[L5 (.list xs),L5 (.int at'),L5 (.int lim),L5 (.int many),some ⟨.lst .leaf,.list os⟩,some ⟨.lst .leaf,.list ms⟩,some ⟨.lst .leaf,.list ss⟩,x7,x8,x9,none,none]/\Gw many n os ms ss) (i:=7) (body:=eW) (bA 0 many.toNat) 0
  [L5 (.list xs),L5 (.int at'),L5 (.int lim),L5 (.int many),some ⟨.lst .leaf,.list []⟩,some ⟨.lst .leaf,.list []⟩,some ⟨.lst .leaf,.list []⟩,none,none,none,none,none] ⟨[],[],[],none,none,none,rfl,rfl,rfl,rfl,fun a ha=>(nomatch ha),fun a ha=>(nomatch ha),fun a ha=>(nomatch ha)⟩ (fun m d Γ hd h1 h2 ⟨os,ms,ss,x7,x8,x9,hΓ,hw⟩=>by
   subst hΓ;obtain ⟨k,hk,rfl⟩:=DP hd;rw [Gc] at h2;rw [Int.zero_add];obtain ⟨os',ms',ss',y8,y9,f1,f2⟩:=nk (at':=at') (lim:=lim) (many:=many) (x8:=x8) (x9:=x9) hx ha (by omega) (by omega) hw (by omega) (r:=k)
   exact ⟨by simp,_,f1,os',ms',ss',_,y8,y9,rfl,f2⟩)
 subst hΓ;rw [Gc,Nat.zero_add] at hw;have en:((many.toNat:Nat):Int)=many:=by omega
 refine ⟨many.toNat,os,ms,ss,aM (ay e0 (ay (Ac (rG (s:=.leaf) ah rfl rfl rfl) rfl (by simp)) (ay (Ac (rG (s:=.leaf) ah rfl rfl rfl) rfl (by simp)) (ay (Ac (rG (s:=.leaf) ah rfl rfl rfl) rfl (by simp)) (ay (eh (pA (k:=many) (aq (aw rfl) ah) rfl (by omega) (by omega)) e) (aS (bw (aq (C8 (p:=⟨.lst .leaf,.list os⟩) rfl) (aq (C8 (p:=⟨.lst .leaf,.list ms⟩) rfl) (aq (C8 (p:=⟨.lst .leaf,.list ss⟩) rfl) ah))) rfl rfl) rfl)))))),by rw [en];exact hw,by omega,by omega⟩
end KQ
namespace KC
open PySem PySem.Spec L2 T
open PyProof.Rows hiding St
open PySem.SeqAt
theorem JQ {α:Type} {l:List α} {n:Nat} (d:α) (h:l.length=n):l=(List.range n).map fun r=>l.getD r d:=by
 apply ext_getElem?
 intro k;rw [getElem?_map];by_cases hk:k<n
 ·rw [getElem?_range hk]
  show l[k]?=some (l.getD k d)
  rw [LU,LR (by omega)]
  rfl
 ·rw [getElem?_eq_none (by omega),getElem?_eq_none (by simp;omega)]
  rfl
theorem ph {n:Nat} {fl:FL} {Γ:Ev} {s:Sh} (hn:n<=1000) (h:fl Γ=.ok [⟨s,.int (n:Int)⟩] Γ):dz fl Γ=.ok ⟨(List.range n).map rm,true⟩ Γ:=by
 rw [pA (k:=(n:Int)) h rfl (by omega) (by omega),Int.toNat_natCast,Gd]
section
variable {i j:Nat} {fc:FB} {fe:F1} {s:Sh} {Γ:Ev} {e:Nat->D} {c:Nat->Bool} {f:Nat->PV}
abbrev Γ2 (Γ:Ev) (i j:Nat) (e:Nat->D) (r:Nat):Ev:=(Γ.set i (L5 (.int (r:Nat)))).set j (L5 (e r))
theorem Jj (hij:i≠j) (hΓ:(Γ.set i none).set j none=Γ):∀(m k:Nat) (acc:List D),(∀r,k<=r->r<k+m->fc (Γ2 Γ i j e r)=.ok (c r) (Γ2 Γ i j e r)) ->
  (∀r,k<=r->r<k+m->c r=true->fe (Γ2 Γ i j e r)=.ok (f r) (Γ2 Γ i j e r)/\coer s (f r)=true)->acc.length+m<=sizeLine->rJ i j fc fe s k ((List.range' k m).map e) Γ acc=.ok (acc++(((List.range' k m).filter c).map fun r=>(f r).d)) Γ
 | 0,k,acc,_,_,_=>by simp [rJ]
 | m+1,k,acc,hc,he,hl=>by
  have h1:=hc k (L3 _) (by omega)
  have hl1:acc.length<sizeLine:=by omega
  have back:((Γ2 Γ i j e k).set i none).set j none=Γ:=by
   unfold Γ2;rw [List.set_comm _ _ (Ne.symm hij),set_set,set_set];exact hΓ
  rw [List.range'_succ,map_cons,rJ];have h1:fc ((Γ.set i (L5 (.int (k:Nat)))).set j (L5 (e k)))=_:=h1
  rw [h1]
  cases hcd:c k with
  | false=>
   dsimp only;rw [if_pos hl1,back,Jj hij hΓ m (k+1) acc (fun r h1 h2=>hc r (by omega) (by omega)) (fun r h1 h2=>he r (by omega) (by omega)) (by omega)]
   rw [List.filter_cons_of_neg (by rw [hcd];exact Bool.false_ne_true)]
  | true=>
   obtain ⟨h2,h3⟩:=he k (L3 _) (by omega) hcd
   dsimp only;rw [h2];dsimp only;rw [h3,decide_eq_true hl1,Bool.and_self,if_pos rfl,back,Jj hij hΓ m (k+1) (acc++[(f k).d]) (fun r h1 h2=>hc r (by omega) (by omega)) (fun r h1 h2=>he r (by omega) (by omega)) (by simp only [length_append,length_cons,length_nil];omega)]
   rw [List.filter_cons_of_pos hcd,map_cons,append_assoc];rfl
theorem qI (e:Nat->D) (n:Nat) (c:Nat->Bool) (f:Nat->PV) {fa:F1} {st:Bool} (hi:aN fa Γ=.ok ⟨(List.range n).map e,st⟩ Γ) (h1:Γ[i]?=some none) (h2:Γ[j]?=some none) (hij:i≠j) (hs:s.isView=false) (hn:n<=10000)
  (hc:∀r,r<n->fc (Γ2 Γ i j e r)=.ok (c r) (Γ2 Γ i j e r)) (he:∀r,r<n->c r=true->fe (Γ2 Γ i j e r)=.ok (f r) (Γ2 Γ i j e r)/\coer s (f r)=true) :
  zW s i j fa fc fe Γ=.ok ⟨.lst s,.list (((List.range n).filter c).map fun r=>(f r).d)⟩ Γ:=by
 have hb:(10000:Nat)<=sizeLine:=by decide
 unfold zW;rw [hi];unfold Out.bind;dsimp only;rw [h1,h2,hs];have hΓ:(Γ.set i none).set j none=Γ:=by rw [rO h1,rO h2]
 rw [List.range_eq_range',Jj (c:=c) (f:=f) hij hΓ n 0 [] (fun r _ h=>hc r (by omega)) (fun r _ h=>he r (by omega)) (by simp;omega)]
 rfl
theorem mX (e:Nat->D) (n:Nat) (f:Nat->PV) {fa:F1} {st:Bool} (hi:aN fa Γ=.ok ⟨(List.range n).map e,st⟩ Γ) (h1:Γ[i]?=some none) (h2:Γ[j]?=some none) (hij:i≠j) (hs:s.isView=false) (hn:n<=10000)
  (he:∀r,r<n->fe (Γ2 Γ i j e r)=.ok (f r) (Γ2 Γ i j e r)/\coer s (f r)=true) :
  zW s i j fa aC fe Γ=.ok ⟨.lst s,.list ((List.range n).map fun r=>(f r).d)⟩ Γ:=by
 have:=qI (fc:=aC) e n (fun _=>true) f hi h1 h2 hij hs hn (fun _ _=>rfl) fun r hr _=>he r hr
 rw [this,List.filter_eq_self.mpr fun _ _=>rfl]
end
theorem DU {r:List Nat}:r.map rm=(r.map fun t:Nat=>(t:Int)).map PyData.int:=by rw [map_map];rfl
theorem Wd.Ok0.s_range {w:Wd} (ok:w.Ok0):w.s.map ao=(List.range w.n).map fun r=>ao (w.stp r):=by
 conv=>lhs;rw [JQ (l:=w.s) [] ok.ls]
 rw [map_map];rfl
def LA (p:Int):D->Bool
 | .int o=>o==p
 | _=>false
def own (w:Wd) (p:Int):Nat->Bool:=fA (w.os.map (LA p))
theorem Wd.Ok.o_at {w:Wd} (ok:w.Ok) {r:Nat} (hr:r<w.n):∃o:Int,(o=0\/o=1)/\cn w.os (r:Int)=some (.int o)/\∀p,own w p r=(o==p):=by
 have hl:r<w.os.length:=by rw [ok.g.lo];exact hr
 have hm:=ok.g.o _ (getElem_mem hl)
 have key:∀o:Int,w.os[r]=.int o->cn w.os (r:Int)=some (.int o)/\∀p,own w p r=(o==p):=fun o e=>by
  refine ⟨yY (by rw [LR hl,e]),fun p=>?_⟩
  unfold own fA;rw [LU,getElem?_map,LR hl,e];rfl
 rcases hm with e | e
 ·exact ⟨0,.inl rfl,key 0 e⟩
 ·exact ⟨1,.inr rfl,key 1 e⟩
structure KG (w:Wd) (p:Int) (pl:List (Option Nat)):Prop where
 len:pl.length=w.n
 st:∀r t,r<w.n->bj pl r=some t->own w p r=true/\t∈w.stp r
end KC
namespace T
open PySem PySem.Spec L2
open PyProof.Rows hiding St
def fQ (i j:Nat) (fl:FL):FS:=fun Γ=>match fl Γ with
 | .ok [p,q] Γ1=>(match putN [i,j] [p,q] Γ1 with
  | some Γ'=>.nx Γ'
  | none=>.no)
 | .ok _ _=>.no
 | .er c Γ1=>.er c Γ1
 | .no=>.no
def zr (i j:Nat) (ta:TA):TS:=fun D σ H=>ta σ H fun vs H1=>∃v w,vs=[v,w]/\D.nx ((σ.set i (some v)).set j (some w)) H1
section
variable {K:Fg} {W:XW} {σ:St} {H:Hp} {D:cQ} {fl:FL}
theorem xi {i j:Nat} (h:tS K W (fQ i j fl) D σ H):zr i j (tA K W fl) D σ H:=by
 obtain ⟨He,O,Fs,Γ,E,h⟩:=h;refine ⟨He,O,Fs,Γ,E,?_⟩
 unfold fQ at h
 cases e:fl Γ with
 | er c Γ1=>rw [e] at h;exact fun H' Fs' s E'=>h σ H' Fs' E'
 | no=>rw [e] at h;exact h
 | ok ps Γ1=>
  rw [e] at h;intro vs H1 Gs Fs1 A;match ps,h,A with
  | [p,q],h,A=>
   match vs,A.len1,Gs,A.len2,A with
   | [v1,v2],_,[G1,G2],_,A=>
    dsimp only at h
    cases hp:putN [i,j] [p,q] Γ1 with
    | none=>rw [hp] at h;exact h.elim
    | some Γ'=>
     rw [hp] at h;obtain ⟨Fs',E'⟩:=Gq (is:=[i,j]) (vs:=[v1,v2]) (Gs:=[G1,G2]) rfl rfl A.env (fun a ha=>(A.new a (LO _ ha)).elim (E.fresh a) E.same.free) (fun k v p G a1 a2 a3=>A.own k v p G a1 a2 a3) hp
     exact ⟨v1,v2,rfl,h _ _ _ E'⟩
  | [],h,A=>exact h.elim
  | [_],h,A=>exact h.elim
  | _::_::_::_,h,A=>exact h.elim
end
section
variable {X:Cx}
theorem xC {pos:Pos} {i j:Nat} {x y:Str} {a b:Expr} {ta:TA} {px py pt:Pos} {kt k2 pt2} (hc:X.calm=true) (hN:X.N.Nodup) (hi:X.N[i]?=some x) (hj:X.N[j]?=some y) (hij:i≠j)
  (hx:X.env.scope.names.lookup x=some .local) (hy:X.env.scope.names.lookup y=some .local) (ha:PA X [a,b] ta)
  (hw:swappedStores [.Tuple [.Name x px,.Name y py] kt pt] (.Tuple [a,b] k2 pt2) X.env=pure (some [x,y]))
  (hs:swapsWithSole [.Tuple [.Name x px,.Name y py] kt pt] (.Tuple [a,b] k2 pt2) pos.line X.env=pure false) :
  PS X (.Assign [.Tuple [.Name x px,.Name y py] kt pt] (.Tuple [a,b] k2 pt2) pos) (zr i j ta):=by
 intro pins s σ H D I h;rw [exec_Assign_arm];refine LZ (wpAny_standAt ?_)
 rw [hs];refine LZ (L0 ?_)
 rw [if_neg (by decide)]
 refine LZ (Tuple_ (bc (ha _ pins s σ H _ I h) fun us s1 ⟨vs,H1,I1,r1,q1⟩=>?_))
 obtain ⟨v,w,e1,q1⟩:=q1;subst e1;obtain ⟨u1,u2,rfl,rv,rw'⟩:∃u1 u2,us=[u1,u2]/\RelV v u1/\RelV w u2:=by
  cases r1 with
  | cons p q=>
   cases q with
   | cons p' q'=>
    cases q'
    exact ⟨_,_,rfl,p,p'⟩
 refine wpAny_newObj_type ?_ (by show 2<=sizeLine;decide)
 have I2:Inv X pins σ H1 { s1 with heap:=s1.heap.push { cls:=.type "tuple",data:=.seq [u1,u2].toArray } }:=I1.kept (t':=s1.toks) fun b o e=>L1 _ e
 rw [hw];refine LZ (L0 ?_)
 show wpAny (model X.prog X.w) X.A (do rule "assign.swapped-stores";let items <-unpackItems (.ref s1.heap.objs.size) 2 none;assignInOrder [fun v=>bindName X.env y v,fun v=>bindName X.env x v] items.reverse;pure Flow.next) _ _ _
 refine LZ (wpAny_rule (LZ (unpackItems_tuple (items:=#[u1,u2]) (I.ok.hd hc) (IsTup.new s1.heap _) fun h' hx'=>?_)))
 have I3:=I2.kept (h':=h') (t':=s1.toks) fun b o e=>hx' b o (Nat.ne_of_lt (Heap.lt_size e)) e
 show wpAny _ _ (assignInOrder [fun v=>bindName X.env y v,fun v=>bindName X.env x v] [u2,u1] >>= fun _=>pure Flow.next) _ _ _
 refine LZ (assignInOrder_cons (wpAny_bindName (DY I3 hN hj (.inl hy) rw' (fun s2 I4=>?_) (.inr hy))))
 refine assignInOrder_cons (wpAny_bindName (DY I4 hN hi (.inl hx) rv (fun s4 I6=>assignInOrder_nil (L0 ?_)) (.inr hx)))
 have e:(σ.set j (some w)).set i (some v)=(σ.set i (some v)).set j (some w):=by
  rw [List.set_comm _ _ (Ne.symm hij)]
 rw [e] at I6;exact ⟨_,H1,I6,q1⟩
theorem sI {x y:Str} {px py pt:Pos} {kt k2 pt2} {a b:Expr} (hk:X.env.scope.kind=.function) (hx:X.env.scope.names.lookup x=some .local) (hy:X.env.scope.names.lookup y=some .local)
  (hl:(px.line==px.line&&py.line==px.line)=true) (hd:([x,y].eraseDups.length != [x,y].length)=false) (hst:([a,b].any fun | .Starred ..=>true | _=>false)=false) (hf:([a,b].all (foldedForSure 8))=false) (hc:([a,b].all (constantsAlone 8))=false) :
  swappedStores [.Tuple [.Name x px,.Name y py] kt pt] (.Tuple [a,b] k2 pt2) X.env=pure (some [x,y]):=by
 have e1:(X.env.blockKind != ScopeKind.function)=false:=by unfold Env.blockKind;rw [hk];rfl
 have ex:(X.env.kindOf x==some NameKind.local)=true:=by unfold Env.kindOf;rw [hx];rfl
 have ey:(X.env.kindOf y==some NameKind.local)=true:=by unfold Env.kindOf;rw [hy];rfl
 simp only [Bool.and_eq_true] at hl
 obtain ⟨l1,l2⟩:=hl;unfold swappedStores;simp only [length_cons,length_nil,e1,hst,List.head?_cons,Option.map_some,Option.getD_some,Expr.pos,filterMap_cons,List.filterMap_nil,ex,ey,l1,l2,Bool.and_self,if_true,hf,hc]
 simp [hd] at *
 simp [hd]
 rintro (h | h)
 ·exact absurd (hst.1.symm.trans h) Bool.false_ne_true
 ·exact absurd (hst.2.symm.trans h) Bool.false_ne_true
variable {N gl:List Str} {vs cs ls lo gs:List Nat} {W:XW} {a b:Expr} {pos:Pos} {fl:FL}
theorem cs_par2 (S:Cp X N gl vs cs ls lo gs) (i j:Nat) {x y:Str} {px py pt:Pos} {kt k2 pt2} (hi:N[i]?=some x) (hj:N[j]?=some y) (li:lo.contains i=true) (lj:lo.contains j=true) (hij:(i != j)=true)
  (hl:(px.line==px.line&&py.line==px.line)=true) (hd:([x,y].eraseDups.length != [x,y].length)=false) (hst:([a,b].any fun | .Starred ..=>true | _=>false)=false) (hf:([a,b].all (foldedForSure 8))=false) (hc:([a,b].all (constantsAlone 8))=false)
  (ha:PA X [a,b] (tA X.K W fl)) (hs:swapsWithSole [.Tuple [.Name x px,.Name y py] kt pt] (.Tuple [a,b] k2 pt2) pos.line X.env=pure false) :
  PS X (.Assign [.Tuple [.Name x px,.Name y py] kt pt] (.Tuple [a,b] k2 pt2) pos) (tS X.K W (fQ i j fl)):=by
 have hN:X.N.Nodup:=by rw [S.hN];exact S.nd
 have lx:=S.loo i x hi li
 have ly:=S.loo j y hj lj
 exact bN (xC S.calm hN (by rw [S.hN];exact hi) (by rw [S.hN];exact hj) (by simpa using hij) lx ly ha (sI S.kind lx ly hl hd hst hf hc) hs) fun _ _ _=>xi
end
end T
namespace TQ
open PySem PySem.Spec L2 T
open PyProof.Rows hiding St
section
variable {X:Cx} {N gl:List Str} {vs cs ls lo gs:List Nat} {W:XW} {a b:Expr} {pos:Pos} {fl:FL}
theorem pF (S:Cp X N gl vs cs ls lo gs) (i j:Nat) {x y:Str} {px py pt:Pos} {kt k2 pt2} (hi:N[i]?=some x) (hj:N[j]?=some y) (li:lo.contains i=true) (lj:lo.contains j=true) (hij:(i != j)=true)
  (hl:(px.line==px.line&&py.line==px.line)=true) (hd:([x,y].eraseDups.length != [x,y].length)=false) (hst:([a,b].any fun | .Starred ..=>true | _=>false)=false) (hf:([a,b].all (foldedForSure 8))=false) (hc:([a,b].all (constantsAlone 8))=false)
  (ha:Q (PA X [a,b] (tA X.K W fl))) (hs:swapsWithSole [.Tuple [.Name x px,.Name y py] kt pt] (.Tuple [a,b] k2 pt2) pos.line X.env=pure false) :
  Q (PS X (.Assign [.Tuple [.Name x px,.Name y py] kt pt] (.Tuple [a,b] k2 pt2) pos) (tS X.K W (fQ i j fl))):=⟨T.cs_par2 S i j hi hj li lj hij hl hd hst hf hc ha.p hs⟩
end
variable {X:Cx} {N gl:List Str} {vs cs ls lo gs:List Nat} {W:XW} {a b:Expr} {pos p:Pos} {fl:FL}
end TQ
namespace T
open PySem PySem.Spec L2
open PyProof.Rows hiding St
section
variable {K:Fg} {W:XW} {σ:St} {H:Hp} {Q:VK} {D:cQ} {fa fb:F1} {fl:FL}
open Classical in
end
def tX (ow:Bool) (j:Nat) (d:L4) (q:PV) (Γ:Ev):cu:=match q with
 | ⟨s,.list es⟩=>if bH ⟨s,.list es⟩ es&&decide (1+es.length<=sizeLine)&&decide (j<Γ.length) then .nx (Γ.set j (some ⟨if ow then .lst .leaf else .leaf,.list ([d]++es)⟩)) else .no
 | _=>.no
def eA (ow:Bool) (i j:Nat) (fb:F1):FS:=fun Γ=>match Γ[i]? with
 | some (some ⟨.lst .leaf,.list ds⟩)=>(match ds[ds.length-1]? with
  | some d=>(match fb (Γ.set i (some ⟨.lst .leaf,.list ds.dropLast⟩)) with
   | .ok q Γ2=>tX ow j d q Γ2
   | _=>.no)
  | none=>.no)
 | _=>.no
section
variable {K:Fg} {W:XW} {σ:St} {H:Hp} {Q:VK} {D:cQ} {fb:F1}
theorem xh {ow:Bool} {i j:Nat} (h:tS K W (eA ow i j fb) D σ H):jZ (wK (oq K) (AJ (iy (Eo K "list" EG (bI i)) sA)) (tE K W fb)) (bJ j) D σ H:=by
 obtain ⟨He,O,Fs,Γ,E,h⟩:=h;unfold eA at h;split at h
 ·rename_i ds e0
  cases hd:ds[ds.length-1]? with
  | none=>rw [hd] at h;exact h.elim
  | some d=>
   rw [hd] at h;obtain ⟨l,vs,h1,h2,h3,h4,h5⟩:=E.chgF e0;have hlt:=(LY hd).1
   have hu:vs[vs.length-1]?=some (vs[vs.length-1]'(by omega)):=LR _
   have ru:=h4 (vs.length-1) _ d hu (by rw [h3];exact hd)
   have inF:l∈O++Fs.flatten:=by
    obtain ⟨_,v,F,k1,k2,k3⟩:=E.slot i _ e0;rw [h1] at k1
    cases k1;obtain ⟨l',us,q1,q2,_⟩:=k3.leaves
    cases q1;subst q2;exact LN _ (ik k2 (by simp))
   have E4:=h5 vs.dropLast ds.dropLast (by rw [length_dropLast,length_dropLast,h3]) fun m x d a1 a2=>by
    rw [List.getElem?_dropLast] at a1 a2
    split at a1
    ·split at a2
     ·exact h4 m x d a1 a2
     ·cases a2
    ·cases a1
   have one:(1:Nat)<=sizeLine:=by decide
   refine ⟨.ref l,h1,.inl ⟨rfl,vs,.of h2⟩,l,vs,_,rfl,rfl,h2,hu,one,fun p hp=>?_⟩
   generalize vs[vs.length-1]'(by omega)=u at ru hu
   have s1:Same (bt H (O++Fs.flatten)) (bt (bb H l (.lst vs.dropLast)) (O++Fs.flatten)):=fun b o hb=>by
    unfold bt at hb ⊢
    split at hb
    ·cases hb
    ·rename_i hn
     rw [if_neg hn];have:b≠l:=fun z=>hn (by rw [z];exact inF)
     unfold bb;rw [if_neg this];exact hb
   have s2:=fD (H:=bb H l (.lst vs.dropLast)) (o:=.lst [u]) hp
   have E5:=E4.grow s2
   refine ⟨He,O,Fs,_,E5,?_⟩
   cases e:fb (Γ.set i (some ⟨.lst .leaf,.list ds.dropLast⟩)) with
   | er c Γ'=>rw [e] at h;exact h.elim
   | no=>rw [e] at h;exact h.elim
   | ok q Γ2=>
    rw [e] at h;intro y H3 G Fs3 A;have h:gF K W He O D (tX ow j d q Γ2):=h
    obtain ⟨s,dd⟩:=q
    cases dd with
    | list es=>
     have h:gF K W He O D (if bH ⟨s,.list es⟩ es&&decide (1+es.length<=sizeLine)&&decide (j<Γ2.length) then .nx (Γ2.set j (some ⟨if ow then .lst .leaf else .leaf,.list ([d]++es)⟩)) else .no):=h
     cases hc:(bH ⟨s,.list es⟩ es&&decide (1+es.length<=sizeLine)&&decide (j<Γ2.length)) with
     | false=>rw [hc] at h;exact h.elim
     | true=>
      rw [hc] at h;simp only [Bool.and_eq_true,decide_eq_true_eq] at hc
      obtain ⟨⟨c1,c2⟩,c3⟩:=hc;obtain ⟨b,ws,rfl,q1,_,r1⟩:=A.own.items (O':=O++Fs3.flatten) c1 cU A.disj
      refine ⟨p,b,[u],ws,rfl,rfl,.inl (.of (A.same _ _ dA)),q1,by rw [r1.1];exact c2,fun r hr=>?_⟩
      have ru3:Rep K (bt H3 (O++Fs3.flatten)) u d:=(ru.mono s1).mono (nD (s2.trans A.same) fun a ha=>by
       rcases LP ha with z | z
       ·exact .inl (LO _ z)
       ·rcases A.new a (LN _ z) with y | y
        ·exact .inl (LN _ y)
        ·refine .inr ?_
         exact s2.free y)
      have rr:Reps K (bt H3 (O++Fs3.flatten)) ([u]++ws) ([d]++es):=Reps.app ⟨rfl,fun k v d' a1 a2=>by
       match k,a1,a2 with
       | 0,a1,a2=>cases a1;cases a2;exact ru3
       | k+1,a1,_=>simp at a1⟩ r1
      have A2:=DV A.go A.same A.newF rr hr
      cases ow with
      | true=>exact h _ _ _ (EnvOk.put (p:=⟨.lst .leaf,.list ([d]++es)⟩) A2.env A2.own rfl (fun a ha=>by
        rw [List.mem_singleton.mp ha];exact E.same.free (by
         have z:=(s2.trans A.same).free hr
         unfold bb at z;split at z
         ·cases z
         ·exact z)) c3)
      | false=>
      have o2:=A2.own.coer (s:=.leaf) (O':=O++Fs3.flatten) rfl cU fun a ha z=>absurd z (A2.disj a ha)
      exact h _ _ _ (EnvOk.put (G:=[]) (p:=⟨.leaf,.list ([d]++es)⟩) A2.go o2 rfl (fun a ha=>by simp at ha) c3)
    | _=>exact h.elim
 ·exact h.elim
end
section
variable {X:Cx} {N gl:List Str} {vs cs ls lo gs:List Nat} {W:XW} {a b c e:Expr} {es:List Expr} {pos p:Pos} {fa fb fc fk:F1} {fl:FL} {g:FS}
theorem cs_popC (S:Cp X N gl vs cs ls lo gs) (ow:Bool) (i j:Nat) {x y:Str} {apos cpos lpos bpos pos':Pos} (hj:N[j]?=some y) (hl:ls.contains j=true) (hi:N[i]?=some x) (hv:vs.contains i=true) (hb:PE X b (tE X.K W fb))
  (hs1:starEach [.Call (.Attribute (.Name x p) "pop" apos) [] [] cpos] X.env=[(false,eval (.Call (.Attribute (.Name x p) "pop" apos) [] [] cpos) X.env)]) (hbase:attributeBase (.Name x p) "pop" X.env (eval (.Name x p) X.env)=eval (.Name x p) X.env) (hline:(apos.endLine==cpos.line)=true)
  (hsw:swapsWith (.BinOp (.List [.Call (.Attribute (.Name x p) "pop" apos) [] [] cpos] lpos) .Add b bpos) (some (.Name y pos')) pos.line X.env=pure false) :
  PS X (.Assign [.Name y pos'] (.BinOp (.List [.Call (.Attribute (.Name x p) "pop" apos) [] [] cpos] lpos) .Add b bpos) pos) (tS X.K W (eA ow i j fb)):=by
 have m:=S.nm x (mem_of_getElem? hi)
 exact bN (Iw (by rw [S.hN];exact S.nd) (by rw [S.hN];exact hj) (S.loc j y hj hl).1 (eJ oE (uc (DS (BS PySem.F.plainAttrs_list PySem.F.slot_list_pop PySem.F.type_list_pop B9 (y4 (by rw [S.hN];exact hi) (S.vis i x hi hv) m.1 m.2) hbase hline) FT hs1)) hb) hsw (S.loc j y hj hl).2) fun _ _ _=>xh
end
end T
namespace TQ
open PySem PySem.Spec L2 T
open PyProof.Rows hiding St
section
variable {X:Cx} {N gl:List Str} {vs cs ls lo gs:List Nat} {W:XW} {a b c e:Expr} {es:List Expr} {pos p:Pos} {fa fb fc fk:F1} {fl:FL} {g:FS}
theorem pE (S:Cp X N gl vs cs ls lo gs) (ow:Bool) (i j:Nat) {x y:Str} {apos cpos lpos bpos pos':Pos} (hj:N[j]?=some y) (hl:ls.contains j=true) (hi:N[i]?=some x) (hv:vs.contains i=true) (hb:Q (PE X b (tE X.K W fb)))
  (hs1:starEach [.Call (.Attribute (.Name x p) "pop" apos) [] [] cpos] X.env=[(false,eval (.Call (.Attribute (.Name x p) "pop" apos) [] [] cpos) X.env)]) (hbase:attributeBase (.Name x p) "pop" X.env (eval (.Name x p) X.env)=eval (.Name x p) X.env) (hline:(apos.endLine==cpos.line)=true)
  (hsw:swapsWith (.BinOp (.List [.Call (.Attribute (.Name x p) "pop" apos) [] [] cpos] lpos) .Add b bpos) (some (.Name y pos')) pos.line X.env=pure false) :
  Q (PS X (.Assign [.Name y pos'] (.BinOp (.List [.Call (.Attribute (.Name x p) "pop" apos) [] [] cpos] lpos) .Add b bpos) pos) (tS X.K W (eA ow i j fb))):=⟨T.cs_popC S ow i j hj hl hi hv hb.p hs1 hbase hline hsw⟩
end
end TQ
namespace KC
open PySem PySem.Spec L2 T PySem.SeqAt
open PyProof.Rows hiding St
def Wd.inn (w:Wd) (L:List Nat):Wd:=⟨w.n,w.os,w.m,w.s.map fun row=>row.filter fun t=>L.contains t⟩
abbrev gl (T L:List Nat):List Nat:=L.filter fun r=>T.contains r
abbrev lst (rk:List (Option Nat)) (L:List Nat):List Nat:=L.filter fun r=>(bj rk r).isNone
def tD:Option (Nat×Nat)->D
 | none=>.none
 | some (a,b)=>.tuple [.int (a:Int),.int (b:Int)]
@[simp] theorem Hb (o:Option (Nat×Nat)):we (tD o)=o.isNone:=by cases o<;>rfl
def Dx (tn:List (Option (Nat×Nat))) (t:Nat):Option (Nat×Nat):=tn.getD t none
def FP (tn:List (Option (Nat×Nat))) (a b t:Nat):Prop:=∃a' b',Dx tn t=some (a',b')/\(a'<a\/(a'=a/\(b'<b\/(b=0/\b'=0))))
structure TS where
 tn:List (Option (Nat×Nat))
 L:List Nat
 k:Nat
 lost:List Nat
 x7:Option PV
 x8:Option PV
structure TI (w:Wd) (p:Int) (T:List Nat) (b:TS):Prop where
 len:b.tn.length=w.n
 std:KE w.n b.L
 mem:∀r,r<w.n->(r∈b.L↔Dx b.tn r=none)
 c:∀r∈b.L,led (own w p r) (w.stp r) (·∈b.L)
 big:∀X,C1 w.n w.stp (own w p) (·∈T) X->∀r,X r->r∈b.L
 los:∃rk,nz w.n (inn w.stp b.L) (own w p) b.L (gl T b.L) rk/\b.lost=lst rk b.L
 tk:∀r a j,Dx b.tn r=some (a,j)->a<b.k
 td:∀r a j,r<w.n->Dx b.tn r=some (a,j)->(j=0->r∉T)/\led (!own w p r) (w.stp r) (FP b.tn a j)
structure LM (w:Wd) (p:Int) (T:List Nat) (tn:List (Option (Nat×Nat))) (L:List Nat):Prop where
 len:tn.length=w.n
 std:KE w.n L
 mem:∀r,r<w.n->(r∈L↔Dx tn r=none)
 c:∀r∈L,led (own w p r) (w.stp r) (·∈L)
 suff:C1 w.n w.stp (own w p) (·∈T) (·∈L)
 big:∀X,C1 w.n w.stp (own w p) (·∈T) X->∀r,X r->r∈L
 td:∀r a j,r<w.n->Dx tn r=some (a,j)->(j=0->r∉T)/\led (!own w p r) (w.stp r) (FP tn a j)
abbrev Kk (w:Wd) (c:Str) (r:Nat):Prop:=c∈w.mks r
structure FH (w:Wd) (M:List Str) (L off:List Nat):Prop where
 ne:off≠[]
 sub:∀r∈off,r∈L
 no:∀(R:Nat->Prop) X,Fr w.n w.stp R M (Kk w) X->(∀r,X r->r∈L)->∀r∈off,¬X r
structure FO (w:Wd) (M:List Str) (L:List Nat):Prop where
 c:∀r∈L,∃t∈w.stp r,t∈L
 a:∀m∈M,∀S:Nat->Prop,(∀r,r∈L->Kk w m r->S r)->(∀r,r∈L->(∃t∈w.stp r,t∈L/\S t)->S r)->∀r,r∈L->S r
structure LK where
 rows:List D
 L:List Nat
 row:D
structure FI (w:Wd) (R:List Nat) (M:List Str) (b:LK):Prop where
 std:KE w.n b.L
 sub:∀r∈b.L,r∈R
 cnt:b.rows.length+b.L.length<=w.n
 big:∀X,Fr w.n w.stp (·∈R) M (Kk w) X->∀r,X r->r∈b.L
 row:(b.row=.none/\FO w M b.L)\/(∃off o,b.row=.tuple [ao off,o]/\FH w M b.L off)
theorem Av {is:List Nat} {f:F1} {Γ Γ1 Γ':Ev} {p:PV} {ps:List PV} (h:f Γ=.ok p Γ1) (hu:AD p=some ps) (hl:ps.length=is.length) (hp:putN is ps Γ1=some Γ'):iC is f Γ=.nx Γ':=by
 unfold iC d0;rw [h];simp only [hu,hl,if_true,hp]
theorem Gf {r:List Nat}:shaped (ao r)=true:=Gg fun a ha=>by
 obtain ⟨t,_,e⟩:=List.mem_map.mp ha;exact ⟨(t:Int),e.symm⟩
def vG (w:Wd):List Nat->Prop
 | a::b::r=>b∈w.stp a/\vG w (b::r)
 | _=>True
def lW (P Q:Nat->Bool):List Nat->Bool
 | []=>false
 | r::p=>Q r||(P r&&lW P Q p)
structure Las (w:Wd) (p:List Nat):Prop where
 ch:vG w p
 nd:p.Nodup
 bk:∃z t,p.getLast?=some z/\t∈w.stp z/\t∈p
theorem lJ {w:Wd} {z t:Nat} (ht:t∈w.stp z):∀{p:List Nat},vG w p->p.getLast?=some z->vG w (p++[t])
 | [],_,h=>by simp at h
 | [a],_,h=>by
  simp at h
  subst h;exact ⟨ht,trivial⟩
 | a::b::r,h,e=>⟨h.1,lJ ht h.2 (by simpa using e)⟩
theorem Iq:∀{n:Nat} {p:List Nat},p.Nodup->(∀x∈p,x<n)->p.length<=n
 | 0,[],_,_=>L3 _
 | 0,a::p,_,h=>absurd (h a (by simp)) (Nat.not_lt_zero _)
 | n+1,p,nd,h=>by
  by_cases hn:n∈p
  ·have:=Iq (n:=n) (nd.erase n) fun x hx=>by
    obtain ⟨h1,h2⟩:=nd.mem_erase_iff.mp hx;have:=h x h2
    omega
   rw [List.length_erase_of_mem hn] at this;omega
  ·have:=Iq (n:=n) nd fun x hx=>by
    have h1:=h x hx
    have:x≠n:=fun e=>hn (e▸hx)
    omega
   omega
end KC
namespace KC
open PySem PySem.Spec L2 T
open PyProof.Rows hiding St
def qZ:FS:=(ak (aA false 2 (g5 (g5 (ai (ae 1) (eK (.int 0))) (ai (ae 1) (eK (.int 1)))) (cg (fun k=>(none,some k)) (ai (ae 1) (eK (.int 1))) (eK (.int 1)))))
  (ak (b7 (jC (du (aP bu (ai (ae 1) (eK (.int 1))))) (du (aP bu (ba (bK false) (ab (ax .leaf 4 (aN (ae 2)) aC (yZ DE iN (eK (.int 0)) (ae 4) (ba aV (ab (ai (ae 0) (eK (.int 0))) af)))) af))))) (aF (eK (.bool false))) aQ)
  (aF (ba (bK false) (ab (ax .leaf 3 (rE (ab (eK (.int 1)) (ab (ba aV (ab (ae 2) af)) af))) aC (az (bh false) (ai (ae 2) (ae 3)) (ai (ai (ae 0) (eK (.int 2))) (ai (ae 2) (az gSub (ae 3) (eK (.int 1))))))) af)))))
def Gy:List L4->Res:=aB 5 qZ
def vm:FS:=(ak (bS (ag 1 Aq (ab (ae 0) af)))
  (aF (ag 2 Gy (ab (ae 0) (ab (ae 1) af)))))
def IH:List L4->Res:=aB 2 vm
end KC
namespace KQ
open PySem PySem.Spec L2 T
open PyProof.Rows hiding St
open KC
def nc:FS:=(ak (aA true 4 (aW .leaf (ab (ae 2) af)))
  (ak (cJ 5 (dz (ab (ae 3) af))
  (ak (aA false 8 (ai (ai (ae 0) (eK (.int 2))) (ai (ae 4) (eU bQ (eK (.int 1))))))
  (cX 4 (ai (ae 8) (az b8 (ag 3 bZ (ab (ae 1) (ab (ae 5) (ab (eK (.int 24)) af)))) (ba aV (ab (ae 8) af)))))))
  (ak (pw 100 (aP av (az (bh true) (ai (ae 4) (eU bQ (eK (.int 1)))) (cg (fun k=>(none,some k)) (ae 4) (eU bQ (eK (.int 1))))))
  (ak (aA false 8 (ai (ai (ae 0) (eK (.int 2))) (ai (ae 4) (eU bQ (eK (.int 1))))))
  (cX 4 (ai (ae 8) (az b8 (ag 3 bZ (ab (ae 1) (ab (ba aV (ab (ae 4) af)) (ab (eK (.int 24)) af)))) (ba aV (ab (ae 8) af)))))))
  (ak (aA false 6 (ax .leaf 5 (dz (ab (az gSub (ba aV (ab (ae 4) af)) (eK (.int 1))) af)) (aP av (az bE (ai (ae 4) (ae 5)) (ai (ae 4) (eU bQ (eK (.int 1)))))) (ae 5)))
  (ak (aA false 7 (ai (ae 6) (az b8 (ag 3 bZ (ab (ae 1) (ab (eK (.int 59)) (ab (eK (.int 24)) af)))) (ba aV (ab (ae 6) af)))))
  (aF (bg (ab (cg (fun k=>(none,some k)) (ae 4) (ae 7)) (ab (cg (fun k=>(some k,some (-1))) (ae 4) (ae 7)) af)))))))))
def Jl:List L4->Res:=aB 9 nc
end KQ
namespace KC
open PySem PySem.Spec L2 T PySem.SeqAt
open PyProof.Rows hiding St
theorem eo {Γ Γ1 Γ2:Ev} {g:Int->Option Int×Option Int} {fa fb:F1} {s s':Sh} {xs:List D} {k:Int} (ha:fa Γ=.ok ⟨s,.list xs⟩ Γ1) (hb:fb Γ1=.ok ⟨s',.int k⟩ Γ2) (ho:bH ⟨s,.list xs⟩ xs=true):cg g fa fb Γ=.ok ⟨.lst .leaf,.list (T.cutD xs (g k).1 (g k).2)⟩ Γ2:=by
 unfold cg aK;rw [ha];simp only [Out.bind]
 rw [hb];simp only [ho,if_true]
theorem Ad {s:Sh} {l:List Nat}:bH ⟨s,ao l⟩ (l.map rm)=true:=by
 unfold bH;simp [aZ]
theorem sL {l:List Nat} {k:Nat}:T.cutD (l.map rm) none (some (k:Int))=(l.take k).map rm:=by
 unfold T.cutD;rw [HT.sIx_none,HT.sIx_nat,List.drop_zero,length_map,Nat.sub_zero,map_take];by_cases h:k<=l.length
 ·rw [Nat.min_eq_left h]
 ·rw [Nat.min_eq_right (by omega),take_of_length_le (by simp),take_of_length_le (by simp;omega)]
theorem wU {l:List Nat} {k:Nat}:T.cutD (l.map rm) (some (k:Int)) none=(l.drop k).map rm:=by
 unfold T.cutD;rw [HT.sIx_none,HT.sIx_nat,length_map,List.map_drop];by_cases h:k<=l.length
 ·rw [Nat.min_eq_left h,take_of_length_le (by simp)]
 ·rw [Nat.min_eq_right (by omega),List.drop_of_length_le (by simp),List.drop_of_length_le (by simp;omega)]
  simp
theorem Io {n d k:Nat} (h:1<=k):HT.sIx n d (some (-(k:Int)))=n-k:=by
 unfold HT.sIx;simp only
 rw [if_pos (by omega)]
 omega
theorem nX {l:List Nat}:T.cutD (l.map rm) none (some (-1))=l.dropLast.map rm:=by
 unfold T.cutD;rw [HT.sIx_none,List.drop_zero,Nat.sub_zero,List.dropLast_eq_take,map_take,length_map];rw [show (-1:Int)=-((1:Nat):Int) from rfl,Io (by omega)]
theorem AO {l:List Nat} {k:Nat} (h:k<=l.length):T.cutD (l.map rm) (some (k:Int)) (some (-1))=(l.dropLast.drop k).map rm:=by
 unfold T.cutD;rw [HT.sIx_nat,List.dropLast_eq_take,List.map_drop,map_take,length_map,Nat.min_eq_left h];rw [show (-1:Int)=-((1:Nat):Int) from rfl,Io (by omega),List.drop_take]
theorem yQ {l:List Nat} {z:Nat} (h:l.getLast?=some z):cn (l.map rm) (-1)=some (rm z):=by
 have hl:0<l.length:=by
  cases l with
  | nil=>simp at h
  | cons a r=>simp
 rw [List.getLast?_eq_getElem?] at h;unfold cn cx;rw [length_map];simp only [show ¬(0:Int) <= -1 by omega,false_and,if_false]
 rw [if_pos (by omega)]
 simp only [Option.bind_some]
 rw [getElem?_map,show (-1+(l.length:Int)).toNat=l.length-1 by omega,h]
 rfl
theorem Ab {Γ:Ev}:eU bQ (eK (.int 1)) Γ=.ok ⟨.leaf,.int (-1)⟩ Γ:=KU aO rfl
theorem DQ {Γ:Ev} {fa fb:F1} {s:Sh} {l:List Nat} {z:Nat} (ha:fa Γ=.ok ⟨.view,ao l⟩ Γ) (hb:fb Γ=.ok ⟨s,.int (-1)⟩ Γ) (h:l.getLast?=some z):ai fa fb Γ=.ok ⟨.leaf,rm z⟩ Γ:=by
 rw [bT,ha];simp only [Out.bind]
 rw [hb];simp only
 rw [zx,yQ h];rfl
theorem Eh {Γ:Ev} {fa fb:F1} {s:Sh} {l:List Nat} {k:Nat} (ha:fa Γ=.ok ⟨.view,ao l⟩ Γ) (hb:fb Γ=.ok ⟨s,.int (k:Int)⟩ Γ) (h:k<l.length):ai fa fb Γ=.ok ⟨.leaf,rm (l.getD k 0)⟩ Γ:=by
 rw [bT,ha];simp only [Out.bind]
 rw [hb];simp only
 rw [zx,yY (x:=rm (l.getD k 0)) (by rw [getElem?_map,LU,LR h];rfl)]
 rfl
theorem ir {Γ:Ev} {fa fb:F1} {s:Sh} {l:List Nat} {k:Nat} (ha:fa Γ=.ok ⟨.leaf,ao l⟩ Γ) (hb:fb Γ=.ok ⟨s,.int (k:Int)⟩ Γ) (h:k<l.length):ai fa fb Γ=.ok ⟨.leaf,rm (l.getD k 0)⟩ Γ:=by
 rw [bT,ha];simp only [Out.bind]
 rw [hb];simp only
 rw [kj,yY (x:=rm (l.getD k 0)) (by rw [getElem?_map,LU,LR h];rfl)]
theorem vA {α:Type} {xs:List α}:bK false [.list (xs.map fun _=>.bool true)]=some (.bool true):=by
 rw [wc (xs:=xs) (f:=fun _=>true),List.all_eq_true.mpr fun _ _=>rfl]
abbrev wy (F R:List Nat):D:=.tuple [ao F,ao R]
structure cv (w:Wd) (F R:List Nat):Prop where
 ne:R≠[]
 lt:∀x∈F++R,x<w.n
 ch:vG w (F++R++R.take 1)
 len:F.length+R.length<=1000
theorem HU {w:Wd}:∀{l:List Nat} {k:Nat},vG w l->k+1<l.length->l.getD (k+1) 0∈w.stp (l.getD k 0)
 | [],k,_,h=>by simp at h
 | [a],k,_,h=>by simp at h
 | a::b::r,0,h,_=>h.1
 | a::b::r,k+1,h,hk=>by
  have:=HU (k:=k) h.2 (by simpa using hk)
  simpa using this
theorem j3 {w:Wd} (ok:w.Ok) {Γ:Ev} {i:Nat} {fb:F1} {s:Sh} {r:Nat} (h0:Γ[i]?=some (L5 w.enc)) (hb:fb Γ=.ok ⟨s,rm r⟩ Γ) (hr:r<w.n):ai (ai (ae i) (eK (.int 2))) fb Γ=.ok ⟨.leaf,ao (w.stp r)⟩ Γ:=by
 rw [bT,bT,aw h0];simp only [Out.bind,aO,Wd.enc,dD,ki,zy]
 rw [hb];simp only [kj]
 rw [ok.at2 hr]
theorem nY {w:Wd} (ok:w.Ok) {Γ:Ev} {i:Nat} (h0:Γ[i]?=some (L5 w.enc)):ba aV (ab (ai (ae i) (eK (.int 0))) af) Γ=.ok ⟨.leaf,.int (w.n:Int)⟩ Γ:=by
 have e:ai (ae i) (eK (.int 0)) Γ=.ok ⟨.leaf,.list w.os⟩ Γ:=by
  rw [bT,aw h0];simp only [Out.bind,aO,Wd.enc,dD,ki,zz]
 refine bD (aq e ah) ?_
 simp [ok.g.lo]
theorem El {R:List Nat} (h:R≠[]):∃a,R.take 1=[a]/\a∈R:=by
 cases R with
 | nil=>exact absurd rfl h
 | cons a r=>exact ⟨a,rfl,by simp⟩
theorem eT {w:Wd} (ok:w.Ok) {F R:List Nat} (h:cv w F R):Gy [w.enc,wy F R]=.ok ⟨.leaf,.bool true⟩:=by
 obtain ⟨a,ea,ha⟩:=El h.ne;have hl:=h.len
 have ltA:∀x∈F++R++R.take 1,x<w.n:=fun x hx=>by
  rcases LP hx with z | z
  ·exact h.lt x z
  ·rw [ea] at z
   rw [List.mem_singleton.mp z];exact h.lt a (LN _ ha)
 have lnA:(F++R++R.take 1).length<=1001:=by rw [ea];simp;omega
 have l1:1<=(F++R++R.take 1).length:=by rw [ea];simp;omega
 have c1:g5 (g5 (ai (ae 1) (eK (.int 0))) (ai (ae 1) (eK (.int 1)))) (cg (fun k=>(none,some k)) (ai (ae 1) (eK (.int 1))) (eK (.int 1))) (aI 5 [w.enc,wy F R])=.ok ⟨.lst .leaf,ao (F++R++R.take 1)⟩ (aI 5 [w.enc,wy F R]):=by
  have i0:ai (ae 1) (eK (.int 0)) (aI 5 [w.enc,wy F R])=.ok ⟨.leaf,ao F⟩ (aI 5 [w.enc,wy F R]):=by simp [aI]
  have i1:ai (ae 1) (eK (.int 1)) (aI 5 [w.enc,wy F R])=.ok ⟨.leaf,ao R⟩ (aI 5 [w.enc,wy F R]):=by simp [aI]
  have s1:cg (fun k=>(none,some k)) (ai (ae 1) (eK (.int 1))) (eK (.int 1)) (aI 5 [w.enc,wy F R])=.ok ⟨.lst .leaf,ao (R.take 1)⟩ (aI 5 [w.enc,wy F R]):=by
   rw [eo i1 aO rfl,show T.cutD (R.map rm) none (some (1:Int))=(R.take 1).map rm from sL (k:=1)]
  have:=nN (nN i0 i1 rfl rfl (by simp;omega)) s1 rfl rfl (by simp;omega)
  rw [this];simp [ao]
 generalize hA:F++R++R.take 1=A at c1 ltA lnA l1
 have hch:vG w A:=hA▸h.ch
 refine aM ?_
 refine ay (Γ1:=[L5 w.enc,L5 (wy F R),L5 (ao A),none,none]) (cD c1 rfl (by simp [aI])) ?_
 refine ay (bF (t:=false) (yP (a:=false) (b:=false) (lN (b:=true) (Γ1:=[L5 w.enc,L5 (wy F R),L5 (ao A),none,none]) ?_) (lN (b:=true) (gC (s:=.leaf) (bD (ps:=[⟨.lst .leaf,.list (A.map fun x=>.bool true)⟩]) (aq (i5 rm A (fun x=>⟨.leaf,.bool true⟩) (st:=true) ?_ (by simp) rfl (by omega) ?_) ah) ?_)))) nofun fun _=>rfl) ?_
 ·cases R with
  | nil=>exact absurd rfl h.ne
  | cons b r=>
   have i1:ai (ae 1) (eK (.int 1)) [L5 w.enc,L5 (wy F (b::r)),L5 (ao A),none,none]=.ok ⟨.leaf,ao (b::r)⟩ [L5 w.enc,L5 (wy F (b::r)),L5 (ao A),none,none]:=by simp
   unfold aP;rw [i1];rfl
 ·exact bB (aw rfl) rfl
 ·intro x hx
  refine ⟨?_,rfl⟩
  have:=ltA x hx
  have e:=nM (b:=decide ((0:Int)<=(x:Int))) (b':=decide ((x:Int)<(w.n:Int))) (g:=DE) (g':=iN) (fa:=eK (.int 0)) (fb:=ae 4) (Γ:=[L5 w.enc,L5 (wy F R),L5 (ao A),none,L5 (rm x)]) aO (aw rfl) rfl rfl (nY ok (i:=0) rfl) rfl
  rw [show (decide ((0:Int)<=(x:Int))&&decide ((x:Int)<(w.n:Int)))=true by simp;omega] at e
  exact e
 ·exact vA
 ·refine aS (p:=⟨.leaf,.bool true⟩) (bD (ps:=[⟨.lst .leaf,.list ((List.range (A.length-1)).map fun x=>.bool true)⟩]) (aq (i5 (fun k:Nat=>PyData.int (1+(k:Int))) (List.range (A.length-1)) (fun x=>⟨.leaf,.bool true⟩) (st:=true) ?_ (by simp) rfl (by simp;omega) ?_) ah) ?_) rfl
  ·refine (AB (k:=1) (m:=(A.length:Int)) (aq aO (aq (bD (aq (aw rfl) ah) ?_) ah)) rfl (by omega) (by omega) (by omega) (by omega)).trans ?_
   ·simp only [map_cons,map_nil,Iy,length_map]
   ·rw [show ((A.length:Int)-1).toNat=A.length-1 by omega,sX]
  ·intro k hk
   have hk:=List.mem_range.mp hk
   refine ⟨?_,rfl⟩
   have e1:=ir (Γ:=[L5 w.enc,L5 (wy F R),L5 (ao A),L5 (.int (1+(k:Int))),none]) (fa:=ae 2) (fb:=ae 3) (s:=.leaf) (l:=A) (k:=k+1) (aw rfl) (by rw [aw (d:=.int (1+(k:Int))) rfl,show (1+(k:Int))=((k+1:Nat):Int) by omega]) (by omega)
   have e2:=ir (Γ:=[L5 w.enc,L5 (wy F R),L5 (ao A),L5 (.int (1+(k:Int))),none]) (fa:=ae 2) (fb:=az gSub (ae 3) (eK (.int 1))) (s:=.leaf) (l:=A) (k:=k) (aw rfl) (by rw [aE (aw rfl) aO sub_int',show (1+(k:Int)-1)=(k:Int) by omega]) (by omega)
   have hm:A.getD k 0<w.n:=ltA _ (by rw [LU,LR (by omega:k<A.length)];exact getElem_mem _)
   refine aE e1 (j3 ok rfl e2 hm) ?_
   rw [Dd,List.contains_iff_mem.mpr (HU hch (by omega))]
  ·exact vA
theorem m5 {w:Wd} (ok:w.Ok) {F R:List Nat} (h:cv w F R):IH [w.enc,wy F R]=.ok ⟨.leaf,.bool true⟩:=by
 refine aM ?_
 exact ay (za (bq (aq (aw rfl) ah) ok.check rfl rfl)) (aS (bq (aq (aw rfl) (aq (aw rfl) ah)) (eT ok h) rfl rfl) rfl)
end KC
namespace KQ
open PySem PySem.Spec L2 T PySem.SeqAt KC
open PyProof.Rows hiding St
abbrev GW (w:Wd) (c:Int) (r sz:Nat) (l:List Nat) (x5 x8:Option PV):Ev:=[L5 w.enc,L5 (.int c),L5 (rm r),L5 (.int (sz:Int)),some ⟨.lst .leaf,ao l⟩,x5,none,none,x8]
abbrev DL (fk:F1):FS:=ak (aA false 8 (ai (ai (ae 0) (eK (.int 2))) (ai (ae 4) (eU bQ (eK (.int 1))))))
  (cX 4 (ai (ae 8) (az b8 (ag 3 bZ (ab (ae 1) (ab fk (ab (eK (.int 24)) af)))) (ba aV (ab (ae 8) af)))))
theorem ES {c k:Int} (h0:0<=k) (h1:k<=1000) {b m:Nat} (hb:1<=b) (hb2:b<=1000) (hm:1<=m):∃j:Nat,j<m/\cM c k b % (m:Int)=(j:Int):=by
 have h:=DI (c:=c) (k:=k) (b:=b) h0 h1 (by omega) (by omega)
 have h2:=Int.emod_nonneg (cM c k b) (show (m:Int)≠0 by omega)
 have h3:=Int.emod_lt_of_pos (cM c k b) (show (0:Int)<m by omega)
 exact ⟨(cM c k b % (m:Int)).toNat,by omega,by omega⟩
theorem nJ {w:Wd} (ok:w.Ok) {c:Int} {r sz:Nat} {l:List Nat} {x5 x8:Option PV} {fk:F1} {kk:Int} (h0:0<=kk) (h1:kk<=1000) (hf:∀x,fk (GW w c r sz l x5 x)=.ok ⟨.leaf,.int kk⟩ (GW w c r sz l x5 x)) {z:Nat} (hz:l.getLast?=some z) (hzn:z<w.n) (hl:l.length<=900) :
  ∃t x,t∈w.stp z/\DL fk (GW w c r sz l x5 x8)=.nx (GW w c r sz (l++[t]) x5 x):=by
 have hne:=ok.stp_ne hzn
 have hpos:1<=(w.stp z).length:=by
  cases e:w.stp z with
  | nil=>exact absurd e hne
  | cons a b=>simp
 obtain ⟨j,hj,ej⟩:=ES (c:=c) h0 h1 (b:=24) (by omega) (by omega) hpos
 refine ⟨(w.stp z).getD j 0,L5 (ao (w.stp z)),?_,?_⟩
 ·rw [LU,LR hj]
  exact getElem_mem _
 ·refine ay (Γ1:=GW w c r sz l x5 (L5 (ao (w.stp z)))) (cD (j3 ok rfl (DQ (cz rfl) Ab hz) hzn) rfl (by simp)) ?_
  have m1:b8 (.int (cM c kk 24)) (.int ((w.stp z).length:Int))=some (.int (j:Int)):=by
   rw [cK (by omega),show cM c kk 24 % ((w.stp z).length:Int)=(j:Int) from ej]
  have e:=Gx (i:=4) (s:=.leaf) (ds:=l.map rm) (Γ:=GW w c r sz l x5 (L5 (ao (w.stp z)))) (fa:=ai (ae 8) (az b8 (ag 3 bZ (ab (ae 1) (ab fk (ab (eK (.int 24)) af)))) (ba aV (ab (ae 8) af)))) (p:=⟨.leaf,rm ((w.stp z).getD j 0)⟩) rfl
   (ir (aw rfl) (s:=.leaf) (k:=j) (aE (bq (aq (aw rfl) (aq (hf (L5 (ao (w.stp z)))) (aq aO ah))) (wb (b:=24) h0 h1 (by omega) (by omega)) rfl rfl) (bD (d:=.int ((w.stp z).length:Int)) (aq (aw rfl) ah) (by simp)) m1) hj) rfl (by simpa using hl)
  refine e.trans ?_
  simp [ao]
structure Wg (w:Wd) (r:Nat) (l:List Nat):Prop where
 hd:l.head?=some r
 lt:∀x∈l,x<w.n
 ch:vG w l
theorem Wg.last {w:Wd} {r:Nat} {l:List Nat} (h:Wg w r l):∃z,l.getLast?=some z/\z<w.n:=by
 cases l with
 | nil=>exact absurd h.hd (by simp)
 | cons a s=>exact ⟨_,List.getLast?_eq_some_getLast (by simp),h.lt _ (List.getLast_mem _)⟩
theorem Wg.snoc {w:Wd} (ok:w.Ok) {r z t:Nat} {l:List Nat} (h:Wg w r l) (hz:l.getLast?=some z) (ht:t∈w.stp z):Wg w r (l++[t]):=by
 refine ⟨?_,fun x hx=>?_,lJ ht h.ch hz⟩
 ·have:=h.hd
  cases l with
  | nil=>simp at this
  | cons a s=>simpa using this
 ·rcases LP hx with q | q
  ·exact h.lt x q
  ·rw [List.mem_singleton.mp q]
   exact ok.stp_lt ht
theorem oV {p q:Nat->Bool} {z:Nat} (hpq:∀x,q x=true->p x=true) (hp:p z=true) (hq:q z=false):∀{l:List Nat},z∈l->(l.filter q).length<(l.filter p).length
 | [],h=>by simp at h
 | a::r,h=>by
  have le:(r.filter q).length<=(r.filter p).length:=by
   clear h;induction r with
   | nil=>simp
   | cons b s ih=>
    simp only [filter_cons]
    cases eq:q b with
    | true=>
     rw [hpq b eq];simp
     exact ih
    | false=>
     cases p b with
     | true=>
      simp
      omega
     | false=>
      simpa using ih
  rcases LQ h with e | e
  ·subst e
   simp only [filter_cons,hp,hq,if_true,Bool.false_eq_true,if_false,length_cons]
   omega
  ·have:=oV hpq hp hq e
   simp only [filter_cons]
   cases eq:q a with
   | true=>
    rw [hpq a eq];simp
    exact this
   | false=>
    cases p a with
    | true=>
     simp
     omega
    | false=>
     simpa using this
def Az (w:Wd) (l:List Nat):Nat:=((List.range w.n).filter fun x=>!l.dropLast.contains x).length
theorem KS {w:Wd} (l:List Nat):Az w l<=w.n:=by
 unfold Az;exact Nat.le_trans (length_filter_le _ _) (by simp)
theorem pz {w:Wd} (ok:w.Ok) {c:Int} {r sz:Nat} (hr:r<w.n) (hs:sz<=100):∃l x5 x8,bp 5 (DL (ae 5)) ((List.range sz).map rm) (GW w c r sz [r] none none)=.nx (GW w c r sz l x5 x8)/\Wg w r l/\l.length=sz+1:=by
 obtain ⟨Γ1,e1,l,x5,x8,rfl,g,hlen⟩:=iP rm (i:=5) (body:=DL (ae 5)) (Inv:=fun rest Γ=>∃l x5 x8,Γ=GW w c r sz l x5 x8/\Wg w r l/\l.length+rest.length=sz+1/\∀a∈rest,a<=1000)
  (fun a rest Γ ⟨l,x5,x8,e,g,hl,ha⟩=>by
   subst e;refine ⟨by simp,?_⟩
   obtain ⟨z,hz,hzn⟩:=g.last;have ha0:=ha a (by simp)
   obtain ⟨t,x,ht,e⟩:=nJ ok (c:=c) (r:=r) (sz:=sz) (l:=l) (x5:=some ⟨.leaf,rm a⟩) (x8:=x8) (fk:=ae 5) (kk:=(a:Int)) (by omega) (by omega) (fun x=>aw rfl) hz hzn (by simp only [length_cons] at hl;omega)
   exact ⟨_,e,l++[t],_,x,rfl,g.snoc ok hz ht,by simp only [length_cons,length_append,length_nil] at hl ⊢;omega,fun b hb=>ha b (by simp [hb])⟩) (List.range sz) (GW w c r sz [r] none none) ⟨[r],none,none,rfl,⟨rfl,fun x hx=>by rw [List.mem_singleton.mp hx];exact hr,trivial⟩,by simp;omega,fun a ha=>by have:=List.mem_range.mp ha;omega⟩
 obtain ⟨hlen,_⟩:=hlen;simp only [length_nil,Nat.add_zero] at hlen
 exact ⟨l,x5,x8,e1,g,hlen⟩
theorem wA {w:Wd} (ok:w.Ok) {c:Int} {r sz:Nat} (hs:sz<=100) {l l':List Nat} {x5 x8 y5 y8:Option PV} {b:FS} (h:bp 5 b ((List.range sz).map rm) (GW w c r sz l' y5 y8)=.nx (GW w c r sz l x5 x8)):cJ 5 (dz (ab (ae 3) af)) b (GW w c r sz l' y5 y8)=.nx (GW w c r sz l x5 x8):=by
 have e:dz (ab (ae 3) af) (GW w c r sz l' y5 y8)=.ok ⟨(List.range sz).map rm,true⟩ (GW w c r sz l' y5 y8):=ph (s:=.leaf) (n:=sz) (by omega) (aq (aw rfl) ah)
 exact eh e h
theorem rS {w:Wd} (ok:w.Ok) {c:Int} {r sz:Nat} (hs:sz<=100) {l:List Nat} {x5 x8:Option PV} (g:Wg w r l) (hlen:l.length=sz+1):∃l2 x8',nC (aP av (az (bh true) (ai (ae 4) (eU bQ (eK (.int 1)))) (cg (fun k=>(none,some k)) (ae 4) (eU bQ (eK (.int 1)))))) (DL (ba aV (ab (ae 4) af))) 100 (GW w c r sz l x5 x8)=.nx (GW w c r sz l2 x5 x8')/\Wg w r l2/\l2.length<=sz+1+w.n/\l2.getLast?.getD 0∈l2.dropLast:=by
 have h24:=ok.h24
 obtain ⟨b',e2,⟨g2,hl2⟩,ht2⟩:=D4 (β:=List Nat×Option PV) (c:=aP av (az (bh true) (ai (ae 4) (eU bQ (eK (.int 1)))) (cg (fun k=>(none,some k)) (ae 4) (eU bQ (eK (.int 1)))))) (g:=DL (ba aV (ab (ae 4) af)))
  (G:=fun b=>GW w c r sz b.1 x5 b.2) (test:=fun b=>!b.1.dropLast.contains (b.1.getLast?.getD 0)) (Inv:=fun b=>Wg w r b.1/\b.1.length+Az w b.1<=sz+1+w.n) (meas:=fun b=>Az w b.1)
  (fun b ⟨gb,_⟩=>by
   obtain ⟨z,hz,hzn⟩:=gb.last;refine fG (s:=.leaf) (aE (DQ (cz rfl) Ab hz) (eo (cz rfl) Ab Ad) ?_)
   simp only
   rw [nX,Jn,hz];rfl)
  (fun b ⟨gb,hb⟩ ht=>by
   obtain ⟨z,hz,hzn⟩:=gb.last;obtain ⟨t,x,htz,e⟩:=nJ ok (c:=c) (r:=r) (sz:=sz) (l:=b.1) (x5:=x5) (x8:=b.2) (fk:=ba aV (ab (ae 4) af)) (kk:=(b.1.length:Int)) (by omega) (by omega) (fun x=>bD (aq (cz rfl) ah) (by simp)) hz hzn (by omega)
   have hlt:Az w (b.1++[t])<Az w b.1:=by
    rw [hz] at ht;simp only [Option.getD_some,Bool.not_eq_true',Bool.eq_false_iff,ne_eq,contains_iff_mem] at ht
    have hzm:z∈b.1:=List.mem_of_getLast? hz
    unfold Az;rw [List.dropLast_concat];refine oV (z:=z) (fun x hx=>?_) (by simpa using ht) (by simpa using hzm) (List.mem_range.mpr hzn)
    simp only [Bool.not_eq_true',Bool.eq_false_iff,ne_eq,contains_iff_mem] at hx ⊢
    exact fun q=>hx (List.dropLast_subset _ q)
   refine ⟨(b.1++[t],x),e,⟨gb.snoc ok hz htz,?_⟩,hlt⟩
   simp only [length_append,length_cons,length_nil]
   omega) 100 (l,x8) ⟨g,by have:=KS (w:=w) l;simp only;omega⟩ (by have:=KS (w:=w) l;simp only;omega)
 refine ⟨b'.1,b'.2,e2,g2,by omega,?_⟩
 simpa using ht2
theorem vg {w:Wd} (ok:w.Ok) {c:Int} {r sz:Nat} (hr:r<w.n) (hs:sz<=100):∃F R,Jl [w.enc,.int c,rm r,.int (sz:Int)]=.ok ⟨.tup [.lst .leaf,.lst .leaf],wy F R⟩/\cv w F R/\(F++R).head?=some r/\F.length+R.length<=sz+w.n:=by
 have h24:=ok.h24
 obtain ⟨l,x5,x8,e1,g,hlen⟩:=pz ok (c:=c) hr hs
 obtain ⟨l2,x8',e2,g2,hlb,ht2⟩:=rS ok (c:=c) hs (x5:=x5) (x8:=x8) g hlen
 obtain ⟨z,hz,hzn⟩:=g2.last;rw [hz] at ht2;simp only [Option.getD_some] at ht2
 have pl:ax .leaf 5 (dz (ab (az gSub (ba aV (ab (ae 4) af)) (eK (.int 1))) af)) (aP av (az bE (ai (ae 4) (ae 5)) (ai (ae 4) (eU bQ (eK (.int 1)))))) (ae 5) (GW w c r sz l2 x5 x8')=.ok ⟨.lst .leaf,ao ((List.range (l2.length-1)).filter fun k=>((l2.getD k 0:Nat):Int)==(z:Int))⟩ (GW w c r sz l2 x5 x8'):=by
  refine Di rm (List.range (l2.length-1)) (fun k=>((l2.getD k 0:Nat):Int)==(z:Int)) (fun k=>⟨.leaf,rm k⟩) (st:=true) (ph (s:=.leaf) (by omega) (aq (aE (bD (aq (cz rfl) ah) Iy) aO ?_) ah)) (by simp) rfl (by simp;omega) (fun k hk=>?_) fun k hk _=>⟨aw rfl,rfl⟩
  ·have:1<=l2.length:=by
    cases l2 with
    | nil=>simp at hz
    | cons a b=>simp
   rw [KC.sub_int',length_map,show ((l2.length:Int)-1)=((l2.length-1:Nat):Int) by omega]
  ·have hk:=List.mem_range.mp hk
   exact fG (s:=.leaf) (aE (Eh (cz rfl) (s:=.leaf) (aw rfl) (by omega)) (DQ (cz rfl) Ab hz) eq_int)
 generalize hP:((List.range (l2.length-1)).filter fun k=>((l2.getD k 0:Nat):Int)==(z:Int))=P at pl
 have memP:∀k,k∈P↔k<l2.length-1/\l2.getD k 0=z:=fun k=>by
  rw [<-hP,List.mem_filter,mem_range];simp
  omega
 have posP:1<=P.length:=by
  obtain ⟨k,hk,ek⟩:=getElem_of_mem ht2;rw [length_dropLast] at hk;have:k∈P:=(memP k).mpr ⟨hk,by rw [List.getElem_dropLast] at ek;rw [LU,LR (by omega),ek];rfl⟩
  cases P with
  | nil=>simp at this
  | cons a b=>simp
 obtain ⟨j,hj,ej⟩:=ES (c:=c) (k:=59) (by omega) (by omega) (b:=24) (by omega) (by omega) posP
 have atM:P.getD j 0∈P:=by
  rw [LU,LR hj];exact getElem_mem _
 obtain ⟨ha1,ha2⟩:=(memP _).mp atM;generalize hA:P.getD j 0=A at ha1 ha2
 have z1:l2.dropLast++[z]=l2:=by
  cases l2 with
  | nil=>simp at hz
  | cons a b=>
   rw [List.getLast?_eq_some_getLast (by simp)] at hz
   rw [<-Option.some.inj hz];exact List.dropLast_concat_getLast _
 have app:l2.take A++l2.dropLast.drop A=l2.dropLast:=by
  have:l2.take A=l2.dropLast.take A:=by
   rw [List.dropLast_eq_take,List.take_take,Nat.min_eq_left (by omega)]
  rw [this,List.take_append_drop]
 have tk:(l2.dropLast.drop A).take 1=[z]:=by
  have hA2:A<l2.dropLast.length:=by rw [length_dropLast];exact ha1
  rw [drop_eq_getElem_cons hA2,List.getElem_dropLast];rw [LU,LR (by omega)] at ha2
  exact congrArg (fun x=>[x]) ha2
 refine ⟨l2.take A,l2.dropLast.drop A,?_,⟨?_,?_,?_,?_⟩,?_,?_⟩
 ·refine aM ?_
  have z0:aA true 4 (aW .leaf (ab (ae 2) af)) (aI 9 [w.enc,.int c,rm r,.int (sz:Int)])=.nx (GW w c r sz [r] none none):=Ac (rG (aq (aw rfl) ah) rfl rfl rfl) rfl (by simp [aI])
  refine ay z0 ?_
  refine ay (Γ1:=GW w c r sz l x5 x8) ?_ ?_
  ·exact wA ok hs e1
  refine ay (Γ1:=GW w c r sz l2 x5 x8') ?_ ?_
  ·unfold pw
   exact e2
  refine ay (Γ1:=[L5 w.enc,L5 (.int c),L5 (rm r),L5 (.int (sz:Int)),some ⟨.lst .leaf,ao l2⟩,x5,L5 (ao P),none,x8']) (cD pl rfl (by simp)) ?_
  refine ay (Γ1:=[L5 w.enc,L5 (.int c),L5 (rm r),L5 (.int (sz:Int)),some ⟨.lst .leaf,ao l2⟩,x5,L5 (ao P),L5 (rm A),x8']) ?_ ?_
  ·rw [<-hA]
   refine cD (p:=⟨.leaf,rm (P.getD j 0)⟩) (ir (aw rfl) (s:=.leaf) (k:=j) (aE (bq (aq (aw rfl) (aq aO (aq aO ah))) (wb (by omega) (by omega) (by omega) (by omega)) rfl rfl) (bD (aq (aw rfl) ah) Iy) ?_) hj) rfl (by simp)
   simp only [length_map]
   rw [cK (by omega),show cM c 59 24 % (P.length:Int)=(j:Int) from ej]
  ·have q1:=eo (g:=fun k=>(none,some k)) (Γ:=[L5 w.enc,L5 (.int c),L5 (rm r),L5 (.int (sz:Int)),some ⟨.lst .leaf,ao l2⟩,x5,L5 (ao P),L5 (rm A),x8']) (fa:=ae 4) (fb:=ae 7) (k:=(A:Int)) (cz rfl) (aw rfl) Ad
   have q2:=eo (g:=fun k=>(some k,some (-1))) (Γ:=[L5 w.enc,L5 (.int c),L5 (rm r),L5 (.int (sz:Int)),some ⟨.lst .leaf,ao l2⟩,x5,L5 (ao P),L5 (rm A),x8']) (fa:=ae 4) (fb:=ae 7) (k:=(A:Int)) (cz rfl) (aw rfl) Ad
   simp only at q1 q2
   rw [sL] at q1;rw [AO (by omega)] at q2
   exact aS (bw (aq q1 (aq q2 ah)) rfl rfl) rfl
 ·intro e
  rw [e] at tk;simp at tk
 ·rw [app]
  exact fun x hx=>g2.lt x (List.dropLast_subset _ hx)
 ·rw [app,tk,z1]
  exact g2.ch
 ·simp only [length_take,length_drop,length_dropLast]
  omega
 ·rw [app]
  have:=g2.hd
  rw [<-z1] at this
  cases e:l2.dropLast with
  | nil=>rw [e] at ht2;simp at ht2
  | cons a b=>rw [e] at this;simpa using this
 ·simp only [length_take,length_drop,length_dropLast]
  omega
end KQ
namespace KC
open PySem PySem.Spec L2 T
open PyProof.Rows hiding St
def D3:L4:=.tuple [.str "some next",.str "some until",.str "some always"]
def IF:L4:=.tuple [.str "all next",.str "all until",.str "all always"]
def lp:FS:=(b7 (du (aP bu (ag 2 Gy (ab (ae 0) (ab (ae 1) af))))) Ez aQ)
def GI:List L4->Res:=aB 2 lp
def qW:FS:=(ak (aA false 2 (ba aV (ab (ai (ae 0) (eK (.int 0))) af)))
  (aF (rF (aP av (az iN (ae 1) (ae 2))) (ai (ai (ae 0) (eK (.int 0))) (ae 1)) (ai (ai (ae 0) (eK (.int 1))) (az b8 (az gSub (ae 1) (ae 2)) (ba aV (ab (ai (ae 0) (eK (.int 1))) af)))))))
def Je:List L4->Res:=aB 3 qW
def jw:FS:=(ak (bS (ag 1 JE (ab (ae 0) af)))
  (b7 (d9 (aP av (az (bh true) (ai (ae 0) (eK (.int 0))) (eK D3))) (aP av (az (bh true) (ai (ae 0) (eK (.int 0))) (eK IF)))) Ez aQ))
def Jy:List L4->Res:=aB 1 jw
def m8:FS:=(ak (cJ 3 (aN (ae 0))
  (ak (b7 (aP av (az (bh false) (ae 3) (ae 2))) (aF (eK (.bool true))) aQ)
  (b7 (aP av (az (bh true) (ae 3) (ae 1))) (aF (eK (.bool false))) aQ)))
  (aF (eK (.bool false))))
def Jv:List L4->Res:=aB 4 m8
def hX:FS:=(ak (aA false 3 (g5 (ai (ae 0) (eK (.int 0))) (ai (ae 0) (eK (.int 1)))))
  (ak (b7 (aP av (az (bh false) (ae 1) (eK vQ))) (aF (ag 3 Jv (ab (ae 3) (ab (ai (ae 2) (eK (.int 0))) (ab (ai (ae 2) (eK (.int 1))) af))))) aQ)
  (ak (b7 (aP av (az (bh false) (ae 1) (eK zh))) (aF (ba (bK false) (ab (ax .leaf 4 (aN (ae 3)) aC (az (bh false) (ae 4) (ai (ae 2) (eK (.int 0))))) af))) aQ)
  (aF (az (bh false) (ag 2 Je (ab (ae 0) (ab (eK (.int 1)) af))) (ai (ae 2) (eK (.int 0))))))))
def JB:List L4->Res:=aB 5 hX
def kZ:FS:=(ak (bS (ag 1 Aq (ab (ae 0) af)))
  (ak (bS (ag 1 Jy (ab (ae 1) af)))
  (ak (bS (ag 2 GI (ab (ae 0) (ab (ae 2) af))))
  (ak (aA false 3 (ax .leaf 4 (cZ (ag 1 lV (ab (ae 1) af))) aC (ag 2 DW (ab (ae 0) (ab (ae 4) af)))))
  (aF (az bE (ag 3 JB (ab (ae 2) (ab (ai (ae 1) (eK (.int 0))) (ab (ae 3) af)))) (az (bh false) (ai (ae 1) (eK (.int 0))) (eK D3))))))))
def D8:List L4->Res:=aB 5 kZ
open PySem.SeqAt
def Wr.ofS (a:Wr):Bool:=decide (a=.sn\/a=.su\/a=.sa)
def Wr.ofA (a:Wr):Bool:=decide (a=.an\/a=.au\/a=.aa)
@[simp] theorem Cu (a:Wr):bh false (.str a.t) D3=some (.bool a.ofS):=by cases a<;>kernel_rfl
@[simp] theorem xT (a:Wr):bh true (.str a.t) D3=some (.bool (!a.ofS)):=by cases a<;>kernel_rfl
@[simp] theorem xU (a:Wr):bh true (.str a.t) IF=some (.bool (!a.ofA)):=by cases a<;>kernel_rfl
def Sn.tm (s:Sn):Bool:=s.w.ofS||s.w.ofA
theorem wF {s:Sn} {Γ:Ev} {i:Nat} (h:Γ[i]?=some (L5 s.enc)):ai (ae i) (eK (.int 0)) Γ=.ok ⟨.leaf,.str s.w.t⟩ Γ:=by
 rw [bT,aw h]
 cases s<;>simp [Sn.enc,Sn.w,aO,Out.bind]
theorem dg {w:Wd} (ok:w.Ok) {F R:List Nat} (h:cv w F R):GI [w.enc,wy F R]=.ok ⟨.leaf,.none⟩:=by
 refine oF (Γ:=aI 2 [w.enc,wy F R]) ?_
 exact bF (t:=false) (lN (b:=true) (gC (s:=.leaf) (bq (aq (aw rfl) (aq (aw rfl) ah)) (eT ok h) rfl rfl))) nofun fun _=>rfl
theorem gx {s:Sn} (h:s.ok) (hs:s.size<=200) (hd:s.dep<=24) (ht:s.tm=true):Jy [s.enc]=.ok ⟨.leaf,.none⟩:=by
 refine oF (Γ:=aI 1 [s.enc]) ?_
 refine ay (za (bq (aq (aw rfl) ah) (dt h hs hd) rfl rfl)) ?_
 refine bF (t:=!s.w.ofS&&!s.w.ofA) (zR (fG (s:=.leaf) (aE (wF rfl) aO (xT _))) (fG (s:=.leaf) (aE (wF rfl) aO (xU _)))) (fun z=>?_) fun _=>rfl
 exfalso
 unfold Sn.tm at ht;revert z ht
 cases s.w.ofS<;>cases s.w.ofA<;>simp
abbrev iu:FS:=(ak (b7 (aP av (az (bh false) (ae 3) (ae 2))) (aF (eK (.bool true))) aQ)
  (b7 (aP av (az (bh true) (ae 3) (ae 1))) (aF (eK (.bool false))) aQ))
theorem jS {A0 P Q:List Nat}:∀(A:List Nat) (x:Option PV),(∃y,bp 3 iu (A.map rm) [L5 (ao A0),L5 (ao P),L5 (ao Q),x]=.nx [L5 (ao A0),L5 (ao P),L5 (ao Q),y]/\lW (fun t=>P.contains t) (fun t=>Q.contains t) A=false) \/
  bp 3 iu (A.map rm) [L5 (ao A0),L5 (ao P),L5 (ao Q),x]=.rt ⟨.leaf,.bool (lW (fun t=>P.contains t) (fun t=>Q.contains t) A)⟩
 | [],x=>.inl ⟨x,rfl,rfl⟩
 | a::A,x=>by
  have e1:aP av (az (bh false) (ae 3) (ae 2)) [L5 (ao A0),L5 (ao P),L5 (ao Q),L5 (rm a)]=.ok (Q.contains a) [L5 (ao A0),L5 (ao P),L5 (ao Q),L5 (rm a)]:=fG (s:=.leaf) (aE (aw rfl) (aw rfl) Dd)
  have e2:aP av (az (bh true) (ae 3) (ae 1)) [L5 (ao A0),L5 (ao P),L5 (ao Q),L5 (rm a)]=.ok (!P.contains a) [L5 (ao A0),L5 (ao P),L5 (ao Q),L5 (rm a)]:=fG (s:=.leaf) (aE (aw rfl) (aw rfl) Jn)
  have go:∀o,iu [some ⟨.leaf,ao A0⟩,some ⟨.leaf,ao P⟩,some ⟨.leaf,ao Q⟩,some ⟨.leaf,rm a⟩]=o->bp 3 iu ((a::A).map rm) [some ⟨.leaf,ao A0⟩,some ⟨.leaf,ao P⟩,some ⟨.leaf,ao Q⟩,x]=(match o with | .nx Γ1=>bp 3 iu (A.map rm) Γ1 | .ct Γ1=>bp 3 iu (A.map rm) Γ1 | .bk Γ1=>.nx Γ1 | .rt p=>.rt p | .er a b=>.er a b | .no=>.no):=fun o ho=>by
   rw [map_cons,bp,if_pos (by simp)]
   have:[some (⟨.leaf,ao A0⟩:PV),L5 (ao P),L5 (ao Q),x].set 3 (L5 (rm a))=[L5 (ao A0),L5 (ao P),L5 (ao Q),L5 (rm a)]:=rfl
   rw [this,ho];all_goals (cases o<;>rfl)
  cases hq:Q.contains a with
  | true=>
   right
   rw [hq] at e1;rw [go (.rt ⟨.leaf,.bool true⟩) (vZ (bF e1 (fun _=>rfl) nofun))]
   simp only [lW,hq,Bool.true_or]
  | false=>
   rw [hq] at e1
   cases hp:P.contains a with
   | false=>
    right
    rw [hp] at e2;rw [go (.rt ⟨.leaf,.bool false⟩) (ay (bF e1 nofun fun _=>rfl) (bF e2 (fun _=>rfl) nofun))]
    simp only [lW,hq,hp,Bool.false_or,Bool.false_and]
   | true=>
    rw [hp] at e2;have g:=go (.nx [L5 (ao A0),L5 (ao P),L5 (ao Q),L5 (rm a)]) (ay (bF e1 nofun fun _=>rfl) (bF e2 nofun fun _=>rfl))
    rw [g];have u:lW (fun t=>P.contains t) (fun t=>Q.contains t) (a::A)=lW (fun t=>P.contains t) (fun t=>Q.contains t) A:=by simp only [lW,hq,hp,Bool.false_or,Bool.true_and]
    rw [u];exact jS A _
theorem jt {A P Q:List Nat}:Jv [ao A,ao P,ao Q]=.ok ⟨.leaf,.bool (lW (fun t=>P.contains t) (fun t=>Q.contains t) A)⟩:=by
 refine aM ?_
 rcases jS (A0:=A) (P:=P) (Q:=Q) A none with ⟨y,e,u⟩ | e
 ·rw [u]
  exact ay (eh (bB (s:=.leaf) (aw rfl) rfl) e) rfl
 ·exact vZ (eh (bB (s:=.leaf) (aw rfl) rfl) e)
def Dz (F R:List Nat):Nat:=if 1<F.length then F.getD 1 0 else R.getD ((1-F.length) % R.length) 0
theorem qP {F R:List Nat} (h:R≠[]):Je [wy F R,.int 1]=.ok ⟨.leaf,rm (Dz F R)⟩:=by
 have hp:0<R.length:=by
  cases R with
  | nil=>exact absurd rfl h
  | cons a b=>simp
 have i0:ai (ae 0) (eK (.int 0)) (aI 3 [wy F R,.int 1])=.ok ⟨.leaf,ao F⟩ (aI 3 [wy F R,.int 1]):=by simp [aI]
 have j0:ai (ae 0) (eK (.int 0)) [L5 (wy F R),L5 (.int 1),L5 (.int (F.length:Int))]=.ok ⟨.leaf,ao F⟩ [L5 (wy F R),L5 (.int 1),L5 (.int (F.length:Int))]:=by simp
 have j1:ai (ae 0) (eK (.int 1)) [L5 (wy F R),L5 (.int 1),L5 (.int (F.length:Int))]=.ok ⟨.leaf,ao R⟩ [L5 (wy F R),L5 (.int 1),L5 (.int (F.length:Int))]:=by simp
 refine aM ?_
 refine ay (Γ1:=[L5 (wy F R),L5 (.int 1),L5 (.int (F.length:Int))]) (cD (bD (d:=.int (F.length:Int)) (aq i0 ah) (by simp)) rfl (by simp [aI])) ?_
 have c:aP av (az iN (ae 1) (ae 2)) [L5 (wy F R),L5 (.int 1),L5 (.int (F.length:Int))]=.ok (decide ((1:Int)<(F.length:Int))) [L5 (wy F R),L5 (.int 1),L5 (.int (F.length:Int))]:=fG (s:=.leaf) (aE (aw rfl) (aw rfl) KC.lt_int)
 refine aS (p:=⟨.leaf,rm (Dz F R)⟩) (Γ1:=[L5 (wy F R),L5 (.int 1),L5 (.int (F.length:Int))]) ?_ rfl
 unfold rF;rw [c];by_cases hl:1<F.length
 ·rw [decide_eq_true (by omega)]
  simp only [Out.bind,if_true]
  rw [ir (k:=1) (s:=.leaf) j0 (aw rfl) hl];unfold Dz;rw [if_pos hl]
 ·rw [decide_eq_false (by omega)]
  simp only [Out.bind,Bool.false_eq_true,if_false]
  have m:b8 (.int (1-(F.length:Int))) (.int (R.length:Int))=some (.int (((1-F.length) % R.length:Nat):Int)):=by
   rw [cK (by omega),show (1-(F.length:Int))=((1-F.length:Nat):Int) by omega]
   rfl
  rw [ir (k:=(1-F.length) % R.length) (s:=.leaf) j1 (aE (aE (aw rfl) (aw rfl) KC.sub_int') (bD (d:=.int (R.length:Int)) (aq j1 ah) (by simp)) m) (Nat.mod_lt _ hp)]
  unfold Dz;rw [if_neg hl]
noncomputable def rn (w:Wd) (s:Sn) (F R:List Nat):Bool:=match s with
 | .bi _ a b=>lW (fun t=>(aY w a).contains t) (fun t=>(aY w b).contains t) (F++R)
 | .un .sa a=>(F++R).all fun t=>(aY w a).contains t
 | .un .aa a=>(F++R).all fun t=>(aY w a).contains t
 | .un _ a=>(aY w a).contains (Dz F R)
 | _=>false
theorem qU {w:Wd} {s:Sn} (ht:s.tm=true) {F R:List Nat} (h:R≠[]) (hl:F.length+R.length<=1000):JB [wy F R,.str s.w.t,bM (s.args.map (aY w))]=.ok ⟨.leaf,.bool (rn w s F R)⟩:=by
 have i0:ai (ae 0) (eK (.int 0)) (aI 5 [wy F R,.str s.w.t,bM (s.args.map (aY w))])=.ok ⟨.leaf,ao F⟩ (aI 5 [wy F R,.str s.w.t,bM (s.args.map (aY w))]):=by simp [aI]
 have i1:ai (ae 0) (eK (.int 1)) (aI 5 [wy F R,.str s.w.t,bM (s.args.map (aY w))])=.ok ⟨.leaf,ao R⟩ (aI 5 [wy F R,.str s.w.t,bM (s.args.map (aY w))]):=by simp [aI]
 have ca:=nN i0 i1 rfl rfl (by simp;omega)
 rw [<-map_append] at ca;have hr:=qP (F:=F) h
 refine aM ?_
 refine ay (Γ1:=[L5 (wy F R),L5 (.str s.w.t),L5 (bM (s.args.map (aY w))),L5 (ao (F++R)),none]) (cD ca rfl (by simp [aI])) ?_
 have t1:aP av (az (bh false) (ae 1) (eK vQ)) [L5 (wy F R),L5 (.str s.w.t),L5 (bM (s.args.map (aY w))),L5 (ao (F++R)),none]=.ok (decide (s.w=.su\/s.w=.au)) [L5 (wy F R),L5 (.str s.w.t),L5 (bM (s.args.map (aY w))),L5 (ao (F++R)),none]:=fG (s:=.leaf) (aE (aw rfl) aO (uP _))
 have t2:aP av (az (bh false) (ae 1) (eK zh)) [L5 (wy F R),L5 (.str s.w.t),L5 (bM (s.args.map (aY w))),L5 (ao (F++R)),none]=.ok (decide (s.w=.sa\/s.w=.aa)) [L5 (wy F R),L5 (.str s.w.t),L5 (bM (s.args.map (aY w))),L5 (ao (F++R)),none]:=fG (s:=.leaf) (aE (aw rfl) aO (Cw _))
 have un:∀(a:Sn) (u:U5),s=.un u a->∀Γ:Ev,Γ[2]?=some (L5 (bM (s.args.map (aY w))))->ai (ae 2) (eK (.int 0)) Γ=.ok ⟨.leaf,ao (aY w a)⟩ Γ:=fun a u e Γ h2=>by
  rw [bT,aw h2,e];simp [aO,Out.bind,Sn.args]
 cases s with
 | yes=>simp [Sn.tm,Sn.w,Wr.ofS,Wr.ofA] at ht
 | mk c=>simp [Sn.tm,Sn.w,Wr.ofS,Wr.ofA] at ht
 | bi k a b=>
  have hk:k.w=.su\/k.w=.au:=by
   cases k with
   | and=>simp [Sn.tm,Sn.w,B4.w,Wr.ofS,Wr.ofA] at ht
   | or=>simp [Sn.tm,Sn.w,B4.w,Wr.ofS,Wr.ofA] at ht
   | su=>exact .inl rfl
   | au=>exact .inr rfl
  have e0:ai (ae 2) (eK (.int 0)) [L5 (wy F R),L5 (.str (Sn.bi k a b).w.t),L5 (bM ((Sn.bi k a b).args.map (aY w))),L5 (ao (F++R)),none]=.ok ⟨.leaf,ao (aY w a)⟩ [L5 (wy F R),L5 (.str (Sn.bi k a b).w.t),L5 (bM ((Sn.bi k a b).args.map (aY w))),L5 (ao (F++R)),none]:=by simp [Sn.args]
  have e1:ai (ae 2) (eK (.int 1)) [L5 (wy F R),L5 (.str (Sn.bi k a b).w.t),L5 (bM ((Sn.bi k a b).args.map (aY w))),L5 (ao (F++R)),none]=.ok ⟨.leaf,ao (aY w b)⟩ [L5 (wy F R),L5 (.str (Sn.bi k a b).w.t),L5 (bM ((Sn.bi k a b).args.map (aY w))),L5 (ao (F++R)),none]:=by simp [Sn.args]
  refine vZ (bF t1 (fun _=>aS (bq (aq (aw rfl) (aq e0 (aq e1 ah))) jt rfl rfl) rfl) fun z=>?_)
  exact absurd z (by rw [decide_eq_true (show (Sn.bi k a b).w=.su\/(Sn.bi k a b).w=.au from hk)];simp)
 | un k a=>
  have hn:¬((Sn.un k a).w=.su\/(Sn.un k a).w=.au):=by cases k<;>simp [Sn.w,U5.w]
  rw [decide_eq_false hn] at t1;refine ay (bF t1 nofun fun _=>rfl) ?_
  by_cases hk:k=.sa\/k=.aa
  ·have ha:(Sn.un k a).w=.sa\/(Sn.un k a).w=.aa:=by rcases hk with rfl | rfl<;>simp [Sn.w,U5.w]
   rw [decide_eq_true ha] at t2;have cm:ax .leaf 4 (aN (ae 3)) aC (az (bh false) (ae 4) (ai (ae 2) (eK (.int 0)))) [L5 (wy F R),L5 (.str (Sn.un k a).w.t),L5 (bM ((Sn.un k a).args.map (aY w))),L5 (ao (F++R)),none]=.ok ⟨.lst .leaf,.list ((F++R).map fun t=>.bool ((aY w a).contains t))⟩ [L5 (wy F R),L5 (.str (Sn.un k a).w.t),L5 (bM ((Sn.un k a).args.map (aY w))),L5 (ao (F++R)),none]:=
    i5 rm (F++R) (fun t=>⟨.leaf,.bool ((aY w a).contains t)⟩) (st:=true) (bB (s:=.leaf) (aw rfl) rfl) (by simp) rfl (by simp;omega) fun t ht=>⟨aE (aw rfl) (un a k rfl _ rfl) Dd,rfl⟩
   refine vZ (bF t2 (fun _=>aS (bD (aq cm ah) wc) rfl) nofun) |>.trans ?_
   rcases hk with rfl | rfl<;>rfl
  ·have ha:¬((Sn.un k a).w=.sa\/(Sn.un k a).w=.aa):=by cases k<;>simp_all [Sn.w,U5.w]
   rw [decide_eq_false ha] at t2;refine ay (bF t2 nofun fun _=>rfl) ?_
   refine (aS (aE (bq (aq (aw rfl) (aq aO ah)) hr rfl rfl) (un a k rfl _ rfl) Dd) rfl).trans ?_
   cases k with
   | sa=>exact absurd (.inl rfl) hk
   | aa=>exact absurd (.inr rfl) hk
   | _=>rfl
theorem mF {w:Wd} (ok:w.Ok) {s:Sn} (hs:s.ok) (hd:s.dep<=24) {Γ:Ev} {j:Nat} (h0:Γ[0]?=some (L5 w.enc)) (h1:Γ[1]?=some (L5 s.enc)) (hj:j<Γ.length) (hj1:2<=j):ax .leaf j (cZ (ag 1 lV (ab (ae 1) af))) aC (ag 2 DW (ab (ae 0) (ab (ae j) af))) Γ=.ok ⟨.lst .leaf,bM (s.args.map (aY w))⟩ Γ:=by
 have pa:=IY s
 have e:=i5 (s:=.leaf) (i:=j) (fi:=cZ (ag 1 lV (ab (ae 1) af))) (fe:=ag 2 DW (ab (ae 0) (ab (ae j) af))) (Γ:=Γ) Sn.enc s.args (fun a=>⟨.lst .leaf,ao (aY w a)⟩) (st:=true) (by
  have q:ag 1 lV (ab (ae 1) af) Γ=.ok ⟨s.psh,.tuple (s.args.map Sn.enc)⟩ Γ:=bq (aq (aw h1) ah) pa rfl rfl
  rw [Bt,q];simp [Out.bind,bH]) hj rfl (by have:=s.args_le;omega) fun a ha=>⟨by
   have g0:(Γ.set j (L5 a.enc))[0]?=some (L5 w.enc):=by rw [getElem?_set_ne (by omega)];exact h0
   have c3:DW [w.enc,a.enc]=_:=gu ok 30 a (Sn.args_ok hs a ha) (by have:=yz ha;omega)
   exact bq (aq (aw g0) (aq (aw (getElem?_set_self hj)) ah)) c3 rfl rfl,rfl⟩
 rw [e];simp [map_map,Function.comp_def]
theorem IZ {w:Wd} (ok:w.Ok) {s:Sn} (hs:s.ok) (h1:s.size<=200) (hd:s.dep<=24) (ht:s.tm=true) {F R:List Nat} (h:cv w F R):D8 [w.enc,s.enc,wy F R]=.ok ⟨.leaf,.bool (rn w s F R==s.w.ofS)⟩:=by
 refine aM ?_
 refine ay (za (bq (aq (aw rfl) ah) ok.check rfl rfl)) ?_
 refine ay (za (bq (aq (aw rfl) ah) (gx hs h1 hd ht) rfl rfl)) ?_
 refine ay (za (bq (aq (aw rfl) (aq (aw rfl) ah)) (dg ok h) rfl rfl)) ?_
 refine ay (Γ1:=[L5 w.enc,L5 s.enc,L5 (wy F R),L5 (bM (s.args.map (aY w))),none]) (cD (mF ok hs hd rfl rfl (by simp [aI]) (by omega)) rfl (by simp [aI])) ?_
 refine aS (aE (bq (aq (aw rfl) (aq (wF rfl) (aq (aw rfl) ah))) (qU ht h.ne h.len) rfl rfl) (aE (wF rfl) aO (Cu _)) ?_) rfl
 cases rn w s F R<;>cases s.w.ofS<;>kernel_rfl
end KC
namespace KC
open PySem PySem.Spec L2 T PySem.SeqAt
open PyProof.Rows hiding St
def KO (ch:List (Option Nat)):List Nat->Prop
 | a::b::r=>bj ch a=some b/\KO ch (b::r)
 | _=>True
structure Lv (n:Nat) (ch:List (Option Nat)) (r:Nat) (F R:List Nat):Prop where
 ne:R≠[]
 lt:∀x∈F++R,x<n
 nd:(F++R).Nodup
 hd:(F++R).head?=some r
 fc:KO ch (F++R++R.take 1)
structure AI (n:Nat) (ch:List (Option Nat)) (r:Nat) (b:List Nat×Option Nat):Prop where
 nd:b.1.Nodup
 lt:∀x∈b.1,x<n
 hl:∀t,b.2=some t->t<n
 fc:KO ch b.1
 st:(b.1=[]/\b.2=some r)\/(b.1.head?=some r/\∃z,b.1.getLast?=some z/\b.2=bj ch z)
end KC
namespace KC
def bR (F R:List Nat) (k:Nat):Nat:=if k<F.length then F.getD k 0 else R.getD ((k-F.length) % R.length) 0
structure FD (F R:List Nat):Prop where
 ne:R≠[]
 pr:∀s,1<=s->s<R.length->R.length % s=0->¬∀i,i+s<R.length->R.getD (i+s) 0=R.getD i 0
 la:F≠[]->F.getD (F.length-1) 0≠R.getD (R.length-1) 0
theorem oy {F R:List Nat} {k:Nat} (h:F.length<=k):bR F R (k+R.length)=bR F R k:=by
 unfold bR;rw [if_neg (by omega),if_neg (by omega),show k+R.length-F.length=(k-F.length)+R.length by omega,Nat.add_mod_right]
def yV (R:List Nat) (s:Nat):Prop:=∀i,i+s<R.length->R.getD (i+s) 0=R.getD i 0
structure DF (R:List Nat):Prop where
 ne:R≠[]
 pr:∀s,1<=s->s<R.length->R.length % s=0->¬yV R s
theorem Ic {R:List Nat} {s:Nat} (hs:0<s) (h:yV R s):∀i,i<R.length->R.getD i 0=R.getD (i % s) 0:=by
 intro i;induction i using Nat.strongRecOn with
 | ind i ih=>
  intro hi;by_cases c:i<s
  ·rw [Nat.mod_eq_of_lt c]
  ·have a:=h (i-s) (by omega)
   rw [show i-s+s=i by omega] at a
   rw [a,ih (i-s) (by omega) (by omega),<-Nat.mod_eq_sub_mod (by omega)]
theorem Ih {F R:List Nat} {s k:Nat} (hs:0<s) (hR:0<R.length) (hd:R.length % s=0) (h:yV R s) (hk:F.length<=k):bR F R k=R.getD ((k-F.length) % s) 0:=by
 unfold bR;rw [if_neg (by omega),Ic hs h _ (Nat.mod_lt _ hR),Nat.mod_mod_of_dvd _ (Nat.dvd_of_mod_eq_zero hd)]
theorem sq {F R:List Nat} {s:Nat} (hs:0<s) (hR:0<R.length) (hd:R.length % s=0) (h:yV R s):∀k,F.length<=k->bR F R (k+s)=bR F R k:=fun k hk=>by
 rw [Ih hs hR hd h (by omega),Ih hs hR hd h hk,show k+s-F.length=k-F.length+s by omega,Nat.add_mod_right]
theorem xD {F R:List Nat} (h:DF R) {m g:Nat} (hg:0<g) (hd:R.length % g=0) (hp:∀k,m<=k->bR F R (k+g)=bR F R k):g=R.length:=by
 have hR:0<R.length:=List.length_pos_iff.mpr h.ne
 have hle:g<=R.length:=Nat.le_of_dvd hR (Nat.dvd_of_mod_eq_zero hd)
 by_cases c:g<R.length
 ·exfalso
  refine h.pr g hg c hd fun i hi=>?_
  have key:=hp (F.length+i+m*R.length) (by
   have:m<=m*R.length:=Nat.le_mul_of_pos_right m hR
   omega)
  have pl:∀j,j<R.length->bR F R (F.length+j+m*R.length)=R.getD j 0:=fun j hj=>by
   unfold bR;rw [if_neg (by omega),show F.length+j+m*R.length-F.length=j+m*R.length by omega,Nat.add_mul_mod_self_right,Nat.mod_eq_of_lt hj]
  rw [show F.length+i+m*R.length+g=F.length+(i+g)+m*R.length by omega,pl _ hi,pl i (by omega)] at key
  exact key
 ·omega
theorem Jb {R:List Nat} {s i:Nat} (h:i<s):(R.take s).getD i 0=R.getD i 0:=by
 rw [LU,LU,getElem?_take,if_pos h]
theorem Kj {F R:List Nat} {s:Nat} (hs:1<=s) (hR:R≠[]) (hd:R.length % s=0) (h:yV R s) (least:∀t,1<=t->t<s->R.length % t=0->¬yV R t):DF (R.take s)/\∀k,bR F (R.take s) k=bR F R k:=by
 have hl:0<R.length:=List.length_pos_iff.mpr hR
 have hle:s<=R.length:=Nat.le_of_dvd hl (Nat.dvd_of_mod_eq_zero hd)
 have lt:(R.take s).length=s:=by rw [length_take];omega
 refine ⟨⟨fun z=>by rw [z] at lt;simp at lt;omega,fun t h1 h2 h3 h4=>?_⟩,fun k=>?_⟩
 ·rw [lt] at h2 h3
  have dv:R.length % t=0:=Nat.mod_eq_zero_of_dvd (Nat.dvd_trans (Nat.dvd_of_mod_eq_zero h3) (Nat.dvd_of_mod_eq_zero hd))
  refine least t h1 h2 dv fun i hi=>?_
  have key:∀j,j<R.length->R.getD j 0=R.getD (j % t) 0:=fun j hj=>by
   have a:=Ic (by omega) h j hj
   have b:=Ic (R:=R.take s) (by omega) h4 (j % s) (by rw [lt];exact Nat.mod_lt _ (by omega))
   rw [Jb (Nat.mod_lt _ (by omega)),Nat.mod_mod_of_dvd _ (Nat.dvd_of_mod_eq_zero h3),Jb (Nat.lt_trans (Nat.mod_lt _ (by omega)) h2)] at b
   rw [a,b]
  rw [key (i+t) hi,key i (by omega),Nat.add_mod_right]
 ·by_cases c:k<F.length
  ·unfold bR
   rw [if_pos c,if_pos c]
  ·rw [Ih (by omega) hl hd h (by omega)]
   unfold bR;rw [if_neg c,lt,Jb (Nat.mod_lt _ (by omega))]
theorem turned {F R:List Nat} {x:Nat}:∀k,bR F (x::R) k=bR (F++[x]) (R++[x]) k:=fun k=>by
 unfold bR;rw [length_append,length_append,length_singleton,length_cons];by_cases c:k<F.length
 ·rw [if_pos c,if_pos (by omega),LU,LU,getElem?_append_left c]
 ·rw [if_neg c]
  by_cases d:k=F.length
  ·subst d
   rw [if_pos (by omega),Nat.sub_self,Nat.zero_mod,LU,LU,getElem?_append_right (by omega)]
   simp
  ·rw [if_neg (by omega)]
   have e:(k-F.length) % (R.length+1)=if (k-(F.length+1)) % (R.length+1)=R.length then 0 else (k-(F.length+1)) % (R.length+1)+1:=by
    rw [show k-F.length=k-(F.length+1)+1 by omega,Nat.add_mod]
    have:=Nat.mod_lt (k-(F.length+1)) (show 0<R.length+1 by omega)
    by_cases q:(k-(F.length+1)) % (R.length+1)=R.length
    ·rw [if_pos q,q]
     by_cases z:R.length=0
     ·rw [z]
     ·rw [Nat.mod_eq_of_lt (show 1<R.length+1 by omega),Nat.mod_self]
    ·rw [if_neg q,Nat.mod_eq_of_lt (show 1<R.length+1 by omega),Nat.mod_eq_of_lt (by omega)]
   have hlt:=Nat.mod_lt (k-(F.length+1)) (show 0<R.length+1 by omega)
   rw [e];by_cases q:(k-(F.length+1)) % (R.length+1)=R.length
   ·rw [if_pos q,q,LU,LU,getElem?_append_right (L3 _),Nat.sub_self]
    rfl
   ·rw [if_neg q,LU,LU,List.getElem?_cons_succ,getElem?_append_left (by omega)]
theorem lZ {F R:List Nat} {x:Nat} (h:DF (R++[x])):DF (x::R):=by
 refine ⟨by simp,fun s h1 h2 h3 h4=>?_⟩
 simp only [length_cons] at h2 h3
 have t:=sq (F:=F) (by omega) (by simp) (by simpa using h3) h4
 have:=xD (F:=F++[x]) h (m:=F.length) (g:=s) (by omega) (by simpa using h3) fun k hk=>by
  rw [<-turned,<-turned];exact t k hk
 simp at this
 omega
theorem wV {F R:List Nat} (h:DF R) (hl:F≠[]->F.getD (F.length-1) 0≠R.getD (R.length-1) 0):FD F R:=⟨h.ne,h.pr,hl⟩
open PySem PySem.Spec L2 T PySem.SeqAt
open PyProof.Rows hiding St
theorem vq {w:Wd}:∀{l:List Nat},(∀k,k+1<l.length->l.getD (k+1) 0∈w.stp (l.getD k 0))->vG w l
 | [],_=>trivial
 | [a],_=>trivial
 | a::b::r,h=>⟨by simpa using h 0 (by simp),vq fun k hk=>by
  have:=h (k+1) (by simp at hk ⊢;omega)
  simpa using this⟩
theorem DM {F R:List Nat} (hR:0<R.length) {k:Nat} (hk:k<=F.length+R.length):(F++R++R.take 1).getD k 0=bR F R k:=by
 have l1:(R.take 1).length=1:=by rw [length_take];omega
 unfold bR;rw [LU];by_cases c:k<F.length
 ·rw [if_pos c,append_assoc,getElem?_append_left c,<-LU]
 ·rw [if_neg c]
  by_cases d:k<F.length+R.length
  ·rw [getElem?_append_left (by rw [length_append];exact d),getElem?_append_right (by omega),Nat.mod_eq_of_lt (by omega),<-LU]
  ·have:k=F.length+R.length:=by omega
   subst this;rw [getElem?_append_right (by rw [length_append];omega),length_append,Nat.sub_self,show F.length+R.length-F.length=R.length by omega,Nat.mod_self,getElem?_take,if_pos (by omega),<-LU]
theorem wx {w:Wd} {F R:List Nat} (h:cv w F R):∀k,bR F R (k+1)∈w.stp (bR F R k):=by
 have hR:0<R.length:=List.length_pos_iff.mpr h.ne
 have low:∀k,k<F.length+R.length->bR F R (k+1)∈w.stp (bR F R k):=fun k hk=>by
  have:=HU (k:=k) h.ch (by simp only [length_append,length_take];omega)
  rw [DM hR (by omega),DM hR (by omega)] at this
  exact this
 intro k;induction k using Nat.strongRecOn with
 | ind k ih=>
  by_cases c:k<F.length+R.length
  ·exact low k c
  ·have a:=oy (F:=F) (R:=R) (k:=k-R.length) (by omega)
   have b:=oy (F:=F) (R:=R) (k:=k+1-R.length) (by omega)
   rw [Nat.sub_add_cancel (by omega)] at a b
   rw [a,b,show k+1-R.length=k-R.length+1 by omega]
   exact ih (k-R.length) (by omega)
theorem AA {w:Wd} (ok:w.Ok) {F R:List Nat} (hR:R≠[]) (hl:F.length+R.length<=1000) (h:∀k,bR F R (k+1)∈w.stp (bR F R k)) (h0:bR F R 0<w.n):cv w F R:=by
 have hR':0<R.length:=List.length_pos_iff.mpr hR
 have lt:∀k,bR F R k<w.n:=fun k=>by
  cases k with
  | zero=>exact h0
  | succ k=>exact ok.stp_lt (h k)
 refine ⟨hR,fun x hx=>?_,vq fun k hk=>?_,hl⟩
 ·obtain ⟨k,hk,e⟩:=getElem_of_mem hx
  have:(F++R++R.take 1).getD k 0=x:=by
   rw [LU,getElem?_append_left hk,LR hk,e];rfl
  rw [<-this,DM hR' (by rw [length_append] at hk;omega)]
  exact lt k
 ·simp only [length_append,length_take] at hk
  rw [DM hR' (by omega),DM hR' (by omega)]
  exact h k
end KC
namespace KQ
open PySem PySem.Spec L2 T
open PyProof.Rows hiding St
open KC
def m9:FS:=(aF (d7 (az bE (az b8 (ba aV (ab (ae 0) af)) (ae 1)) (eK (.int 0))) (az bE (cg (fun k=>(some k,none)) (ae 0) (ae 1)) (cg (fun k=>(none,some k)) (ae 0) (eU bQ (ae 1))))))
def GL:List L4->Res:=aB 2 m9
def jv:FS:=(aF (cg (fun k=>(none,some k)) (ae 0) (ai (ax .leaf 1 (rE (ab (eK (.int 1)) (ab (az aJ (ba aV (ab (ae 0) af)) (eK (.int 1))) af))) (aP bu (ag 2 GL (ab (ae 0) (ab (ae 1) af)))) (ae 1)) (eK (.int 0)))))
def Jz:List L4->Res:=aB 2 jv
def yH:FS:=(ak (bS (ag 1 Aq (ab (ae 0) af)))
  (ak (bS (ag 2 GI (ab (ae 0) (ab (ae 1) af))))
  (ak (aA true 2 (zb (ai (ae 1) (eK (.int 0)))))
  (ak (aA true 3 (ag 1 Jz (ab (ai (ae 1) (eK (.int 1))) af)))
  (ak (pw 1000 (d9 (aP bu (ae 2)) (aP av (az bE (ai (ae 2) (eU bQ (eK (.int 1)))) (ai (ae 3) (eU bQ (eK (.int 1)))))))
  (eA true 2 3 (cg (fun k=>(none,some k)) (ae 3) (eU bQ (eK (.int 1))))))
  (aF (bg (ab (bx 2) (ab (bx 3) af)))))))))
def F9:List L4->Res:=aB 4 yH
open PySem.SeqAt
theorem oW:∀a b:List Nat,PyData.eqvAll (a.map rm) (b.map rm)=(a==b)
 | [],[]=>by simp [PyData.eqvAll]
 | [],y::b=>by simp [PyData.eqvAll]
 | x::a,[]=>by simp [PyData.eqvAll]
 | x::a,y::b=>by
  rw [map_cons,map_cons,PyData.eqvAll,oW a b,PyData.eqv];have:((x:Int)==(y:Int))=(x==y):=by
   rw [Bool.eq_iff_iff];simp only [beq_iff_eq]
   omega
  rw [this];rfl
theorem yv {a b:List Nat}:bE (ao a) (ao b)=some (.bool (a==b)):=by
 show (if shaped (ao a)&&shaped (ao b) then some (PyData.bool (PyData.eqv (.list (a.map rm)) (.list (b.map rm)))) else none)=_
 rw [Gf,Gf,Bool.and_self,if_pos rfl,PyData.eqv,oW]
theorem AN {l:List Nat} {k:Nat} (h:1<=k):T.cutD (l.map rm) none (some (-(k:Int)))=(l.take (l.length-k)).map rm:=by
 unfold T.cutD;rw [HT.sIx_none,List.drop_zero,Nat.sub_zero,map_take,length_map,Io h]
def jf (R:List Nat) (s:Nat):Bool:=decide (R.length % s=0)&&(R.drop s==R.take (R.length-s))
theorem Il {R:List Nat} {s:Nat} (hs:s<=R.length):jf R s=true↔R.length % s=0/\yV R s:=by
 unfold jf;rw [Bool.and_eq_true,decide_eq_true_eq,beq_iff_eq];refine and_congr_right fun _=>⟨fun h i hi=>?_,fun h=>ext_getElem (by simp) fun i h1 h2=>?_⟩
 ·have:=congrArg (fun l:List Nat=>l.getD i 0) h
  simp only [LU,List.getElem?_drop,getElem?_take] at this
  rw [if_pos (by omega),Nat.add_comm s i] at this
  rw [LU,LU];exact this
 ·simp only [length_drop] at h1
  have:=h i (by omega)
  rw [LU,LU,LR (by omega),LR (by omega)] at this
  simp only [List.getElem_drop,List.getElem_take]
  simp only [Option.getD_some] at this
  rw [<-this];congr 1
  omega
theorem qO {R:List Nat} {s:Nat} (h1:1<=s):GL [ao R,.int (s:Int)]=.ok ⟨.leaf,.bool (jf R s)⟩:=by
 have a:=aE (Γ:=aI 2 [ao R,.int (s:Int)]) (g:=b8) (fb:=ae 1) (bD (g:=aV) (fl:=ab (ae 0) af) (d:=.int (R.length:Int)) (aq (aw rfl) ah) (by simp)) (aw rfl) (cK (a:=(R.length:Int)) (b:=(s:Int)) (by omega))
 have b:=eo (Γ:=aI 2 [ao R,.int (s:Int)]) (g:=fun k=>(some k,none)) (fa:=ae 0) (fb:=ae 1) (xs:=R.map rm) (k:=(s:Int)) (s:=.leaf) (s':=.leaf) (aw rfl) (aw rfl) Ad
 have c:=eo (Γ:=aI 2 [ao R,.int (s:Int)]) (g:=fun k=>(none,some k)) (fa:=ae 0) (fb:=eU bQ (ae 1)) (xs:=R.map rm) (k:=-(s:Int)) (s:=.leaf) (s':=.leaf) (aw rfl) (KU (aw rfl) rfl) Ad
 simp only at b c
 rw [wU] at b;rw [AN h1] at c;have e:decide (R.length % s=0)=((R.length:Int) % (s:Int)==0):=by
  rw [Bool.eq_iff_iff];simp only [decide_eq_true_eq,beq_iff_eq]
  omega
 unfold jf;rw [e];exact aM (aS (v_and (s:=.leaf) (aE a aO KC.eq_int) (aE b c yv)) rfl)
theorem FE {n:Nat} {fl:FL} {Γ:Ev} {ps:List PV} (hn:n<=1000) (h:fl Γ=.ok ps Γ) (hp:ps.map (·.d)=[.int 1,.int ((n:Int)+1)]):rE fl Γ=.ok ⟨(List.range n).map (fun i=>rm (i+1)),true⟩ Γ:=by
 rw [AB (k:=1) (m:=(n:Int)+1) h hp (by omega) (by omega) (by omega) (by omega)]
 have:((n:Int)+1-1).toNat=n:=by omega
 rw [this];unfold bA;congr 2
 refine List.map_congr_left fun i _=>?_
 show PyData.int (1+(i:Int))=PyData.int ((i+1:Nat):Int)
 rw [Int.add_comm];rfl
theorem mS {n:Nat} {p:Nat->Bool} {i:Nat} {r:List Nat} (h:(List.range n).filter p=i::r):i<n/\p i=true/\∀j,j<i->p j=false:=by
 have m:i∈(List.range n).filter p:=by rw [h];simp
 obtain ⟨m1,m2⟩:=List.mem_filter.mp m;have m1:=List.mem_range.mp m1
 refine ⟨m1,m2,fun j hj=>?_⟩
 cases q:p j with
 | false=>rfl
 | true=>
  exfalso
  have mj:j∈(List.range n).filter p:=List.mem_filter.mpr ⟨List.mem_range.mpr (by omega),q⟩
  have so:((List.range n).filter p).Pairwise (· < ·):=List.Pairwise.filter _ List.pairwise_lt_range
  rw [h] at mj so
  rcases LQ mj with z | z
  ·omega
  ·have:=(List.pairwise_cons.mp so).1 j z
   omega
theorem vh {R:List Nat} (hR:R≠[]) (hl:R.length<=900):∃s,1<=s/\s<=R.length/\Jz [ao R]=.ok ⟨.lst .leaf,ao (R.take s)⟩/\R.length % s=0/\yV R s/\∀t,1<=t->t<s->R.length % t=0->¬yV R t:=by
 have hp:0<R.length:=List.length_pos_iff.mpr hR
 have c:ax .leaf 1 (rE (ab (eK (.int 1)) (ab (az aJ (ba aV (ab (ae 0) af)) (eK (.int 1))) af))) (aP bu (ag 2 GL (ab (ae 0) (ab (ae 1) af)))) (ae 1) (aI 2 [ao R])=.ok ⟨.lst .leaf,.list (((List.range R.length).filter fun i=>jf R (i+1)).map fun i=>rm (i+1))⟩ (aI 2 [ao R]):=
  Di (fun i=>rm (i+1)) (List.range R.length) (fun i=>jf R (i+1)) (fun i=>⟨.leaf,rm (i+1)⟩) (st:=true) (FE (n:=R.length) (by omega) (aq aO (aq (aE (bD (g:=aV) (d:=.int (R.length:Int)) (aq (aw rfl) ah) (by simp)) aO KC.add_int') ah)) rfl) (by simp [aI]) rfl (by simp;omega) (fun i hi=>gC (s:=.leaf) (bq (aq (aw rfl) (aq (aw rfl) ah)) (qO (by omega)) rfl rfl)) (fun i hi _=>⟨aw rfl,rfl⟩)
 have full:jf R (R.length-1+1)=true:=(Il (by omega)).mpr ⟨by rw [show R.length-1+1=R.length by omega,Nat.mod_self],fun i hi=>by omega⟩
 cases e:(List.range R.length).filter (fun i=>jf R (i+1)) with
 | nil=>
  have:R.length-1∈(List.range R.length).filter (fun i=>jf R (i+1)):=List.mem_filter.mpr ⟨List.mem_range.mpr (by omega),full⟩
  rw [e] at this;simp at this
 | cons i r=>
  rw [e] at c;obtain ⟨h1,h2,h3⟩:=mS e;obtain ⟨h4,h5⟩:=(Il (by omega)).mp h2
  have ix:=vK (j:=0) (d:=rm (i+1)) (fb:=eK (.int 0)) c aO (zZ (k:=0) (by simp)) rfl rfl
  have sl:=eo (g:=fun k=>(none,some k)) (fa:=ae 0) (s:=.leaf) (xs:=R.map rm) (Γ:=aI 2 [ao R]) (aw rfl) ix Ad
  simp only at sl
  rw [sL] at sl;refine ⟨i+1,by omega,by omega,aM (aS sl rfl),h4,h5,fun t t1 t2 t3 t4=>?_⟩
  have:=h3 (t-1) (by omega)
  rw [show t-1+1=t by omega,(Il (by omega)).mpr ⟨t3,t4⟩] at this
  cases this
theorem Ax {Γ Γ2:Ev} {i j:Nat} {fb:F1} {s:Sh} {ds es:List D} {d:D} (h:Γ[i]?=some (some ⟨.lst .leaf,.list ds⟩)) (hd:ds[ds.length-1]?=some d) (hf:fb (Γ.set i (some ⟨.lst .leaf,.list ds.dropLast⟩))=.ok ⟨s,.list es⟩ Γ2) (ho:bH ⟨s,.list es⟩ es=true) (hl:es.length<=900) (hj:j<Γ2.length):eA true i j fb Γ=.nx (Γ2.set j (some ⟨.lst .leaf,.list ([d]++es)⟩)):=by
 have hb:1+es.length<=sizeLine:=Nat.le_trans (by omega:1+es.length<=1000) Dj
 unfold eA;rw [h];simp only [hd,hf]
 unfold tX;simp only [ho,decide_eq_true hb,decide_eq_true hj,Bool.and_self,if_true]
abbrev GS (w:Wd) (F0 R0 F R:List Nat):Ev:=[L5 w.enc,L5 (wy F0 R0),some ⟨.lst .leaf,ao F⟩,some ⟨.lst .leaf,ao R⟩]
abbrev sN:FB:=d9 (aP bu (ae 2)) (aP av (az bE (ai (ae 2) (eU bQ (eK (.int 1)))) (ai (ae 3) (eU bQ (eK (.int 1))))))
abbrev AS:FS:=eA true 2 3 (cg (fun k=>(none,some k)) (ae 3) (eU bQ (eK (.int 1))))
def Ex (b:List Nat×List Nat):Bool:=!b.1.isEmpty&&(b.1.getLast?==b.2.getLast?)
theorem qN {w:Wd} (ok:w.Ok) {F0 R0:List Nat} (h:cv w F0 R0) (hl:F0.length+R0.length<=800):∃F R,F9 [w.enc,wy F0 R0]=.ok ⟨.tup [.lst .leaf,.lst .leaf],wy F R⟩/\FD F R/\(∀k,bR F R k=bR F0 R0 k)/\F.length+R.length<=F0.length+R0.length:=by
 obtain ⟨s,s1,s2,es,d1,d2,d3⟩:=vh h.ne (by omega)
 obtain ⟨pr,pk⟩:=Kj (F:=F0) s1 h.ne d1 d2 d3
 obtain ⟨b',e,I,ht⟩:=D4 (β:=List Nat×List Nat) (c:=sN) (g:=AS) (G:=fun b=>GS w F0 R0 b.1 b.2) (test:=Ex) (Inv:=fun b=>DF b.2/\(∀k,bR b.1 b.2 k=bR F0 R0 k)/\b.1.length+b.2.length<=F0.length+R0.length) (meas:=fun b=>b.1.length)
  (fun b I=>by
   obtain ⟨F,R⟩:=b;simp only at I
   cases hF:F.getLast? with
   | none=>
    have:F=[]:=List.getLast?_eq_none_iff.mp hF
    subst this;have t:aP bu (ae 2) (GS w F0 R0 [] R)=.ok false (GS w F0 R0 [] R):=by simp
    unfold sN d9;rw [t];rfl
   | some x=>
    obtain ⟨y,hy⟩:∃y,R.getLast?=some y:=by
     cases q:R.getLast? with
     | none=>exact absurd (List.getLast?_eq_none_iff.mp q) I.1.ne
     | some y=>exact ⟨y,rfl⟩
    have hne:F≠[]:=fun z=>by rw [z] at hF;cases hF
    have t:aP bu (ae 2) (GS w F0 R0 F R)=.ok true (GS w F0 R0 F R):=by
     cases F with
     | nil=>exact absurd rfl hne
     | cons a r=>simp
    have e:Ex (F,R)=(true&&((x:Int)==(y:Int))):=by
     unfold Ex;simp only [hF,hy]
     have:F.isEmpty=false:=by cases F with | nil=>exact absurd rfl hne | cons a r=>rfl
     rw [this,Bool.not_false,Bool.true_and,Bool.true_and,Bool.eq_iff_iff];simp only [beq_iff_eq,Option.some.injEq]
     omega
    rw [e];exact zR t (fG (s:=.leaf) (aE (DQ (cz rfl) Ab hF) (DQ (cz rfl) Ab hy) KC.eq_int)))
  (fun b I hb=>by
   obtain ⟨F,R⟩:=b;simp only at I
   unfold Ex at hb;simp only [Bool.and_eq_true,Bool.not_eq_true',beq_iff_eq] at hb
   obtain ⟨x,hF⟩:∃x,F.getLast?=some x:=by
    cases q:F.getLast? with
    | none=>rw [List.getLast?_eq_none_iff.mp q] at hb;cases hb.1
    | some x=>exact ⟨x,rfl⟩
   have hy:=hb.2.symm.trans hF
   obtain ⟨F',rfl⟩:=List.getLast?_eq_some_iff.mp hF
   obtain ⟨R',rfl⟩:=List.getLast?_eq_some_iff.mp hy
   have lr:R'.length<=900:=by have:=I.2.2;simp at this;omega
   have st:=Ax (Γ:=GS w F0 R0 (F'++[x]) (R'++[x])) (i:=2) (j:=3) (fb:=cg (fun k=>(none,some k)) (ae 3) (eU bQ (eK (.int 1)))) (ds:=(F'++[x]).map rm) (d:=rm x) (s:=.lst .leaf) (es:=R'.map rm) (Γ2:=GS w F0 R0 F' (R'++[x])) rfl (by simp) (by
     have c:=eo (Γ:=GS w F0 R0 F' (R'++[x])) (g:=fun k=>(none,some k)) (fa:=ae 3) (fb:=eU bQ (eK (.int 1))) (cz rfl) Ab Ad
     simp only at c
     rw [nX,List.dropLast_concat] at c;rw [<-c];simp) rfl (by simpa using lr) (by simp)
   refine ⟨(F',x::R'),st.trans (by simp),⟨lZ (F:=F') I.1,fun k=>by rw [turned];exact I.2.1 k,by have:=I.2.2;simp at this ⊢;omega⟩,by simp⟩) 1000 (F0,R0.take s) ⟨pr,pk,by simp;omega⟩ (by simp;omega)
 obtain ⟨F,R⟩:=b'
 simp only at e I ht
 refine ⟨F,R,?_,wV I.1 fun hne z=>?_,I.2.1,I.2.2⟩
 ·refine aM (ay (za (bq (aq (aw rfl) ah) ok.check rfl rfl)) (ay (za (bq (aq (aw rfl) (aq (aw rfl) ah)) (dg ok h) rfl rfl)) ?_))
  refine ay (Ac (jR (vY (j:=0) (aw rfl) aO rfl rfl rfl) rfl) rfl (by simp [aI])) ?_
  refine ay (Γ1:=GS w F0 R0 F0 (R0.take s)) (Ac (bq (aq (vY (j:=1) (aw rfl) aO rfl rfl rfl) ah) es rfl rfl) rfl (by simp [aI])) ?_
  refine ay (Γ1:=GS w F0 R0 F R) ?_ (aS (bw (aq (C8 (p:=⟨.lst .leaf,ao F⟩) rfl) (aq (C8 (p:=⟨.lst .leaf,ao R⟩) rfl) ah)) rfl rfl) rfl)
  unfold pw;exact e
 ·unfold Ex at ht
  have lF:F.getLast?=some (F.getD (F.length-1) 0):=by
   rw [List.getLast?_eq_getElem?,LU,LR (by have:=List.length_pos_iff.mpr hne;omega)]
   rfl
  have lR:R.getLast?=some (R.getD (R.length-1) 0):=by
   rw [List.getLast?_eq_getElem?,LU,LR (by have:=List.length_pos_iff.mpr I.1.ne;omega)]
   rfl
  rw [lF,lR,z] at ht
  cases F with
  | nil=>exact hne rfl
  | cons a r=>simp at ht
def jx:FS:=(ak (aA false 3 (ai (aW .leaf (ab (eK (.str "some next")) (ab (eK (.str "some until")) (ab (eK (.str "some always")) (ab (eK (.str "all next")) (ab (eK (.str "all until")) (ab (eK (.str "all always")) af))))))) (ag 3 bZ (ab (ae 0) (ab (eK (.int 0)) (ab (eK (.int 6)) af))))))
  (ak (b7 (aP av (az (qF false) (eK (.str "until")) (ae 3))) (aF (bg (ab (ae 3) (ab (ae 1) (ab (ae 2) af))))) aQ)
  (aF (bg (ab (ae 3) (ab (ae 1) af))))))
def Ed:List L4->Res:=aB 4 jx
end KQ
namespace KC
open PySem PySem.Spec L2 T PySem.SeqAt
open PyProof.Rows hiding St
structure Det (w:Wd):Prop where
 d:∀x,x<w.n->∃t,w.stp x=[t]
def Sn.pl:Sn->Bool
 | .yes=>true | .mk _=>true | .un .not a=>a.pl | .bi .and a b=>a.pl&&b.pl | .bi .or a b=>a.pl&&b.pl | _=>false
structure KD (s a b:Sn):Prop where
 tm:s.tm=true
 ar:∀x∈s.args,x=a\/x=b
 sz:s.size<=a.size+b.size+1
 dp:s.dep<=max a.dep b.dep+1
 ok:a.ok->b.ok->s.ok
end KC
namespace KQ
open PySem PySem.Spec L2 T PySem.SeqAt KC
open PyProof.Rows hiding St
theorem yy {c k:Int} {b:Nat} (h0:0<=k) (h1:k<=1000) (hb:1<=b) (hb2:b<=1000):∃r:Nat,r<b/\bZ [.int c,.int k,.int (b:Int)]=.ok ⟨.leaf,rm r⟩:=by
 have d:=wb (c:=c) (k:=k) (b:=(b:Int)) h0 h1 (by omega) (by omega)
 have i:=DI (c:=c) (k:=k) (b:=(b:Int)) h0 h1 (by omega) (by omega)
 refine ⟨(cM c k b).toNat,by omega,?_⟩
 rw [d];show _=Res.ok ⟨.leaf,.int ((cM c k b).toNat:Int)⟩
 rw [Int.toNat_of_nonneg i.1]
theorem Ay {i j:Nat} {fl:FL} {Γ Γ1 Γ':Ev} {p q:PV} (h:fl Γ=.ok [p,q] Γ1) (hp:putN [i,j] [p,q] Γ1=some Γ'):fQ i j fl Γ=.nx Γ':=by
 unfold fQ;rw [h];simp only [hp]
theorem qM {c:Int} {a b:Sn}:∃(s:Sn) (sh:Sh),Ed [.int c,a.enc,b.enc]=.ok ⟨sh,s.enc⟩/\KD s a b/\sh.isView=false/\coer .leaf ⟨sh,s.enc⟩=true:=by
 obtain ⟨j,hj,ej⟩:=yy (c:=c) (k:=0) (b:=6) (by omega) (by omega) (by omega) (by omega)
 have uni:∀(u:U5) (j:Nat),bZ [.int c,.int 0,.int ((6:Nat):Int)]=.ok ⟨.leaf,rm j⟩->cx 6 (j:Int)=some j->[PyData.str "some next",.str "some until",.str "some always",.str "all next",.str "all until",.str "all always"][j]?=some (.str u.w.t)->qF false (.str "until") (.str u.w.t)=some (.bool false)->u≠.not->∃(s:Sn) (sh:Sh),Ed [.int c,a.enc,b.enc]=.ok ⟨sh,s.enc⟩/\KD s a b/\sh.isView=false/\coer .leaf ⟨sh,s.enc⟩=true:=fun u j e ix at' un hn=>by
  refine ⟨.un u a,.tup [.leaf,.leaf],aM (ay (cD (vK (rG (s:=.leaf) (aq aO (aq aO (aq aO (aq aO (aq aO (aq aO ah)))))) rfl rfl rfl) (bq (aq (aw rfl) (aq aO (aq aO ah))) e rfl rfl) ix at' rfl) rfl (by simp [aI])) (ay (bF (fG (s:=.leaf) (aE aO (aw rfl) un)) nofun fun _=>rfl) (aS (bw (aq (aw rfl) (aq (aw rfl) ah)) rfl rfl) rfl))),⟨?_,?_,?_,?_,fun h _=>h⟩,rfl,rfl⟩
  ·cases u<;>first | rfl | exact absurd rfl hn
  ·intro x hx
   exact .inl (List.mem_singleton.mp hx)
  ·show a.size+1<=_
   omega
  ·show a.dep+1<=_
   omega
 have bin:∀(u:B4) (j:Nat),bZ [.int c,.int 0,.int ((6:Nat):Int)]=.ok ⟨.leaf,rm j⟩->cx 6 (j:Int)=some j->[PyData.str "some next",.str "some until",.str "some always",.str "all next",.str "all until",.str "all always"][j]?=some (.str u.w.t)->qF false (.str "until") (.str u.w.t)=some (.bool true)->u≠.and->u≠.or->∃(s:Sn) (sh:Sh),Ed [.int c,a.enc,b.enc]=.ok ⟨sh,s.enc⟩/\KD s a b/\sh.isView=false/\coer .leaf ⟨sh,s.enc⟩=true:=fun u j e ix at' un hn hn'=>by
  refine ⟨.bi u a b,.tup [.leaf,.leaf,.leaf],aM (ay (cD (vK (rG (s:=.leaf) (aq aO (aq aO (aq aO (aq aO (aq aO (aq aO ah)))))) rfl rfl rfl) (bq (aq (aw rfl) (aq aO (aq aO ah))) e rfl rfl) ix at' rfl) rfl (by simp [aI])) (vZ (bF (fG (s:=.leaf) (aE aO (aw rfl) un)) (fun _=>aS (bw (aq (aw rfl) (aq (aw rfl) (aq (aw rfl) ah))) rfl rfl) rfl) nofun))),⟨?_,?_,?_,?_,fun h h'=>⟨h,h'⟩⟩,rfl,rfl⟩
  ·cases u<;>first | rfl | exact absurd rfl hn | exact absurd rfl hn'
  ·intro x hx
   simp [Sn.args] at hx
   exact hx
  ·exact L3 _
  ·exact L3 _
 match j,hj,ej with
 | 0,_,e=>exact uni .sn 0 e rfl rfl (by kernel_rfl) (by decide)
 | 1,_,e=>exact bin .su 1 e rfl rfl (by kernel_rfl) (by decide) (by decide)
 | 2,_,e=>exact uni .sa 2 e rfl rfl (by kernel_rfl) (by decide)
 | 3,_,e=>exact uni .an 3 e rfl rfl (by kernel_rfl) (by decide)
 | 4,_,e=>exact bin .au 4 e rfl rfl (by kernel_rfl) (by decide) (by decide)
 | 5,_,e=>exact uni .aa 5 e rfl rfl (by kernel_rfl) (by decide)
end KQ
namespace KC
open PySem PySem.Spec L2 T PySem.SeqAt
open PyProof.Rows hiding St
theorem zm {c:FB} {fa fb:F1} {Γ:Ev} {t:Bool} {p:PV} (hc:c Γ=.ok t Γ) (ha:t=true->fa Γ=.ok p Γ) (hb:t=false->fb Γ=.ok p Γ):rF c fa fb Γ=.ok p Γ:=by
 unfold rF;rw [hc];simp only [vJ]
 cases t with
 | true=>exact ha rfl
 | false=>exact hb rfl
end KC
namespace T
open PySem
theorem IS {xs:Array Nat} {j p:Nat} (hp:∀k,k<xs.size->(xs.getD k j<j↔k<p)):∀(fuel lo hi:Nat),lo<=p->p<=hi->hi<=xs.size->hi-lo<=fuel->SetTable.below.go xs j fuel lo hi=p
 | 0,lo,hi,h1,h2,h3,h4=>by
  unfold SetTable.below.go;omega
 | n+1,lo,hi,h1,h2,h3,h4=>by
  unfold SetTable.below.go;by_cases c:lo<hi
  ·rw [if_pos c]
   have hm:=hp ((lo+hi) / 2) (by omega)
   simp only
   by_cases d:xs.getD ((lo+hi) / 2) j<j
   ·rw [if_pos d]
    have:=hm.mp d
    exact IS hp n _ _ (by omega) h2 h3 (by omega)
   ·rw [if_neg d]
    have:¬(lo+hi) / 2<p:=fun z=>d (hm.mpr z)
    exact IS hp n _ _ h1 (by omega) (by omega) (by omega)
  ·rw [if_neg c]
   omega
theorem IT {xs:Array Nat} {j p:Nat} (hp:∀k,k<xs.size->(xs.getD k j<j↔k<p)) (hs:p<=xs.size):SetTable.below xs j=p:=IS hp xs.size 0 xs.size (Nat.zero_le _) hs (L3 _) (by omega)
def Rs (xs:Array Nat):Prop:=xs.toList.Pairwise (· < ·)
theorem Rs.lt {xs:Array Nat} (h:Rs xs) {i k:Nat} (hi:i<xs.size) (hk:k<xs.size) (hik:i<k):xs[i]<xs[k]:=by
 have:=(List.pairwise_iff_getElem.mp h) i k (by simpa using hi) (by simpa using hk) hik
 simpa using this
theorem nr {xs:Array Nat}:SetTable.below xs 0=0:=IT (fun k _=>by simp) (Nat.zero_le _)
theorem Ag {xs:Array Nat} {k j:Nat} (hk:k<xs.size):xs.getD k j=xs[k]:=by
 unfold Array.getD;rw [dif_pos hk];rfl
theorem nt {xs:Array Nat} (h:Rs xs) {i:Nat} (hi:i<xs.size):SetTable.below xs (xs[i]+1)=i+1:=by
 refine IT (fun k hk=>?_) (by omega)
 rw [Ag hk];rcases Nat.lt_trichotomy k i with c | c | c
 ·have:=h.lt hk hi c
  omega
 ·subst c
  omega
 ·have:=h.lt hi hk c
  omega
theorem fS (j:Nat):∀(l:List Nat),l.Pairwise (· < ·)->∀k,k<l.length->(l.getD k j<j↔k<l.countP (·<j))
 | [],_,k,hk=>by simp at hk
 | a::l,h,k,hk=>by
  obtain ⟨h1,h2⟩:=List.pairwise_cons.mp h;rw [List.countP_cons];by_cases c:a<j
  ·simp only [c,decide_true,if_true]
   cases k with
   | zero=>simpa using c
   | succ k=>
    have:=fS j l h2 k (by simpa using hk)
    simp only [List.getD_cons_succ]
    omega
  ·have z:l.countP (·<j)=0:=List.countP_eq_zero.mpr fun b hb=>by
    have:=h1 b hb
    simp
    omega
   simp only [c,decide_false,Bool.false_eq_true,if_false,z]
   cases k with
   | zero=>simp;omega
   | succ k=>
    have hk':k<l.length:=by simpa using hk
    simp only [List.getD_cons_succ]
    rw [LU,LR hk'];have:=h1 _ (getElem_mem hk')
    simp only [Option.getD_some]
    omega
theorem Rs.point {xs:Array Nat} (h:Rs xs) (j:Nat):(∀k,k<xs.size->(xs.getD k j<j↔k<SetTable.below xs j))/\SetTable.below xs j<=xs.size:=by
 have hp:∀k,k<xs.size->(xs.getD k j<j↔k<xs.toList.countP (·<j)):=fun k hk=>by
  have:=fS j xs.toList h k (by simpa using hk)
  rw [LU,LR (by simpa using hk)] at this
  rw [Ag hk];simpa using this
 have hc:xs.toList.countP (·<j)<=xs.size:=by
  have:=List.countP_le_length (p:=(·<j)) (l:=xs.toList)
  simpa using this
 rw [IT hp hc];exact ⟨hp,hc⟩
theorem Rs.insert {xs:Array Nat} (h:Rs xs) {j:Nat} (hj:xs[SetTable.below xs j]?≠some j):Rs (SetTable.insertAt xs (SetTable.below xs j) j):=by
 obtain ⟨hp,hs⟩:=h.point j;generalize SetTable.below xs j=p at hp hs hj
 unfold Rs SetTable.insertAt;have e:(((xs.extract 0 p).push j)++xs.extract p xs.size).toList=xs.toList.take p++[j]++xs.toList.drop p:=by
  simp [Array.toList_extract,List.extract]
  rw [take_of_length_le (by simp)]
 rw [e,append_assoc,List.pairwise_append];have low:∀a∈xs.toList.take p,a<j:=fun a ha=>by
  obtain ⟨k,hk,rfl⟩:=getElem_of_mem ha;rw [length_take] at hk;have hk':k<xs.size:=by
   have:k<xs.toList.length:=by omega
   simpa using this
  have:=(hp k hk').mpr (by omega)
  rw [Ag hk'] at this;simpa using this
 have up:∀a∈xs.toList.drop p,j<a:=fun a ha=>by
  obtain ⟨k,hk,rfl⟩:=getElem_of_mem ha;rw [length_drop,Array.length_toList] at hk;have hk':p+k<xs.size:=by omega
  have q:¬xs.getD (p+k) j<j:=fun z=>by have:=(hp (p+k) hk').mp z;omega
  rw [Ag hk'] at q;have e1:(xs.toList.drop p)[k]=xs[p+k]:=by simp
  rw [e1];have hne:xs[p+k]≠j:=fun z=>by
   cases k with
   | zero=>
    simp only [Nat.add_zero] at z
    exact hj (by rw [Array.getElem?_eq_getElem (by omega),z])
   | succ k=>
    have hp':p<xs.size:=by omega
    have q0:¬xs.getD p j<j:=fun z=>by have:=(hp p hp').mp z;omega
    rw [Ag hp'] at q0;have:=h.lt hp' hk' (by omega)
    omega
  omega
 refine ⟨h.sublist (List.take_sublist _ _),?_,fun a ha b hb=>?_⟩
 ·rw [List.singleton_append,List.pairwise_cons]
  exact ⟨up,h.sublist (List.drop_sublist _ _)⟩
 ·have l1:=low a ha
  rw [List.singleton_append] at hb;rcases LQ hb with rfl | hb
  ·exact l1
  ·have:=up b hb
   omega
theorem sV {n:Nat}:Rs (Array.range n):=by
 unfold Rs;rw [Array.toList_range];exact List.pairwise_lt_range
structure Tb (b:Bool) (t:SetTable):Prop where
 led:b=false->t.led=true
 rs:Rs t.place
 nd:t.dummies=#[]
theorem Tb.fresh {b:Bool}:Tb b (.fresh 0 0 (!b)):=⟨fun e=>by rw [e];rfl,List.Pairwise.nil,rfl⟩
theorem Tb.standIn {b:Bool} {t:SetTable} (h:Tb b t) (n:Nat):Tb b (t.standIn n):=⟨h.led,sV,rfl⟩
theorem Tb.orStandIn {b:Bool} {t:SetTable} (h:Tb b t) (n:Nat):Tb b (t.orStandIn n):=by
 unfold SetTable.orStandIn;split
 ·exact h
 ·exact h.standIn n
theorem Tb.plain {b:Bool} {t:SetTable} (h:Tb b t) (p:Bool):Tb b { t with plain:=p }:=⟨h.led,h.rs,h.nd⟩
theorem kC {j:Nat}:SetTable.has #[] j=false:=by
 unfold SetTable.has;simp
theorem Tb.put {b:Bool} {t:SetTable} (h:Tb b t) {j:Nat} (hj:t.place[SetTable.below t.place j]?≠some j):Tb b (t.put j).1:=by
 refine ⟨h.led,h.rs.insert hj,?_⟩
 show (if SetTable.has t.dummies j=true then _ else t.dummies)=#[]
 rw [h.nd,kC];rfl
theorem eE {b:Bool} {t:SetTable} (h:Tb b t) {ha:Nat->Int} {k:Int}:∀(fuel:Nat) (p:SetTable.Probe),p.dummy=none->∀j d,SetTable.probe.go t ha k fuel p=some (.empty j d)->d=none/\t.place[SetTable.below t.place j]?≠some j
 | 0,p,_,j,d,e=>by unfold SetTable.probe.go at e;cases e
 | n+1,p,hp,j,d,e=>by
  unfold SetTable.probe.go at e;have adv:(t.advance p).dummy=none:=by
   unfold SetTable.advance;split
   ·exact hp
   ·exact hp
  cases q:t.slot p.j with
  | empty=>
   rw [q] at e;simp only [Option.some.injEq,SetTable.Met.empty.injEq] at e
   obtain ⟨rfl,rfl⟩:=e;refine ⟨hp,fun z=>?_⟩
   unfold SetTable.slot at q;simp only [z,beq_self_eq_true,if_true] at q
   cases q
  | dummy=>
   unfold SetTable.slot at q;simp only [h.nd,kC] at q
   split at q<;>simp at q
  | live i=>
   rw [q] at e;simp only at e
   split at e
   ·cases e
   ·exact eE h n _ adv j d e
theorem Tb.free {b:Bool} {t:SetTable} (h:Tb b t) {k:Int} {j:Nat} {d:Bool} (e:t.freeSlot k=some (j,d)):t.place[SetTable.below t.place j]?≠some j:=by
 unfold SetTable.freeSlot at e
 cases q:t.probe (fun _=>k+1) k (t.probeStart k) with
 | none=>rw [q] at e;cases e
 | some m=>
  rw [q] at e
  cases m with
  | candidate _ _ _=>cases e
  | empty i x=>
   obtain ⟨rfl,hi⟩:=eE h _ _ rfl i x q;simp only [Option.some.injEq,Prod.mk.injEq] at e
   obtain ⟨rfl,_⟩:=e;exact hi
theorem Tb.layNew {b:Bool} {t:SetTable} (h:Tb b t) (es:Array (Int×Value)) (k:Int) (x:Value):Tb b (PySem.layNew t es k x).2.1:=by
 unfold PySem.layNew
 cases e:t.freeSlot k with
 | none=>exact h.standIn _
 | some jd=>
  obtain ⟨j,d⟩:=jd;exact (h.put (h.free e)).orStandIn _
theorem xZ {b led plain:Bool} {mask fg mv:Nat} {hs:Array Int} {t:SetTable} {o:Array Nat} (hl:b=false->led=true) (e:SetTable.laid mask fg mv led plain hs=some (t,o)):Tb b t:=by
 unfold SetTable.laid at e
 cases q:SetTable.layClean mask hs with
 | none=>rw [q] at e;cases e
 | some ow=>
  rw [q] at e;simp only [Option.bind_eq_bind,Option.bind_some,Option.pure_def,Option.some.injEq,Prod.mk.injEq] at e
  obtain ⟨rfl,_⟩:=e;refine ⟨hl,?_,rfl⟩
  unfold Rs;simp only [List.toList_toArray]
  rw [pairwise_map];refine List.Pairwise.filterMap _ (R:=(· < ·)) (fun a a' haa' c hc c' hc'=>?_) List.pairwise_lt_range
  cases x:ow.getD a none with
  | none=>rw [x] at hc;cases hc
  | some y=>
   cases x':ow.getD a' none with
   | none=>rw [x'] at hc';cases hc'
   | some y'=>
    rw [x] at hc;rw [x'] at hc'
    cases hc
    cases hc'
    exact haa'
theorem Tb.relay {b:Bool} {t:SetTable} (h:Tb b t) (es:Array (Int×Value)) (n:Nat):Tb b (relayAll t es n).2.1:=by
 unfold relayAll
 cases e:t.relaid (es.map (·.1)) n with
 | none=>exact h.standIn _
 | some to=>
  obtain ⟨t',o⟩:=to;simp only
  split
  ·unfold SetTable.relaid at e
   exact xZ h.led e
  ·exact h.standIn _
open PySem.Spec L2
open PyProof.Rows hiding St
abbrev b9 (w:World):Bool:=w.params.followText "set-order"
def SetT (P:Program) (w:World) (h:Heap) (a:Addr) (S:Int->Bool) (n:Nat):Prop:=
 ∃o es ep t,h.get? a=some o/\o.ExactSet/\o.data=.set es ep t/\ElemsOf (intKind P w) es.toList/\(∀k,S k=true↔∃e∈es.toList,(intKind P w).is k e.2=true)/\es.size<scanBound/\t.fits es.size=true/\es.size=n/\Tb (b9 w) t
section
variable {P:Program} {w:World} {A:Around} {E:Value->Shared->Prop} {s:Shared}
theorem SetT.at {h h':Heap} {a:Addr} {S:Int->Bool} {n:Nat} (x:SetT P w h a S n) (k:∀o,h.get? a=some o->h'.get? a=some o):SetT P w h' a S n:=by
 obtain ⟨o,es,ep,t,ho,r⟩:=x;exact ⟨o,es,ep,t,k o ho,r⟩
theorem SetT.congr {h:Heap} {a:Addr} {S S':Int->Bool} {n n':Nat} (x:SetT P w h a S n) (e:∀k,S k=S' k) (en:n=n'):SetT P w h a S' n':=by
 have:S=S':=funext e
 subst this en;exact x
theorem nW {h:Heap} {a:Addr} {o:Obj} {es es':Array (Int×Value)} {ep:Nat} {t t':SetTable} {S:Int->Bool} (ho:h.get? a=some o) (hex:o.ExactSet) (hd:o.data=.set es ep t) (hel:ElemsOf (intKind P w) es'.toList) (hm:∀k,S k=true↔∃e∈es'.toList,(intKind P w).is k e.2=true) (hb:es'.size<scanBound) (hf:t'.fits es'.size=true) (tb:Tb (b9 w) t') :
  (h.update a (Obj.putSet es' t')).get? a=some { o with data:=.set es' (ep+1) t' }/\SetT P w (h.update a (Obj.putSet es' t')) a S es'.size:=by
 have q:=(SetOf_store (knd:=intKind P w) ho hex hd hel hm hb hf).1
 exact ⟨q,_,es',ep+1,t',q,hex,rfl,hel,hm,hb,hf,rfl,tb⟩
theorem FC {a:Addr} {S:Int->Bool} {n:Nat} {k:Int} {x:Value} {Q:Bool->Shared->Prop} (hk:(intKind P w).is k x=true) (hx:x.scannable=true) (hS:SetT P w s.heap a S n) (hr:n+1<scanBound)
  (h:∀h',Heap.SameBut a s.heap h'->SetT P w h' a (fun i=>S i||decide (i=k)) (if S k then n else n+1)->∀b,Q b { s with heap:=h' }):wpAny (model P w) A (setAddHashed a x ((intKind P w).hash k)) Q E s:=by
 obtain ⟨o,es,ep,t,ho,hex,hd,hel,hm,hb,hf,hn,tb⟩:=hS;unfold setAddHashed setAddHashedIn;refine wpAny_holding (LZ (wpAny_setState_of ho hd hf ?_))
 dsimp only;rw [byScan_of hx hb hel,if_pos rfl];unfold setAddByScan;refine LZ (LZ (wpAny_rule (LZ (wpAny_setScan_of hk ho hd hf hel ?_))))
 cases q:List.findIdx? (fun e=>(intKind P w).is k e.2) es.toList with
 | some j=>
  dsimp only;obtain ⟨hj,hp,_⟩:=List.findIdx?_eq_some_iff_getElem.mp q
  have sk:S k=true:=(hm k).mpr ⟨_,getElem_mem hj,hp⟩
  refine L0 (L0 ?_)
  have z:=h s.heap (Heap.SameBut.refl a s.heap) ⟨o,es,ep,t,ho,hex,hd,hel,fun i=>?_,hb,hf,by rw [sk];exact hn,tb⟩ false
  ·have es':s={ s with heap:=s.heap }:=by cases s;rfl
   rw [es'];exact z
  ·rw [Bool.or_eq_true,decide_eq_true_eq,<-hm i]
   exact ⟨fun y=>y.elim id fun e=>e▸sk,.inl⟩
 | none=>
  dsimp only;have sk:S k=false:=by
   cases e:S k with
   | false=>rfl
   | true=>
    obtain ⟨y,hy,hp⟩:=(hm k).mp e;have:=List.findIdx?_eq_none_iff.mp q y hy
    rw [hp] at this
    cases this
  have pm:=layNew_perm t es ((intKind P w).hash k) x
  have ft:=layNew_fits t es ((intKind P w).hash k) x
  have tb1:=tb.layNew es ((intKind P w).hash k) x
  generalize layNew t es ((intKind P w).hash k) x=L at pm ft tb1 ⊢
  obtain ⟨e1,t1,wd,gv⟩:=L;dsimp only at pm ft tb1 ⊢
  rw [Array.toList_push] at pm;have el1:ElemsOf (intKind P w) e1.toList:=(hel.push hk hx).perm pm
  have m1:=fun i=>mem_push_iff hk hm pm i
  have sz:e1.size=n+1:=by rw [<-Array.length_toList,pm.length_eq,length_append,Array.length_toList,hn];rfl
  have b1:e1.size<scanBound:=by rw [sz];exact hr
  have gw:∀(b:Bool) {s1:Shared} {R:Unit->Shared->Prop},R () s1->wpAny (model P w) A (match b with | true=>rule "set.scan.the-table-gave-way" | false=>pure ()) R E s1:=fun b s1 R y=>by
   cases b
   ·exact L0 y
   ·exact wpAny_rule y
  have fin:∀h',Heap.SameBut a s.heap h'->SetT P w h' a (fun i=>S i||decide (i=k)) e1.size->∀b,Q b { s with heap:=h' }:=fun h' sb y=>by
   have:=h h' sb
   rw [sk] at this;rw [sz] at y;exact this y
  have tail:∀t2:SetTable,t2.fits e1.size=true->Tb (b9 w) t2->∀{R:Option Bool->Shared->Prop},(∀h',(∀b,Q b { s with heap:=h' })->R (some true) { s with heap:=h' })->wpAny (model P w) A (do
    storeSet a e1 t2
    if (!wd&&t2.tooFull)=true then do
      (match (relayAll t2 e1 (SetTable.grown e1.size)).2.2 with | true=>rule "set.scan.the-table-gave-way" | false=>pure ())
      storeSet a (relayAll t2 e1 (SetTable.grown e1.size)).1 (relayAll t2 e1 (SetTable.grown e1.size)).2.1
      pure (some true)
     else pure (some true)) R E s:=fun t2 f2 tb2 R hR=>by
   refine LZ (wpAny_storeSet_of ho hd ?_ (fits_of_scanBound b1))
   obtain ⟨g1,s1⟩:=nW ho hex hd el1 m1 b1 f2 tb2;have sb1:=Heap.SameBut.update s.heap a (Obj.putSet e1 t2)
   split
   ·have pr:=relayAll_perm t2 e1 (SetTable.grown e1.size)
    have fr:=relayAll_fits t2 e1 (SetTable.grown e1.size)
    have tr:=tb2.relay e1 (SetTable.grown e1.size)
    generalize relayAll t2 e1 (SetTable.grown e1.size)=Rl at pr fr tr ⊢
    obtain ⟨e2,t3,g2⟩:=Rl;dsimp only at pr fr tr ⊢
    have sz2:e2.size=e1.size:=by rw [<-Array.length_toList,pr.length_eq,Array.length_toList]
    have b2:e2.size<scanBound:=by rw [sz2];exact b1
    refine LZ (gw _ (LZ (wpAny_storeSet_of g1 rfl ?_ (fits_of_scanBound b2))))
    obtain ⟨_,s2⟩:=nW (P:=P) (S:=fun i=>S i||decide (i=k)) g1 hex rfl (el1.perm pr) (fun i=>(m1 i).trans ⟨fun ⟨e,he,y⟩=>⟨e,pr.mem_iff.mpr he,y⟩,fun ⟨e,he,y⟩=>⟨e,pr.mem_iff.mp he,y⟩⟩) b2 fr tr
    rw [sz2] at s2;exact L0 (hR _ (fin _ (sb1.trans (Heap.SameBut.update _ a _)) s2))
   ·exact L0 (hR _ (fin _ sb1 s1))
  refine LZ (gw _ ?_)
  split
  ·refine LZ ?_
   rw [hashByValue_scannable 8 hx];refine L0 ?_
   refine tail _ ?_ ?_ fun h' y=>?_
   ·split
    ·exact ft
    ·exact SetTable.fits_plain_off ft
   ·split
    ·exact tb1
    ·exact tb1.plain false
   ·exact L0 (y true)
  ·refine LZ (L0 ?_)
   simp only [if_true]
   exact tail _ ft tb1 fun h' y=>L0 (y true)
end
section
variable {P:Program} {w:World} {A:Around} {R:Result->Shared->Prop} {I:Addr} {fp wr:List Addr} {G:Array GenState->Array GenState->Prop} {n:Nat} {Pr:Nat->Value->Prop} {Sn:Nat->Shared->Prop}
theorem Ei (W:WalksS P w A.in1 I fp wr G n Pr Sn) (S:Addr) (hS:S∉fp) (val:Nat->Int) (hv:∀i v,Pr i v->∃t,v=.int (val i) t) (hb:n+1<scanBound):∀(k i:Nat) (s:Shared),n-i=k->i<=n->Sn i s->SetT P w s.heap S (fun z=>(firstMet val i).any (·==z)) (firstMet val i).length ->
   (∀s',Moved (S::wr) G s s'->SetT P w s'.heap S (fun z=>(firstMet val n).any (·==z)) (firstMet val n).length->R (.ok (.ret .none)) s')->codeAny (model P w) A (.builtin "set.update.loop" ⟨[.ref S,.ref I],[]⟩) R s:=by
 have hw:S∉wr:=fun z=>hS (W.sub _ z)
 have sub:∀b∈wr,b∈S::wr:=fun b z=>LW _ z
 intro k;induction k with
 | zero=>
  intro i s hk hi st x hR;obtain rfl:i=n:=by omega
  refine codeAny_builtin F.entry_set_update_loop ?_
  rw [Around.under_plainId F.plain_set_update_loop _];refine LZ (W.done s _ _ st fun s' mv=>?_)
  exact L0 (hR s' (mv.mono sub) (x.at fun o e=>mv.heap S o hw e))
 | succ k ih=>
  intro i s hk hi st x hR;have lt:i<n:=by omega
  refine codeAny_builtin F.entry_set_update_loop ?_
  rw [Around.under_plainId F.plain_set_update_loop _];refine LZ (W.item i s _ _ lt st fun v s' pv st' mv=>?_)
  obtain ⟨t,rfl⟩:=hv i v pv;have x':=x.at fun o e=>mv.heap S o hw e
  refine LZ (wpAny_holding ?_)
  unfold setAdd;refine wpAny_holding (LZ ((intKind P w).pyHash (k:=val i) (intKind_is _ _ _ _) ?_))
  have room:(firstMet val i).length+1<scanBound:=by have:=firstMet_length_le val i;omega
  refine FC (s:={ s' with toks:=s'.toks+1 }) (intKind_is _ _ _ _) rfl x' room fun h' sb x2 b=>?_
  have x3:SetT P w h' S (fun z=>(firstMet val (i+1)).any (·==z)) (firstMet val (i+1)).length:=x2.congr (fun z=>by rw [firstMet_succ,step_any]) (by rw [firstMet_succ,step_length])
  refine L0 ⟨plainId_quiet F.plain_set_update_loop _,ih (i+1) _ (by omega) lt (W.frame _ s' _ _ st' (Nat.le_succ _) fun c hc o e=>?_) x3 fun s2 mv2 x4=>?_⟩
  ·rw [sb.2 c fun z=>hS (by rw [<-z];exact hc)]
   exact e
  ·refine hR s2 (Moved.trans W.gtrans ((mv.mono sub).then_heap (Nat.le_succ _) fun c o hc e=>?_) mv2) x4
   rw [sb.2 c fun z=>hc (by rw [z];exact mem_cons_self)]
   exact e
end
section
variable {P:Program} {w:World} {A:Around} {E:Value->Shared->Prop} {s:Shared}
abbrev fW (w:World):Obj:={ cls:=.type "set",dict:=none,data:=.set #[] 0 (.fresh 0 0 (!b9 w)) }
theorem EZ (a:Value) {Q:Value->Shared->Prop} (h:Q (.ref s.heap.objs.size) { s with heap:=s.heap.push (fW w) }):codeAny (model P w) A (.call (.builtin "set.__new__") ⟨[.type "set",a],[]⟩) (wants Q E) s:=by
 refine codeAny_of_tree ?_
 refine LZ (wpAny_of_eq (F.newCall_set_1 a) (L0 ⟨plainId_quiet F.plain_set_new _,codeAny_builtin F.entry_set_new ?_⟩))
 rw [Around.under_plainId F.plain_set_new _];unfold Builtin.«set.__new__» Builtin.Frozenset.newClass
 have sub:=sub_set_self
 obtain ⟨hp,g,d,tk,os⟩:=s;dsimp only;wp_walk
 refine wpAny_askSetting (L0 ?_)
 dsimp only;simp only [newObj]
 exact LZ (wpAny_alloc (L0 (L0 h)))
theorem yt {h:Heap} {a:Addr} (e:h.get? a=some (fW w)):SetT P w h a (fun _=>false) 0:=
 ⟨_,#[],0,_,e,⟨rfl,rfl,rfl⟩,rfl,fun e he=>by simp at he,fun k=>by simp,by decide,rfl,rfl,Tb.fresh⟩
theorem ni {l:Addr} {its:Array Value} {ns:List Int} {Q:Value->Shared->Prop} (hh:A.handled=none) (hl:s.heap.IsList l its) (hi:IntsAre its.toList ns) (hb:its.size+1<scanBound)
  (h:∀(h':Heap) (tk:Nat),SetT P w h' s.heap.objs.size (fun z=>(firstMet (fun i=>ns.getD i 0) its.size).any (·==z)) (firstMet (fun i=>ns.getD i 0) its.size).length->(∀b o,s.heap.get? b=some o->h'.get? b=some o)->Q (.ref s.heap.objs.size) { s with heap:=h',toks:=tk }) :
  wpAny (model P w) A (call (.type "set") [.ref l]) Q E s:=by
 obtain ⟨c,tl,mro⟩:=F.called_set.mro;have made:=F.called_set.made
 have sub:=F.called_set.sub
 refine wpAny_call (codeAny_of_tree ?_)
 show wpAny _ _ (callAny (.type "set") _) _ _ _
 refine L0 ⟨Code.quiet_builtin _ (by decide +kernel),codeAny_builtin F.entry_type_call ?_⟩
 rw [Around.under_plain (weight_type_call_type "set" [.ref l] []) rfl]
 have h1:=F.called_set.notType
 have h2:=F.called_set.canCreate
 have ct:=F.typeCall_set_1 (.ref l)
 repeat (any_goals (first | assumption | wp_step))
 refine codeAny_mono (EZ (.ref l) (E:=E) (Q:=fun ob s1=>ob=.ref s.heap.objs.size/\s1={ s with heap:=s.heap.push (fW w) }) ⟨rfl,rfl⟩) fun r s1 hr=>?_
 cases r with
 | error e=>exact hr
 | ok fl=>
  cases fl with
  | ret ob=>
   obtain ⟨rfl,rfl⟩:=hr;have gS:(s.heap.push (fW w)).get? s.heap.objs.size=some (fW w):=Heap.get?_push_size _ rfl
   have ty:Shared.TypeIs { s with heap:=s.heap.push (fW w) } (.ref s.heap.objs.size) "set":=⟨_,gS,rfl⟩
   have li:=F.called_set.init.lookup
   have bi:=F.called_set.init.bind (.ref s.heap.objs.size)
   repeat (any_goals (first | assumption | wp_step))
   refine codeAny_mono (codeAny_call_builtin (R:=wants (fun r s2=>r=.none/\∃h' tk,s2={ s with heap:=h',toks:=tk }/\SetT P w h' s.heap.objs.size (fun z=>(firstMet (fun i=>ns.getD i 0) its.size).any (·==z)) (firstMet (fun i=>ns.getD i 0) its.size).length/\(∀b o,s.heap.get? b=some o->h'.get? b=some o)) E) F.called_set.init.plain F.entry_set_init (check_set_init_1 ty ?_)) fun r2 s2 hr2=>?_
   ·have hl':=hl
    obtain ⟨ol,gl,cl,nl,dl⟩:=hl;obtain ⟨oc,od,odt,os⟩:=ol;simp only at cl dl
    subst cl dl;have gl':(s.heap.push (fW w)).get? l=some { cls:=.type "list",dict:=od,data:=.seq its nl,slots:=os }:=L1 _ gl
    have s1:=F.sub_list_set
    have s2:=F.sub_list_frozenset
    have ne:(Value.type "list"==Value.type "dict")=false:=by decide
    have l1:(s.heap.push (fW w)).IsList l its:=⟨_,gl',rfl,nl,rfl⟩
    unfold Builtin.«set.__init__» noKeywords Builtin.Frozenset.updateFrom
    generalize hPI:pyIter=PI
    wp_walk
    subst hPI;refine wpAny_pyIter_list l1 (LZ (wpAny_runValue ?_))
    have lS:l<s.heap.objs.size:=Heap.lt_size gl
    have h3:A.in1.in1.in1.handled=none:=by simp [hh]
    have nI:l≠(s.heap.push (fW w)).objs.size:=by
     rw [Heap.size_push];exact Nat.ne_of_lt (Nat.lt_succ_of_lt lS)
    have nf:s.heap.objs.size∉[(s.heap.push (fW w)).objs.size,l]:=by
     rw [Heap.size_push];simp only [mem_cons,not_mem_nil,or_false,not_or]
     exact ⟨Nat.ne_of_lt (Nat.lt_succ_self _),Nat.ne_of_gt lS⟩
    refine Ei ((Walks.list h3 _ l nI its).toS) s.heap.objs.size nf (fun i=>ns.getD i 0) (fun i v e=>IntsAre.int_at hi i v (by rw [Array.getElem?_toList];exact e)) hb (its.size-0) 0 _ (by omega) (Nat.zero_le _) ⟨⟨_,Heap.get?_push_size _ rfl,rfl,rfl⟩,l1.push _⟩ ?_ fun s' mv x=>?_
    ·exact (yt (L1 _ gS)).congr (fun _=>rfl) rfl
    ·obtain ⟨h',g',d',tk',os'⟩:=s'
     have e1:g'=s.gens:=mv.gens
     have e2:d'=s.drawn:=mv.drawn
     have e3:os'=s.os:=mv.os
     subst e1 e2 e3;refine L0 (L0 ⟨rfl,h',tk',rfl,x,fun b o e=>?_⟩)
     have hb1:b≠s.heap.objs.size:=Nat.ne_of_lt (Heap.lt_size e)
     have hb2:b≠(s.heap.push (fW w)).objs.size:=by
      rw [Heap.size_push];exact Nat.ne_of_lt (Nat.lt_succ_of_lt (Heap.lt_size e))
     exact mv.heap b o (by simp only [mem_cons,not_mem_nil,or_false,not_or];exact ⟨hb1,hb2⟩) (L1 _ (L1 _ e))
   ·cases r2 with
    | error e=>exact hr2
    | ok f2=>
     cases f2 with
     | ret r=>
      obtain ⟨rfl,h',tk,rfl,x,kp⟩:=hr2;repeat (any_goals (first | assumption | wp_step))
      exact h _ _ x kp
     | _=>exact hr2.elim
  | _=>exact hr.elim
end
theorem jo:entryFor table "set.__iter__"=some Builtin.«frozenset.__iter__»:=entryFor_alias (id' := "frozenset.__iter__") (by kernel_rfl) rfl (by decide +kernel) (by kernel_rfl)
theorem slot_si_next:Slot "set_iterator" "__next__" "set_iterator.__next__":=
 .of (owner := "set_iterator") (n := "__next__") (by rw [typeLookup_type,builtinLookup_eq_fast];kernel_rfl) (by decide +kernel) (by decide +kernel) (by decide +kernel) (by first | exact .inl (by decide +kernel) | exact .inr (by decide +kernel)) (by rw [isSubtype_type];kernel_rfl)
theorem GX:entryFor table "set_iterator.__next__"=some Builtin.«set_iterator.__next__»:=entryFor_of_tree (by kernel_rfl)
theorem G0 (a:Value):argsOk "set_iterator.__next__" ⟨[a],[]⟩:=by
 unfold argsOk;rw [signature?_of (id := "set_iterator.__next__") (n:=['_','_','t','x','e','n','_','_']) (o:=['r','o','t','a','r','e','t','i','_','t','e','s']) (by kernel_rfl) (show Manifest.owners.lookup (String.ofList ['r','o','t','a','r','e','t','i','_','t','e','s'].reverse)=some Manifest.sig_set_iterator by kernel_rfl)]
 kernel_rfl
theorem oz {α:Type} (next:Nat->Nat):∀(fuel k:Nat) (l:List α) (out:Array α),l.length=fuel->(pickOrder.go next fuel k l out).toList.Perm (out.toList++l)
 | 0,k,l,out,h=>by
  unfold pickOrder.go;rw [List.length_eq_zero_iff.mp h,append_nil]
 | n+1,k,l,out,h=>by
  unfold pickOrder.go;have lt:next k % l.length<l.length:=Nat.mod_lt _ (by omega)
  generalize next k % l.length=j at lt
  rw [LR lt];simp only
  have ih:=oz next n (k+1) (l.eraseIdx j) (out.push l[j]) (by rw [List.length_eraseIdx_of_lt lt];omega)
  refine ih.trans ?_
  rw [Array.toList_push,append_assoc];refine List.Perm.append_left _ ?_
  rw [List.singleton_append];rw [List.eraseIdx_eq_take_drop_succ];have e:l=l.take j++l[j]::l.drop (j+1):=by rw [List.getElem_cons_drop,List.take_append_drop]
  conv=>rhs;rw [e]
  exact List.perm_middle.symm
theorem Jp {α:Type} (next:Nat->Nat) (xs:Array α):(pickOrder next xs).toList.Perm xs.toList:=by
 unfold pickOrder;have:=oz next xs.size 0 xs.toList #[] (by simp)
 simpa using this
section
variable {P:Program} {w:World} {A:Around} {E:Value->Shared->Prop} {s:Shared} {S it:Addr} {o:Obj} {es:Array (Int×Value)} {ep:Nat} {t:SetTable}
theorem oH (ht:b9 w=true) (ho:s.heap.get? S=some o) (hd:o.data=.set es ep t) (hf:t.fits es.size=true) {sl i:Nat} {Q:Option (Value×Nat)->Shared->Prop} (h:Q (((pickOrder (w.params.setOrder S ep) es)[i]?).map fun e=>(e.2,sl)) s):wpAny (model P w) A (setNext S sl i ep) Q E s:=by
 unfold setNext;refine LZ (wpAny_setState_of ho hd hf ?_)
 dsimp only;refine LZ ?_
 unfold setsByText;refine LZ (wpAny_askSetting (L0 ?_))
 show wpAny (model P w) A (if b9 w=true then _ else _) Q E s
 rw [if_pos ht];simp only [bne_self_eq_false,Bool.false_eq_true,if_false]
 refine LZ ?_
 unfold setWalk;refine LZ (wpAny_setState_of ho hd hf ?_)
 dsimp only;refine LZ ?_
 unfold setsByText;refine LZ (wpAny_askSetting (L0 ?_))
 show wpAny (model P w) A (if b9 w=true then _ else _) _ E s
 rw [if_pos ht];exact LZ (wpAny_askSetting (L0 (L0 h)))
theorem iR (hf:t.fits es.size=true):t.place.size=es.size:=by
 unfold SetTable.fits at hf;rw [Bool.and_eq_true,beq_iff_eq] at hf;exact hf.1
theorem oI (ht:b9 w=false) (tb:Tb (b9 w) t) (hp:(!t.plain&&decide (es.size>1))=false) (ho:s.heap.get? S=some o) (hd:o.data=.set es ep t) (hf:t.fits es.size=true) {sl i:Nat} {Q:Option (Value×Nat)->Shared->Prop}
  (h:Q (match es[SetTable.below t.place sl]?,t.place[SetTable.below t.place sl]? with | some (_,x),some j=>some (x,j+1) | _,_=>none) s):wpAny (model P w) A (setNext S sl i ep) Q E s:=by
 have led:=tb.led ht
 unfold setNext;refine LZ (wpAny_setState_of ho hd hf ?_)
 dsimp only;refine LZ ?_
 unfold setsByText;refine LZ (wpAny_askSetting (L0 ?_))
 show wpAny (model P w) A (if b9 w=true then _ else _) Q E s
 rw [if_neg (by rw [ht];exact Bool.false_ne_true)]
 show wpAny (model P w) A (if (!t.plain&&decide (es.size>1))=true then _ else _) Q E s
 rw [if_neg (by rw [hp];exact Bool.false_ne_true)]
 show wpAny (model P w) A ((if (!t.led&&!es.isEmpty)=true then _ else _) >>= _) Q E s
 rw [if_neg (by rw [led];simp)]
 exact LZ (L0 (L0 h))
end
def SetIt (h:Heap) (it S:Addr) (f:Value) (i n ep:Nat):Prop:=∃o,h.get? it=some o/\o.cls=.type "set_iterator"/\o.data=.fields #[f,.int i 0,.ref S,.int n 0,.int ep 0]
theorem SetIt.at {h h':Heap} {it S:Addr} {f:Value} {i n ep:Nat} (x:SetIt h it S f i n ep) (k:∀o,h.get? it=some o->h'.get? it=some o):SetIt h' it S f i n ep:=let ⟨o,a,b⟩:=x;⟨o,k o a,b⟩
section
variable {P:Program} {w:World} {A:Around} {E:Value->Shared->Prop} {s:Shared} {S it:Addr} {o:Obj} {es:Array (Int×Value)} {ep:Nat} {t:SetTable} {i n sl nx:Nat} {x:Value} {Q:Option Value->Shared->Prop}
theorem kK (hit:SetIt s.heap it S (.int sl 0) i n ep) (ho:s.heap.get? S=some o) (hd:o.data=.set es ep t) (hf:t.fits es.size=true) (hn:es.size=n)
  (hN:∀(A:Around) (E:Value->Shared->Prop) (R:Option (Value×Nat)->Shared->Prop),R (some (x,nx)) s->wpAny (model P w) A (setNext S sl i ep) R E s)
  (hQ:∀h',SetIt h' it S (.int nx 0) (i+1) n ep->Heap.SameBut it s.heap h'->Q (some x) { s with heap:=h' }):wpAny (model P w) A (pyNext (.ref it)) Q E s:=by
 obtain ⟨oi,gi,ci,di⟩:=hit;have ty:s.TypeIs (.ref it) "set_iterator":=⟨oi,gi,ci⟩
 unfold pyNext;refine LZ (wpAny_attempt (wpAny_callSpecial?_slot (name:=Str.ofString "__next__") ty slot_si_next (wpAny_call_entry slot_si_next ty GX ?_ (G0 _))))
 unfold Builtin.«set_iterator.__next__»
 refine LZ (L0 ?_)
 refine LZ (wpAny_fieldsOf gi di ?_)
 dsimp only;refine LZ (wpAny_setEntries_of ho hd hf ?_)
 rw [if_neg (by rw [hn];simp)]
 simp only [Int.toNat_natCast]
 refine LZ (hN _ _ _ ?_)
 dsimp only;refine LZ (wpAny_setField gi di (by simp) ?_)
 have g1:=Heap.get?_update_self (Obj.mapFields (·.setIfInBounds 0 (rawInt nx))) gi (Obj.isFreed_of_fields (Obj.data_mapFields di _))
 have d1:=Obj.data_mapFields di (·.setIfInBounds 0 (rawInt nx))
 refine LZ (wpAny_setField g1 d1 (by simp) (L0 ⟨x,rfl,L0 (hQ _ ?_ ((Heap.SameBut.update ..).trans (Heap.SameBut.update ..)))⟩))
 refine ⟨_,Heap.get?_update_self _ g1 (Obj.isFreed_of_fields (Obj.data_mapFields d1 _)),(Obj.cls_mapFields ..).trans ((Obj.cls_mapFields ..).trans ci),?_⟩
 rw [Obj.data_mapFields d1];simp [rawInt]
theorem oX (hh:A.handled=none) (hit:SetIt s.heap it S (.int sl 0) i n ep) (ho:s.heap.get? S=some o) (hd:o.data=.set es ep t) (hf:t.fits es.size=true) (hn:es.size=n)
  (hN:∀(A:Around) (E:Value->Shared->Prop) (R:Option (Value×Nat)->Shared->Prop),R none s->wpAny (model P w) A (setNext S sl i ep) R E s)
  (hQ:∀h',Heap.ExtBut it s.heap h'->Q none { s with heap:=h' }):wpAny (model P w) A (pyNext (.ref it)) Q E s:=by
 obtain ⟨oi,gi,ci,di⟩:=hit;have ty:s.TypeIs (.ref it) "set_iterator":=⟨oi,gi,ci⟩
 unfold pyNext;refine LZ (wpAny_attempt (wpAny_callSpecial?_slot (name:=Str.ofString "__next__") ty slot_si_next (wpAny_call_entry slot_si_next ty GX ?_ (G0 _))))
 unfold Builtin.«set_iterator.__next__»
 refine LZ (L0 ?_)
 refine LZ (wpAny_fieldsOf gi di ?_)
 dsimp only;refine LZ (wpAny_setEntries_of ho hd hf ?_)
 rw [if_neg (by rw [hn];simp)]
 simp only [Int.toNat_natCast]
 refine LZ (hN _ _ _ ?_)
 dsimp only;refine LZ (wpAny_setField gi di (by simp) ?_)
 refine LZ ?_
 simp only [newExc,newTuple]
 refine LZ (wpAny_newObj_type ?_ (by size_fits))
 refine LZ (m:=firstArgMember _ _) (wpAny_of_eq (a:=Value.none) (by first | rfl | (simp only [firstArgMember];rfl)) ?_)
 refine wpAny_newObj_type ?_ (by size_fits)
 simp only [raiseNew]
 refine LZ (wpAny_handled ?_)
 rw [show A.in1.handled=none from hh];refine LZ (L0 (wpAny_throw ?_))
 refine LZ (wpAny_isInstance (T := "StopIteration") (b:=true) ⟨_,Heap.get?_push_size _ rfl,rfl⟩ isSubtype_stop ?_)
 exact L0 (hQ _ (((Heap.SameBut.update ..).extBut.push _).push _))
end
theorem dE:Slot "set_iterator" "__iter__" "set_iterator.__iter__":=
 .of (owner := "set_iterator") (n := "__iter__") (by rw [typeLookup_type,builtinLookup_eq_fast];kernel_rfl) (by decide +kernel) (by decide +kernel) (by decide +kernel) (by first | exact .inl (by decide +kernel) | exact .inr (by decide +kernel)) (by rw [isSubtype_type];kernel_rfl)
theorem gZ:entryFor table "set_iterator.__iter__"=some Builtin.«dict_keyiterator.__iter__»:=entryFor_alias (id' := "dict_keyiterator.__iter__") (by kernel_rfl) (by first | rfl | decide +kernel) (by decide +kernel) (by kernel_rfl)
theorem jD (a:Value):argsOk "set_iterator.__iter__" ⟨[a],[]⟩:=by
 unfold argsOk;rw [signature?_of (id := "set_iterator.__iter__") (n:=['_','_','r','e','t','i','_','_']) (o:=['r','o','t','a','r','e','t','i','_','t','e','s']) (by kernel_rfl) (show Manifest.owners.lookup (String.ofList ['r','o','t','a','r','e','t','i','_','t','e','s'].reverse)=some Manifest.sig_set_iterator by kernel_rfl)]
 kernel_rfl
section
variable {P:Program} {w:World} {A:Around} {E:Value->Shared->Prop} {s:Shared} {S it:Addr} {o:Obj} {es:Array (Int×Value)} {ep:Nat} {t:SetTable} {i n:Nat} {f:Value}
theorem Im {Q:Value->Shared->Prop} (hit:SetIt s.heap it S f i n ep) (h:Q (.ref it) s):wpAny (model P w) A (pyIter (.ref it)) Q E s:=by
 obtain ⟨oi,gi,ci,_⟩:=hit;have ty:s.TypeIs (.ref it) "set_iterator":=⟨oi,gi,ci⟩
 refine wpAny_pyIter_slot ty dE (wpAny_call_entry dE ty gZ ?_ (jD _))
 show wpAny _ _ (ret (.ref it)) _ _ s
 exact L0 ⟨_,rfl, "set_iterator",_,ty,slot_si_next.lookup,h⟩
theorem wB (hh:A.handled=none) (ht:b9 w=true) (hne:S≠it) (hd:o.data=.set es ep t) (hf:t.fits es.size=true) (hn:es.size=n) :
  Walks P w A it [it,S] [it] n (fun i v=>((pickOrder (w.params.setOrder S ep) es).toList.map (·.2))[i]?=some v) (fun i h=>SetIt h it S (.int 0 0) i n ep/\h.get? S=some o) where
 sub:=fun b hb=>by simp at hb;simp [hb]
 frame:=fun _ _ _ st hk=>⟨st.1.at fun o e=>hk it (by simp) o e,hk S (by simp) o st.2⟩
 item:=fun i s Q E hi st hQ=>by
  have hl:(pickOrder (w.params.setOrder S ep) es).size=n:=by rw [<-Array.length_toList,(Jp _ es).length_eq,Array.length_toList,hn]
  have hi':i<(pickOrder (w.params.setOrder S ep) es).size:=by rw [hl];exact hi
  refine kK (x:=((pickOrder (w.params.setOrder S ep) es)[i]).2) (nx:=0) st.1 st.2 hd hf hn (fun A E R h=>oH ht st.2 hd hf (by rw [Array.getElem?_eq_getElem hi'];exact h)) fun h' it' sb=>?_
  exact hQ _ h' s.toks (by rw [getElem?_map,Array.getElem?_toList,Array.getElem?_eq_getElem hi'];rfl) ⟨it',sb.extBut S o hne st.2⟩ fun b o hb e=>sb.extBut b o (fun z=>hb (by simp [z])) e
 done:=fun s Q E st hQ=>by
  have hl:(pickOrder (w.params.setOrder S ep) es).size=n:=by rw [<-Array.length_toList,(Jp _ es).length_eq,Array.length_toList,hn]
  exact oX hh st.1 st.2 hd hf hn (fun A E R h=>oH ht st.2 hd hf (by rw [Array.getElem?_eq_none (by omega)];exact h)) fun h' eb=>hQ h' s.toks fun b o hb e=>eb b o (fun z=>hb (by simp [z])) e
 self:=fun _ _ _ _ st hQ=>Im st.1 hQ
abbrev pP (t:SetTable) (i:Nat):Nat:=if i=0 then 0 else t.place.getD (i-1) 0+1
theorem j4 (tb:Tb (b9 w) t) (hf:t.fits es.size=true) (hi:i<=es.size):SetTable.below t.place (pP t i)=i:=by
 have hs:=iR hf
 unfold pP;by_cases c:i=0
 ·rw [if_pos c,c]
  exact nr
 ·rw [if_neg c,Ag (by omega),nt tb.rs (by omega)]
  omega
theorem wC (hh:A.handled=none) (ht:b9 w=false) (tb:Tb (b9 w) t) (hp:(!t.plain&&decide (es.size>1))=false) (hne:S≠it) (hd:o.data=.set es ep t) (hf:t.fits es.size=true) (hn:es.size=n) :
  Walks P w A it [it,S] [it] n (fun i v=>(es.toList.map (·.2))[i]?=some v) (fun i h=>SetIt h it S (.int (pP t i) 0) i n ep/\h.get? S=some o) where
 sub:=fun b hb=>by simp at hb;simp [hb]
 frame:=fun _ _ _ st hk=>⟨st.1.at fun o e=>hk it (by simp) o e,hk S (by simp) o st.2⟩
 item:=fun i s Q E hi st hQ=>by
  have hs:=iR hf
  have hi':i<es.size:=by omega
  have hi2:i<t.place.size:=by omega
  refine kK (x:=(es[i]).2) (nx:=pP t (i+1)) st.1 st.2 hd hf hn (fun A E R h=>oI ht tb hp st.2 hd hf ?_) fun h' it' sb=>?_
  ·rw [j4 tb hf (by omega),Array.getElem?_eq_getElem hi',Array.getElem?_eq_getElem hi2]
   have e:pP t (i+1)=t.place[i]+1:=by
    unfold pP;rw [if_neg (by omega),Nat.add_sub_cancel,Ag hi2]
   rw [e] at h;exact h
  ·exact hQ _ h' s.toks (by rw [getElem?_map,Array.getElem?_toList,Array.getElem?_eq_getElem hi'];rfl) ⟨it',sb.extBut S o hne st.2⟩ fun b o hb e=>sb.extBut b o (fun z=>hb (by simp [z])) e
 done:=fun s Q E st hQ=>by
  refine oX hh st.1 st.2 hd hf hn (fun A E R h=>oI ht tb hp st.2 hd hf ?_) fun h' eb=>hQ h' s.toks fun b o hb e=>eb b o (fun z=>hb (by simp [z])) e
  rw [j4 tb hf (by omega),Array.getElem?_eq_none (by omega)]
  exact h
 self:=fun _ _ _ _ st hQ=>Im st.1 hQ
theorem nu {src:Source} {n:Nat} {Q:Nat->Shared->Prop} {M:Model} (hn:n≠0) (h:Q (M.w.draws src (s.drawn.get src) % n) { s with drawn:=s.drawn.bump src }):wpAny M A (choose src n) Q E s:=fun _ _ _=>⟨hn,h⟩
theorem qK {α:Type} {M:Model} (n:Nat):∀(l:List α) (s:Shared) {Q:List α->Shared->Prop},l.length=n->(∀l' d,l'.Perm l->Q l' { s with drawn:=d })->wpAny M A (drawOrder n l) Q E s:=by
 induction n with
 | zero=>
  intro l s Q hl h;rw [List.length_eq_zero_iff.mp hl] at h ⊢;have:=h [] s.drawn (List.Perm.refl _)
  have e:s={ s with drawn:=s.drawn }:=by cases s;rfl
  unfold drawOrder;rw [e];exact L0 this
 | succ n ih=>
  intro l s Q hl h
  cases l with
  | nil=>cases hl
  | cons a l=>
   unfold drawOrder;refine LZ (nu (by simp) ?_)
   have lt:M.w.draws Source.order (s.drawn.get Source.order) % (a::l).length<(a::l).length:=Nat.mod_lt _ (by simp)
   generalize M.w.draws Source.order (s.drawn.get Source.order) % (a::l).length=j at lt
   rw [LR lt];dsimp only;refine LZ (ih _ _ (by rw [List.length_eraseIdx_of_lt lt];omega) fun l' d pm=>L0 (h _ d ?_))
   refine (List.Perm.cons _ pm).trans ?_
   rw [List.eraseIdx_eq_take_drop_succ];have e:(a::l)=(a::l).take j++(a::l)[j]::(a::l).drop (j+1):=by rw [List.getElem_cons_drop,List.take_append_drop]
   conv=>rhs;rw [e]
   exact List.perm_middle.symm
end
section
variable {P:Program} {w:World} {A:Around} {E:Value->Shared->Prop} {s:Shared} {S it T:Addr} {o oT:Obj} {es:Array (Int×Value)} {ep c:Nat} {t:SetTable} {i n:Nat} {x:Value} {pl:List Nat} {Q:Option Value->Shared->Prop}
abbrev rD (pl:List Nat):Array Value:=(pl.map fun (i:Nat)=>rawInt i).toArray
theorem yc (hit:SetIt s.heap it S (.ref T) i n ep) (ho:s.heap.get? S=some o) (hd:o.data=.set es ep t) (hf:t.fits es.size=true) (hn:es.size=n) (hT:s.heap.get? T=some oT) (dT:oT.data=.seq (rD pl) c)
  {p:Nat} {e:Int×Value} (hp:pl[i]?=some p) (he:es[p]?=some e)
  (hQ:∀h',SetIt h' it S (.ref T) (i+1) n ep->Heap.SameBut it s.heap h'->Q (some e.2) { s with heap:=h' }):wpAny (model P w) A (pyNext (.ref it)) Q E s:=by
 obtain ⟨oi,gi,ci,di⟩:=hit;have ty:s.TypeIs (.ref it) "set_iterator":=⟨oi,gi,ci⟩
 unfold pyNext;refine LZ (wpAny_attempt (wpAny_callSpecial?_slot (name:=Str.ofString "__next__") ty slot_si_next (wpAny_call_entry slot_si_next ty GX ?_ (G0 _))))
 unfold Builtin.«set_iterator.__next__»
 refine LZ (L0 ?_)
 refine LZ (wpAny_fieldsOf gi di ?_)
 dsimp only;refine LZ (wpAny_setEntries_of ho hd hf ?_)
 rw [if_neg (by rw [hn];simp)]
 refine LZ (wpAny_seqItems hT dT ?_)
 have e1:(rD pl)[Int.toNat (i:Int)]?=some (rawInt p):=by
  rw [Int.toNat_natCast,getElem?_toArray,getElem?_map,hp];rfl
 dsimp only;rw [e1];simp only [rawInt,Int.toNat_natCast]
 refine LZ ?_
 unfold setNextDrawn;refine LZ (wpAny_setState_of ho hd hf ?_)
 dsimp only;simp only [bne_self_eq_false,Bool.false_eq_true,if_false]
 rw [he];refine L0 ?_
 refine LZ (wpAny_setField gi di (by simp) (L0 ⟨e.2,rfl,L0 (hQ _ ?_ (Heap.SameBut.update ..))⟩))
 refine ⟨_,Heap.get?_update_self _ gi (Obj.isFreed_of_fields (Obj.data_mapFields di _)),(Obj.cls_mapFields ..).trans ci,?_⟩
 rw [Obj.data_mapFields di];simp [rawInt]
theorem CL (hh:A.handled=none) (hit:SetIt s.heap it S (.ref T) i n ep) (ho:s.heap.get? S=some o) (hd:o.data=.set es ep t) (hf:t.fits es.size=true) (hn:es.size=n) (hT:s.heap.get? T=some oT) (dT:oT.data=.seq (rD pl) c)
  (hp:pl[i]?=none) (hQ:∀h',Heap.ExtBut it s.heap h'->Q none { s with heap:=h' }):wpAny (model P w) A (pyNext (.ref it)) Q E s:=by
 obtain ⟨oi,gi,ci,di⟩:=hit;have ty:s.TypeIs (.ref it) "set_iterator":=⟨oi,gi,ci⟩
 unfold pyNext;refine LZ (wpAny_attempt (wpAny_callSpecial?_slot (name:=Str.ofString "__next__") ty slot_si_next (wpAny_call_entry slot_si_next ty GX ?_ (G0 _))))
 unfold Builtin.«set_iterator.__next__»
 refine LZ (L0 ?_)
 refine LZ (wpAny_fieldsOf gi di ?_)
 dsimp only;refine LZ (wpAny_setEntries_of ho hd hf ?_)
 rw [if_neg (by rw [hn];simp)]
 refine LZ (wpAny_seqItems hT dT ?_)
 have e1:(rD pl)[Int.toNat (i:Int)]?=none:=by
  rw [Int.toNat_natCast,getElem?_toArray,getElem?_map,hp];rfl
 dsimp only;rw [e1];dsimp only;refine LZ (wpAny_setField gi di (by simp) ?_)
 have g1:=Heap.get?_update_self (Obj.mapFields (·.setIfInBounds 0 (rawInt 0))) gi (Obj.isFreed_of_fields (Obj.data_mapFields di _))
 have d1:=Obj.data_mapFields di (·.setIfInBounds 0 (rawInt 0))
 refine LZ (wpAny_setField g1 d1 (by simp) ?_)
 refine LZ ?_
 simp only [newExc,newTuple]
 refine LZ (wpAny_newObj_type ?_ (by size_fits))
 refine LZ (m:=firstArgMember _ _) (wpAny_of_eq (a:=Value.none) (by first | rfl | (simp only [firstArgMember];rfl)) ?_)
 refine wpAny_newObj_type ?_ (by size_fits)
 simp only [raiseNew]
 refine LZ (wpAny_handled ?_)
 rw [show A.in1.handled=none from hh];refine LZ (L0 (wpAny_throw ?_))
 refine LZ (wpAny_isInstance (T := "StopIteration") (b:=true) ⟨_,Heap.get?_push_size _ rfl,rfl⟩ isSubtype_stop ?_)
 exact L0 (hQ _ ((((Heap.SameBut.update ..).trans (Heap.SameBut.update ..)).extBut.push _).push _))
theorem wD (hh:A.handled=none) (hne:S≠it) (hneT:T≠it) (hd:o.data=.set es ep t) (hf:t.fits es.size=true) (hn:es.size=n) (dT:oT.data=.seq (rD pl) c) (hl:pl.length=n) (hm:∀p∈pl,p<n) :
  Walks P w A it [it,S,T] [it] n (fun i v=>(pl.map fun p=>(es.getD p (0,.none)).2)[i]?=some v) (fun i h=>SetIt h it S (.ref T) i n ep/\h.get? S=some o/\h.get? T=some oT) where
 sub:=fun b hb=>by simp at hb;simp [hb]
 frame:=fun _ _ _ st hk=>⟨st.1.at fun o e=>hk it (by simp) o e,hk S (by simp) o st.2.1,hk T (by simp) oT st.2.2⟩
 item:=fun i s Q E hi st hQ=>by
  have hi':i<pl.length:=by omega
  have hp:pl[i]<es.size:=by
   rw [hn];exact hm _ (getElem_mem hi')
  refine yc st.1 st.2.1 hd hf hn st.2.2 dT (LR hi') (Array.getElem?_eq_getElem hp) fun h' it' sb=>?_
  refine hQ _ h' s.toks ?_ ⟨it',sb.extBut S o hne st.2.1,sb.extBut T oT hneT st.2.2⟩ fun b o hb e=>sb.extBut b o (fun z=>hb (by simp [z])) e
  rw [getElem?_map,LR hi'];simp [Array.getD,hp]
 done:=fun s Q E st hQ=>CL hh st.1 st.2.1 hd hf hn st.2.2 dT (getElem?_eq_none (by omega)) fun h' eb=>hQ h' s.toks fun b o hb e=>eb b o (fun z=>hb (by simp [z])) e
 self:=fun _ _ _ _ st hQ=>Im st.1 hQ
end
section
variable {P:Program} {w:World} {A:Around} {E:Value->Shared->Prop} {s:Shared} {S:Addr} {o:Obj} {es:Array (Int×Value)} {ep:Nat} {t:SetTable} {Q:Value->Shared->Prop}
theorem fX (es:Array (Int×Value)):(List.range es.size).map (fun p=>(es.getD p (0,.none)).2)=es.toList.map (·.2):=by
 apply ext_getElem
 ·simp
 ·intro i h1 h2
  have hi:i<es.size:=by simpa using h1
  simp [Array.getD,hi]
theorem uN (hh:A.handled=none) (ho:s.heap.get? S=some o) (hc:o.cls=.type "set") (hd:o.data=.set es ep t) (hf:t.fits es.size=true) (hb:es.size<scanBound) (tb:Tb (b9 w) t)
  (h:∀(h':Heap) (dr:Drawn) (it:Addr) (fp:List Addr) (us:List Value) (St:Nat->Heap->Prop),(∀b o,s.heap.get? b=some o->h'.get? b=some o)->us.Perm (es.toList.map (·.2))->s.heap.objs.size<=it->(∀b∈fp,b<h'.objs.size/\(b=S\/s.heap.objs.size<=b)) ->
   Walks P w A it fp [it] es.size (fun i v=>us[i]?=some v) St->St 0 h'->Q (.ref it) { s with heap:=h',drawn:=dr }) :
  wpAny (model P w) A (pyIter (.ref S)) Q E s:=by
 have ty:s.TypeIs (.ref S) "set":=⟨o,ho,hc⟩
 have lS:S<s.heap.objs.size:=Heap.lt_size ho
 refine wpAny_pyIter_slot ty F.slot_set_iter (wpAny_call_entry F.slot_set_iter ty jo ?_ (F.args_set_iter_1 _))
 unfold Builtin.«frozenset.__iter__»
 refine LZ (L0 ?_)
 refine LZ ?_
 unfold Builtin.Frozenset.sizeOf;refine LZ (wpAny_setEntries_of ho hd hf (L0 ?_))
 have hsz:es.size<=sizeLine:=Nat.le_of_lt (Nat.lt_of_lt_of_le hb (by decide))
 have fin:∀(first:Value) (s':Shared) (h1:s'.heap.get? S=some o),Q (.ref s'.heap.objs.size) { s' with heap:=s'.heap.push { cls:=.type "set_iterator",data:=.fields #[first,.int 0 0,.ref S,.int es.size 0,.int ep 0] } } ->
   wpAny (model P w) A.in1 (do
    let e <-setEpoch S
    let r <-newFields "set_iterator" [first,rawInt 0,Value.ref S,rawInt ↑es.size,rawInt ↑e]
    ret r) (fun fin s'=>∃v,fin=Fin.done (Flow.ret v)/\∃T' r,s'.TypeIs v T'/\typeLookup (Value.type T') (Str.ofString "__next__")=pure (some r)/\Q v s') E s':=by
  intro first s' h1 q
  refine LZ ?_
  unfold setEpoch;refine LZ (wpAny_setState_of h1 hd hf (L0 ?_))
  refine LZ ?_
  unfold newFields;refine wpAny_newObj_type (L0 ⟨_,rfl, "set_iterator",_,⟨_,Heap.get?_push_size _ rfl,rfl⟩,slot_si_next.lookup,?_⟩) (by size_fits)
  exact q
 refine LZ ?_
 unfold setDrawn;refine LZ (wpAny_setState_of ho hd hf ?_)
 dsimp only;refine LZ ?_
 unfold setsByText;refine LZ (wpAny_askSetting (L0 ?_))
 refine L0 ?_
 show wpAny (model P w) A.in1 (if (!b9 w&&(!t.plain&&decide (es.size>1)))=true then _ else _) _ E s
 by_cases hdr:(!b9 w&&(!t.plain&&decide (es.size>1)))=true
 ·rw [if_pos hdr]
  refine LZ (qK es.size (List.range es.size) s (by simp) fun pl dr pm=>?_)
  have hl:pl.length=es.size:=by rw [pm.length_eq,length_range]
  refine LZ (wpAny_newTuple ?_ (by rw [length_map,hl];exact hsz))
  refine fin _ _ (L1 _ ho) ?_
  have gT:(s.heap.push { cls:=.type "tuple",data:=.seq (rD pl) }).get? s.heap.objs.size=some { cls:=.type "tuple",data:=.seq (rD pl) }:=Heap.get?_push_size _ rfl
  have eI:(s.heap.push { cls:=.type "tuple",data:=.seq (rD pl) }).objs.size=s.heap.objs.size+1:=Heap.size_push ..
  have gI:=Heap.get?_push_size (o:={ cls:=.type "set_iterator",data:=.fields #[.ref s.heap.objs.size,.int 0 0,.ref S,.int es.size 0,.int ep 0] }) (s.heap.push { cls:=.type "tuple",data:=.seq (rD pl) }) rfl
  have W:=wD (P:=P) (w:=w) (A:=A) (it:=(s.heap.push { cls:=.type "tuple",data:=.seq (rD pl) }).objs.size) (S:=S) (T:=s.heap.objs.size) (o:=o) (t:=t) (ep:=ep) (pl:=pl) (c:=0) hh (by rw [eI];exact Nat.ne_of_lt (Nat.lt_succ_of_lt lS)) (by rw [eI];exact Nat.ne_of_lt (Nat.lt_succ_self _)) hd hf rfl (oT:={ cls:=.type "tuple",data:=.seq (rD pl) }) rfl hl fun p hp=>by simpa using pm.mem_iff.mp hp
  refine h _ dr _ [(s.heap.push { cls:=.type "tuple",data:=.seq (rD pl) }).objs.size,S,s.heap.objs.size] (pl.map fun p=>(es.getD p (0,.none)).2) _ (fun b o e=>L1 _ (L1 _ e)) ?_ ?_ ?_ W ⟨⟨_,gI,rfl,rfl⟩,L1 _ (L1 _ ho),L1 _ gT⟩
  ·rw [<-fX]
   exact pm.map _
  ·show s.heap.objs.size<=(s.heap.push _).objs.size
   rw [Heap.size_push];omega
  ·intro b hb
   show b<((s.heap.push _).push _).objs.size/\_
   rw [Heap.size_push,Heap.size_push];simp only [mem_cons,not_mem_nil,or_false] at hb
   rcases hb with rfl | rfl | rfl
   ·exact ⟨by rw [eI];exact Nat.lt_succ_self _,.inr (by rw [eI];exact Nat.le_succ _)⟩
   ·exact ⟨Nat.lt_succ_of_lt (Nat.lt_succ_of_lt lS),.inl rfl⟩
   ·exact ⟨Nat.lt_succ_of_lt (Nat.lt_succ_self _),.inr (L3 _)⟩
 ·rw [if_neg hdr]
  refine LZ (L0 ?_)
  refine fin _ _ ho ?_
  have kp:∀b o,s.heap.get? b=some o->(s.heap.push { cls:=.type "set_iterator",data:=.fields #[.int 0 0,.int 0 0,.ref S,.int es.size 0,.int ep 0] }).get? b=some o:=fun b o e=>L1 _ e
  have fpl:∀b∈[s.heap.objs.size,S],b<(s.heap.push { cls:=.type "set_iterator",data:=.fields #[.int 0 0,.int 0 0,.ref S,.int es.size 0,.int ep 0] }).objs.size/\(b=S\/s.heap.objs.size<=b):=by
   intro b hb;rw [Heap.size_push];simp only [mem_cons,not_mem_nil,or_false] at hb
   rcases hb with rfl | rfl
   ·exact ⟨Nat.lt_succ_self _,.inr (L3 _)⟩
   ·exact ⟨Nat.lt_succ_of_lt lS,.inl rfl⟩
  have si:SetIt (s.heap.push { cls:=.type "set_iterator",data:=.fields #[.int 0 0,.int 0 0,.ref S,.int es.size 0,.int ep 0] }) s.heap.objs.size S (.int 0 0) 0 es.size ep:=⟨_,Heap.get?_push_size _ rfl,rfl,rfl⟩
  by_cases ht:b9 w=true
  ·exact h _ s.drawn _ [s.heap.objs.size,S] _ _ kp ((Jp (w.params.setOrder S ep) es).map _) (L3 _) fpl (wB (o:=o) hh ht (Nat.ne_of_lt lS) hd hf rfl) ⟨si,kp S o ho⟩
  ·have ht':b9 w=false:=by simpa using ht
   rw [ht'] at hdr;have hp:(!t.plain&&decide (es.size>1))=false:=by simpa using hdr
   exact h _ s.drawn _ [s.heap.objs.size,S] _ _ kp (List.Perm.refl _) (L3 _) fpl (wC (o:=o) hh ht' tb hp (Nat.ne_of_lt lS) hd hf rfl) ⟨si,kp S o ho⟩
end
section
variable {P:Program} {w:World} {A:Around} {E:Value->Shared->Prop} {s:Shared} {r:Addr}
theorem uU {Q:Bool->Shared->Prop} (hT:s.TypeIs (.ref r) "set") (h:Q false s):wpAny (model P w) A (Builtin.List.listLengthHint (.ref r)) Q E s:=by
 unfold Builtin.List.listLengthHint;refine LZ (wpAny_specialOf hT PySem.F.slot_set_len.lookup ?_)
 generalize bt:("set.__len__":String)=id0
 wp_delta
 rw [show splitId id0=some ("set", "__len__") from by subst bt;decide +kernel]
 subst bt;refine LZ (wpAny_isInstance (T := "set") (b:=true) hT (by rw [isSubtype_type];kernel_rfl) ?_)
 refine wpAny_ite_split (fun hab=>absurd hab (by decide)) (fun _=>?_)
 refine wpAny_ite_split (fun _=>?_) (fun hab=>absurd (by decide +kernel) hab)
 refine LZ (wpAny_typeOf hT ?_)
 exact L0 h
variable {o:Obj} {es:Array (Int×Value)} {ep:Nat} {t:SetTable}
theorem yu {R:Result->Shared->Prop} (hh:A.handled=none) (ho:s.heap.get? r=some o) (hc:o.cls=.type "set") (hd:o.data=.set es ep t) (hf:t.fits es.size=true) (hb:es.size<scanBound) (tb:Tb (b9 w) t) (S:Addr) (hSr:S≠r) (res:Value) (hS:s.heap.get? S=some { cls:=.type "list",data:=.seq #[] 0 })
  (hR:∀h' tk dr acc' c',(∀b o,b≠S->s.heap.get? b=some o->h'.get? b=some o)->h'.get? S=some { cls:=.type "list",dict:=none,data:=.seq acc' c',slots:=#[] }->acc'.toList.Perm (es.toList.map (·.2))->R (.ok (.ret res)) { s with heap:=h',toks:=tk,drawn:=dr }) :
  wpAny (model P w) A.in1 (Builtin.List.listExtendWith (.ref S) (.ref r) res)
   (fun fin s'=>match fin with | .done f=>R (.ok f) s' | .again c'=>c'.quiet=true/\codeAny (model P w) A c' R s') (fun e s'=>R (.error e) s') s:=by
 have lS:=Heap.lt_size hS
 have hsz:es.size<=sizeLine:=Nat.le_of_lt (Nat.lt_of_lt_of_le hb (by decide))
 unfold Builtin.List.listExtendWith;refine LZ (wpAny_typeOf (T := "set") ⟨o,ho,hc⟩ ?_)
 have h1:Builtin.List.listSameRef (.ref S) (.ref r)=false:=by simp [Builtin.List.listSameRef,hSr]
 have n1:(Value.type "set"==Value.type "list")=false:=by decide
 have n2:(Value.type "set"==Value.type "tuple")=false:=by decide
 simp only [h1,n1,n2,Bool.or_false,Bool.false_eq_true,if_false]
 refine LZ (uN hh ho hc hd hf hb tb fun h' dr it fp us St kp pm lI hfp W st=>?_)
 have hSf:S∉fp:=fun hm=>by
  rcases (hfp S hm).2 with e | e
  ·exact hSr e
  ·exact absurd lS (Nat.not_lt_of_le e)
 have hS₁:=kp S _ hS
 have key:∀(h2:Heap) (c₁:Nat),St 0 h2->(∀b o,b≠S->s.heap.get? b=some o->h2.get? b=some o) ->
   h2.get? S=some { cls:=.type "list",data:=.seq #[] c₁ }->codeAny (model P w) A (.builtin "list.extend.loop" ⟨[.ref S,.ref it,res],[]⟩) R { s with heap:=h2,drawn:=dr }:=by
  intro h2 c₁ hst hk hS₁;refine codeAny_extend_loopS W.toS hsz S hSf res es.size 0 _ #[] c₁ rfl (Nat.zero_le _) hst hS₁ (ItemsOf.nil _) fun s' acc' c' hm hS' hacc=>?_
  have e:acc'.toList=us:=by
   apply ext_getElem?
   intro i;have lu:us.length=es.size:=by rw [pm.length_eq,length_map,Array.length_toList]
   by_cases hi:i<acc'.size
   ·have:=hacc.2 i acc'[i] (Array.getElem?_eq_getElem hi)
    rw [Array.getElem?_toList,Array.getElem?_eq_getElem hi,this]
   ·rw [Array.getElem?_toList,Array.getElem?_eq_none (by omega),getElem?_eq_none (by have:=hacc.1;omega)]
  rw [Moved.eq_with hm];refine hR s'.heap s'.toks dr acc' c' (fun b o hb e=>hm.heap b o (fun hmem=>?_) (hk b o hb e)) hS' (by rw [e];exact pm)
  rcases LQ hmem with e' | hmem
  ·exact hb e'
  ·exact absurd (Heap.lt_size e) (by rw [List.mem_singleton.mp hmem];exact Nat.not_lt_of_le lI)
 refine LZ (wpAny_holding (uU (r:=r) ⟨o,kp r o ho,hc⟩ ?_))
 refine wpAny_ite_split (fun _=>?_) (fun _=>L0 ⟨plainId_quiet PySem.F.plain_extend_loop _,key _ 0 st (fun b o _ e=>kp b o e) hS₁⟩)
 refine LZ (wpAny_rule ?_)
 refine LZ ?_
 show wpAny _ _ (updateSeq S (·.push .none) >>= fun _=>updateSeq S (·.pop)) _ _ _
 refine LZ (wpAny_updateSeq hS₁ rfl ?_)
 have hS₂:=Heap.get?_update_self (Obj.mapSeq (·.push Value.none)) hS₁ rfl
 refine wpAny_updateSeq (hz:=by seq_fits) hS₂ rfl ?_
 have hS₃:=Heap.get?_update_self (Obj.mapSeq (·.pop)) hS₂ rfl
 refine L0 ⟨plainId_quiet PySem.F.plain_extend_loop _,key _ _ ?_ (fun b o hb e=>?_) hS₃⟩
 ·refine W.frame 0 _ _ st fun b hb o e=>?_
  have hbS:b≠S:=fun h=>hSf (h▸hb)
  exact (Heap.get?_update_other _ _ (Ne.symm hbS)).trans ((Heap.get?_update_other _ _ (Ne.symm hbS)).trans e)
 ·exact (Heap.get?_update_other _ _ (Ne.symm hb)).trans ((Heap.get?_update_other _ _ (Ne.symm hb)).trans (kp b o e))
theorem lH {R:List Value->Shared->Prop} (hh:A.handled=none) (ho:s.heap.get? r=some o) (hc:o.cls=.type "set") (hd:o.data=.set es ep t) (hf:t.fits es.size=true) (hb:es.size<scanBound) (tb:Tb (b9 w) t)
  (h:∀(h':Heap) (tk:Nat) (dr:Drawn) (us:List Value),(∀b o,s.heap.get? b=some o->h'.get? b=some o)->us.Perm (es.toList.map (·.2))->R us { s with heap:=h',toks:=tk,drawn:=dr }) :
  wpAny (model P w) A (collect (.ref r)) R E s:=by
 have lr:=Heap.lt_size ho
 unfold collect;refine LZ (wpAny_runValue (codeAny_builtin entry_proto_collect' ?_))
 rw [Around.under_plainId PySem.F.plain_proto_collect _];show wpAny _ A.in1 (newList [] >>= fun l=>again (.builtin "list.__iadd__" ⟨[l,.ref r],[]⟩)) _ _ s
 refine LZ (wpAny_newObj_type ?_)
 refine L0 ⟨plainId_quiet PySem.F.plain_list_iadd _,codeAny_builtin entry_list_iadd' ?_⟩
 rw [Around.under_plainId PySem.F.plain_list_iadd _];have hS₁:(s.heap.push { cls:=.type "list",data:=.seq ([]:List Value).toArray }).get? s.heap.objs.size=some { cls:=.type "list",data:=.seq #[] }:=Heap.get?_push_size _ rfl
 show wpAny _ A.in1 (Builtin.List.listExtendWith (.ref s.heap.objs.size) (.ref r) (.ref s.heap.objs.size)) _ _ _
 have key:=yu (P:=P) (w:=w) (A:=A) (s:={ s with heap:=s.heap.push { cls:=.type "list",data:=.seq ([]:List Value).toArray } })
  (R:=fun (q:Result) (s':Shared)=>∃(h':Heap) (tk:Nat) (dr:Drawn) (acc':Array Value) (c':Nat),q=.ok (.ret (.ref s.heap.objs.size))/\s'={ s with heap:=h',toks:=tk,drawn:=dr } /\
   (∀b o,s.heap.get? b=some o->h'.get? b=some o)/\h'.get? s.heap.objs.size=some { cls:=.type "list",dict:=none,data:=.seq acc' c',slots:=#[] }/\acc'.toList.Perm (es.toList.map (·.2)))
  hh (L1 _ ho) hc hd hf hb tb s.heap.objs.size (Nat.ne_of_gt lr) (.ref s.heap.objs.size) hS₁
  (fun h' tk dr acc' c' hk hS' hacc=>⟨h',tk,dr,acc',c',rfl,rfl,fun b o e=>hk b o (Nat.ne_of_lt (Heap.lt_size e)) (L1 _ e),hS',hacc⟩)
 refine wpAny_mono key (fun fin s' x=>?_) fun e s' x=>?_
 ·cases fin with
  | done f=>
   obtain ⟨h',tk,dr,acc',c',e,rfl,hk,hS',hacc⟩:=x
   cases e;show wpAny _ A (load s.heap.objs.size >>= _) _ _ _
   refine LZ (wpAny_load hS' ?_)
   exact L0 (h h' tk dr acc'.toList hk hacc)
  | again c₁=>
   refine ⟨x.1,codeAny_mono x.2 fun q s₂ y=>?_⟩
   obtain ⟨h',tk,dr,acc',c',rfl,rfl,hk,hS',hacc⟩:=y;show wpAny _ A (load s.heap.objs.size >>= _) _ _ _
   refine LZ (wpAny_load hS' ?_)
   exact L0 (h h' tk dr acc'.toList hk hacc)
 ·obtain ⟨_,_,_,_,_,e',_⟩:=x
  cases e'
end
def d8 (ns:List Int):List Int:=firstMet (fun i=>ns.getD i 0) ns.length
theorem eH:∀(l m:List Int),l.Nodup->(∀x∈l,x∈m)->m.length=l.length->m.Perm l
 | [],m,_,_,h=>by rw [List.length_eq_zero_iff.mp h]
 | a::l,m,nd,hm,h=>by
  have ha:a∈m:=hm a mem_cons_self
  obtain ⟨na,nl⟩:=List.nodup_cons.mp nd;have ih:=eH l (m.erase a) nl (fun x hx=>(List.mem_erase_of_ne (fun e:x=a=>na (e▸hx))).mpr (hm x (LW _ hx))) (by rw [List.length_erase_of_mem ha,h,length_cons];omega)
  exact (List.perm_cons_erase ha).trans (ih.cons a)
theorem Jf (val:Nat->Int):∀i,(firstMet val i).Nodup
 | 0=>nodup_nil
 | i+1=>by
  rw [firstMet_succ];unfold step_dedup;split
  ·exact Jf val i
  ·rename_i h
   rw [List.nodup_append];refine ⟨Jf val i,by simp,fun a ha b hb e=>h ?_⟩
   rw [List.mem_singleton] at hb;subst hb e;simpa using ha
theorem IX (ns:List Int):(d8 ns).Nodup:=Jf _ _
theorem ddp_mem {ns:List Int} {k:Int}:k∈d8 ns↔k∈ns:=by
 have:=firstMet_any (fun i=>ns.getD i 0) ns.length k
 have e:(List.range ns.length).map (fun i=>ns.getD i 0)=ns:=by
  apply ext_getElem
  ·simp
  ·intro i h1 h2
   simp [List.getD,h2]
 rw [e] at this;unfold d8;rw [<-any_eq_true (p:=(·==k)) |>.trans ⟨fun ⟨x,h,e⟩=>by rwa [<-eq_of_beq e],fun h=>⟨k,h,by simp⟩⟩,this]
 exact List.any_eq_true.trans ⟨fun ⟨x,h,e⟩=>by rwa [<-eq_of_beq e],fun h=>⟨k,h,by simp⟩⟩
theorem iL {P:Program} {w:World}:∀(us:List Value),(∀u∈us,∃k,(intKind P w).is k u=true)->∃ns,IntsAre us ns
 | [],_=>⟨[],.nil⟩
 | u::us,h=>by
  obtain ⟨k,e⟩:=h u mem_cons_self;obtain ⟨t,rfl⟩:=Value.isInt_shape e;obtain ⟨ns,x⟩:=iL us fun v hv=>h v (LW _ hv)
  exact ⟨_,.cons _ _ x⟩
theorem kM {P:Program} {w:World} {k:Int}:∀{us:List Value} {ns:List Int},IntsAre us ns->(∃u∈us,(intKind P w).is k u=true)->k∈ns
 | _,_,.nil,⟨u,hu,_⟩=>by cases hu
 | _,_,.cons i t x,⟨u,hu,e⟩=>by
  rcases LQ hu with rfl | hu
  ·obtain ⟨t',e'⟩:=Value.isInt_shape (show Value.isInt k (Value.int i t)=true from e)
   cases e'
   exact mem_cons_self
  ·exact LW _ (kM x ⟨u,hu,e⟩)
theorem kN:∀{us:List Value} {ns:List Int},IntsAre us ns->us.length=ns.length
 | _,_,.nil=>rfl
 | _,_,.cons _ _ x=>by rw [length_cons,length_cons,kN x]
theorem L2Inv.drawn {X:Cx} {pins:List (Addr×Obj)} {σ:List (Option V)} {H:Hp} {s:Shared} (I:L2.Inv X pins σ H s) (d:Drawn):L2.Inv X pins σ H { s with drawn:=d }:=
 ⟨I.ok,I.os,I.bare,I.base,I.loc,I.cell,I.free,I.freeC,I.pin,I.hok,I.len⟩
theorem Fu:bootBuiltins "set"=some (.type "set"):=by decide +kernel
def K0 (K:Fg) (ta:TA):TE:=fun σ H Q=>ta σ H fun vs H1=>∃(p:Addr) (ns:List Int),vs=[.ref p]/\SqL K H1 p (ns.map V.int)/\ns.length<4000/\(d8 ns).length<64/\∀l,H1 l=none->Q (.ref l) (bb H1 l (.lst ((PySem.W.sortI (d8 ns)).map V.int)))
theorem mD {X:Cx} {a:Expr} {ta:TA} {p p2 pos pos2:Pos} (hg:Gl X "sorted") (hm:X.mg "sorted"=none) (hg2:Gl X "set") (hm2:X.mg "set"=none) (hc:X.calm=true) (ha:PA X [a] ta) (hs:starEach [a] X.env=[(false,eval a X.env)])
  (hs1:starEach [.Call (.Name "set" p2) [a] [] pos2] X.env=[(false,eval (.Call (.Name "set" p2) [a] [] pos2) X.env)]):PE X (.Call (.Name "sorted" p) [.Call (.Name "set" p2) [a] [] pos2] [] pos) (K0 X.K ta):=by
 intro pins s σ H Q I h;refine wpAny_Call_Name_kw (vI I hg hm vv (PyProof.Rows.callWith_builtin1 ?_ hs1 rfl))
 rw [hs1];show wpAny _ _ (spliced ((false,eval (.Call (.Name "set" p2) [a] [] pos2) X.env)::[])) _ _ s
 refine Calls.spliced_cons (Call_ (vI I hg2 hm2 Fu (PyProof.Rows.callWith_type1 (bc (ha pos2 pins s σ H _ I h) fun us s1 ⟨vs,H1,I1,r1,q1⟩=>?_) hs rfl)))
 obtain ⟨pa,ns,e,hS,q1,q2,q⟩:=q1;subst e;obtain ⟨u,rfl,ru⟩:=r1.one
 cases ru;obtain ⟨its,r,pl,hz⟩:=I1.list hS;have hI:=HX r
 have hl:its.length=ns.length:=by rw [<-r.length,length_map]
 have hl':its.toArray.size=ns.length:=by rw [size_toArray,hl]
 refine ni (ns:=ns) (I.ok.hd hc) pl.isList (by simpa using hI) (by rw [hl'];have:scanBound=4096:=rfl;omega) fun h1 tk1 st kp1=>?_
 rw [hl'] at st;refine Calls.spliced_nil ?_
 have I2:L2.Inv X pins σ H1 { s1 with heap:=h1,toks:=tk1 }:=I1.kept (t':=tk1) kp1
 obtain ⟨o,es,ep,t,ho,hex,hd,hel,hmem,hb,hf,hn,tb⟩:=st;refine Calls.call_function_entry kind_sorted plain_sorted entry_sorted (args_sorted1 _) ?_
 unfold Builtin.«sorted»
 refine LZ (m:=checkCount "sorted" 1 1 _) (L0 ?_)
 refine LZ (lH (I.ok.hd hc) ho hex.1 hd hf hb tb fun h' tk dr us hk pm=>?_)
 have hlu:us.length=(d8 ns).length:=by
  rw [pm.length_eq,length_map,Array.length_toList,hn];rfl
 obtain ⟨zs,hZ⟩:=iL (P:=X.prog) (w:=X.w) us fun u hu=>by
  obtain ⟨e,he,rfl⟩:=List.mem_map.mp (pm.mem_iff.mp hu);obtain ⟨k,hk,_⟩:=(hel e he).1;exact ⟨k,hk⟩
 have hpz:zs.Perm (d8 ns):=by
  refine eH (d8 ns) zs (IX ns) (fun k hk=>?_) ?_
  ·obtain ⟨e,he,hx⟩:=(hmem k).mp (List.any_eq_true.mpr ⟨k,hk,by simp⟩)
   exact kM (P:=X.prog) (w:=X.w) hZ ⟨e.2,pm.mem_iff.mpr (List.mem_map.mpr ⟨e,he,rfl⟩),hx⟩
  ·rw [<-hlu,kN hZ]
 have hb2:=pO (n:=(d8 ns).length) (by omega)
 refine LZ (wpAny_newList ?_ (by rw [hlu];omega))
 have hoL:(h'.push { cls:=.type "list",data:=.seq us.toArray }).get? h'.objs.size=some (seqObj "list" us.toArray 0):=Heap.get?_push_size _ rfl
 refine LZ (wpAny_holding (wpAny_call_entry slot_list_sort ⟨_,hoL,rfl⟩ entry_list_sort (list_sort_tree hoL hZ (by rw [hlu];exact q2) fun out ns' a1 a2 a3=>⟨_,rfl,?_⟩) (args_list_sort _)))
 have e:=PySem.W.eq_sortI (a2.trans hpz) a3
 subst e;have hlen:(PySem.W.sortI (d8 ns)).length=(d8 ns).length:=(PySem.W.sortI_perm _).length_eq
 obtain ⟨n,ho'⟩:=sortedHeap_at (out:=out) hoL
 have I3:L2.Inv X pins σ H1 { s1 with heap:=h',toks:=tk,drawn:=dr }:=L2Inv.drawn (I2.kept (t':=tk) hk) dr
 have kk:∀b o,h'.get? b=some o->(sortedHeap (h'.push { cls:=.type "list",data:=.seq us.toArray }) h'.objs.size us out).get? b=some o:=fun b o e=>by
  have hlt:=Heap.lt_size e
  rw [sortedHeap_old (Nat.ne_of_lt hlt) (by rw [Heap.size_push];exact Nat.lt_succ_of_lt hlt)]
  exact L1 _ e
 exact L0 ⟨_,rfl,.ref h'.objs.size,bb H1 h'.objs.size (.lst ((PySem.W.sortI (d8 ns)).map V.int)),I3.laid (t':=tk) kk (L3 _) ⟨by rw [length_map,hlen];omega,out.toList,n,nL a1,by simpa [seqObj] using ho'⟩,rfl,q _ (I3.hok.fresh (L3 _))⟩
section
variable {K:Fg} {W:XW} {σ:St} {H:Hp} {Q:VK} {fa:F1} {fl:FL}
def zX (fl:FL):F1:=fun Γ=>(fl Γ).bind fun ps Γ'=>match sortArg (ps.map (·.d)) with
 | some ns=>if ns.length<4000/\(d8 ns).length<64 then .ok ⟨.lst .leaf,.list ((PySem.W.sortI (d8 ns)).map .int)⟩ Γ' else .no
 | none=>.no
theorem tj (h:tE K W (zX fl) σ H Q):K0 K (tA K W fl) σ H Q:=by
 obtain ⟨He,O,Fs,Γ,E,h⟩:=h;refine ⟨He,O,Fs,Γ,E,?_⟩
 unfold zX at h
 cases e:fl Γ with
 | er c Γ'=>rw [e] at h;exact h
 | no=>rw [e] at h;exact h
 | ok ps Γ1=>
  rw [e] at h;intro vs H1 Gs Fs1 A;have r:=A.reps
  have h:Wants K W He O Fs H σ Q (match sortArg (ps.map (·.d)) with | some ns=>if ns.length<4000/\(d8 ns).length<64 then .ok ⟨.lst .leaf,.list ((PySem.W.sortI (d8 ns)).map .int)⟩ Γ1 else .no | none=>.no):=h
  cases ei:sortArg (ps.map (·.d)) with
   | none=>rw [ei] at h;exact h.elim
   | some ns=>
    rw [ei] at h;rw [mf ei] at r;have h:Wants K W He O Fs H σ Q (if ns.length<4000/\(d8 ns).length<64 then .ok ⟨.lst .leaf,.list ((PySem.W.sortI (d8 ns)).map .int)⟩ Γ1 else .no):=h
    by_cases hn:ns.length<4000/\(d8 ns).length<64
    ·rw [if_pos hn] at h
     have hl:=r.1
     match vs,hl with
     | [v],_=>
      have q:=r.2 0 v (.list (ns.map .int)) rfl rfl
      cases q with
      | @lst p ws _ hq hwl hw=>
       have ew:ws=ns.map V.int:=by
        apply ext_getElem?
        intro i;by_cases hi:i<ws.length
        ·have hi2:i<ns.length:=by rw [length_map] at hwl;omega
         have q:=hw i (ws[i]'hi) (.int (ns[i]'hi2)) (LR _) (by rw [getElem?_map,LR hi2];rfl)
         rw [LR hi,getElem?_map,LR hi2];generalize ws[i]'hi=u at q
         cases q;rfl
        ·rw [getElem?_eq_none (by omega),getElem?_eq_none (by rw [length_map] at hwl ⊢;omega)]
       rw [ew] at hq;refine ⟨p,ns,rfl,hq,hn.1,hn.2,fun l hl=>h _ _ _ _ (A.newSc E.ndO hl (by simp) fun i v d a1 a2=>?_)⟩
       rw [getElem?_map] at a1 a2
       cases e3:(PySem.W.sortI (d8 ns))[i]? with
       | none=>rw [e3] at a1;cases a1
       | some z=>
        rw [e3] at a1 a2
        cases a1
        cases a2;exact .int z
    ·rw [if_neg hn] at h;exact h.elim
end
section
variable {X:Cx} {N gl:List Str} {vs cs ls lo gs:List Nat} {W:XW} {a:Expr} {p pos:Pos} {fl:FL}
theorem cb_sortSet {p2 pos2:Pos} (S:Cp X N gl vs cs ls lo gs) (j k:Nat) (hj:gl[j]?=some ("sorted":Str)) (hg:gs.contains j=true) (hm:X.mg "sorted"=none) (hk:gl[k]?=some ("set":Str)) (hg2:gs.contains k=true) (hm2:X.mg "set"=none) (ha:PA X [a] (tA X.K W fl)) (hs:starEach [a] X.env=[(false,eval a X.env)])
  (hs1:starEach [.Call (.Name "set" p2) [a] [] pos2] X.env=[(false,eval (.Call (.Name "set" p2) [a] [] pos2) X.env)]):PE X (.Call (.Name "sorted" p) [.Call (.Name "set" p2) [a] [] pos2] [] pos) (tE X.K W (zX fl)):=
 aR (mD (S.g hj hg).1 hm (S.g hk hg2).1 hm2 S.calm ha hs hs1) fun _ _ _=>tj
end
end T
namespace TQ
open PySem PySem.Spec L2 T
open PyProof.Rows hiding St
section
variable {X:Cx} {N gl:List Str} {vs cs ls lo gs:List Nat} {W:XW} {a:Expr} {p pos:Pos} {fl:FL}
theorem i7 {p2 pos2:Pos} (S:Cp X N gl vs cs ls lo gs) (j k:Nat) (hj:gl[j]?=some ("sorted":Str)) (hg:gs.contains j=true) (hm:X.mg "sorted"=none) (hk:gl[k]?=some ("set":Str)) (hg2:gs.contains k=true) (hm2:X.mg "set"=none) (ha:Q (PA X [a] (tA X.K W fl))) (hs:starEach [a] X.env=[(false,eval a X.env)])
  (hs1:starEach [.Call (.Name "set" p2) [a] [] pos2] X.env=[(false,eval (.Call (.Name "set" p2) [a] [] pos2) X.env)]):Q (PE X (.Call (.Name "sorted" p) [.Call (.Name "set" p2) [a] [] pos2] [] pos) (tE X.K W (zX fl))):=⟨T.cb_sortSet S j k hj hg hm hk hg2 hm2 ha.p hs hs1⟩
end
end TQ
namespace KC
open PySem PySem.Spec L2 T PySem.SeqAt
open PyProof.Rows hiding St
theorem yF {n:Nat} {l:List Nat} (h:∀x∈l,x<n):(d8 (l.map fun t:Nat=>(t:Int))).length<=n:=by
 have nd:=IX (l.map fun t:Nat=>(t:Int))
 have m:∀x∈d8 (l.map fun t:Nat=>(t:Int)),0<=x/\x.toNat<n:=fun x hx=>by
  obtain ⟨t,ht,rfl⟩:=List.mem_map.mp (ddp_mem.mp hx);exact ⟨by omega,by simpa using h t ht⟩
 have:=Iq (n:=n) (p:=(d8 (l.map fun t:Nat=>(t:Int))).map Int.toNat) ?_ ?_
 ·rwa [length_map] at this
 ·rw [List.Nodup,pairwise_map]
  exact List.Pairwise.imp_of_mem (fun ha hb hab e=>hab (by have:=m _ ha;have:=m _ hb;omega)) nd
 ·intro x hx
  obtain ⟨t,ht,rfl⟩:=List.mem_map.mp hx;exact (m t ht).2
theorem sJ {n:Nat} {l:List Nat} (h:∀x∈l,x<n):PySem.W.sortI (d8 (l.map fun t:Nat=>(t:Int)))=((List.range n).filter fun r=>l.contains r).map fun t:Nat=>(t:Int):=by
 refine (PySem.W.eq_sortI ?_ ?_).symm
 ·refine (List.perm_ext_iff_of_nodup ?_ (IX _)).mpr fun x=>?_
  ·rw [List.Nodup,pairwise_map]
   exact (List.nodup_range.filter _).imp fun h e=>h (by omega)
  ·rw [ddp_mem,mem_map,mem_map]
   constructor
   ·rintro ⟨t,ht,rfl⟩
    exact ⟨t,by simpa using (List.mem_filter.mp ht).2,rfl⟩
   ·rintro ⟨t,ht,rfl⟩
    exact ⟨t,List.mem_filter.mpr ⟨List.mem_range.mpr (h t ht),by simpa using ht⟩,rfl⟩
 ·rw [pairwise_map]
  exact (List.pairwise_lt_range.filter _).imp fun h=>by omega
theorem wG {Γ:Ev} {fl:FL} {s:Sh} {n:Nat} {l:List Nat} (hl:fl Γ=.ok [⟨s,ao l⟩] Γ) (h:∀x∈l,x<n) (hn:n<64) (h4:l.length<4000):zX fl Γ=.ok ⟨.lst .leaf,ao ((List.range n).filter fun r=>l.contains r)⟩ Γ:=by
 unfold zX;rw [hl];have e:T.sortArg ([(⟨s,ao l⟩:PV)].map (·.d))=some (l.map fun t:Nat=>(t:Int)):=by
  show T.intsOf (l.map rm)=_
  rw [DU,gh]
 have c:(l.map fun t:Nat=>(t:Int)).length<4000/\(d8 (l.map fun t:Nat=>(t:Int))).length<64:=⟨by rw [length_map];exact h4,Nat.lt_of_le_of_lt (yF h) hn⟩
 show (match T.sortArg ([(⟨s,ao l⟩:PV)].map (·.d)) with | some ns=>if ns.length<4000/\(d8 ns).length<64 then Out.ok (⟨.lst .leaf,.list ((PySem.W.sortI (d8 ns)).map .int)⟩:PV) Γ else .no | none=>.no)=_
 rw [e];dsimp only;rw [if_pos c,sJ h,<-DU]
end KC
namespace T
open PySem PySem.Spec L2
open PyProof.Rows hiding St
def DA:List Int->Int
 | []=>0
 | a::r=>r.foldl (fun x y=>if x<y then y else x) a
theorem oJ:∀(r:List Int) (a:Int),(r.foldl (fun x y=>if x<y then y else x) a=a\/r.foldl (fun x y=>if x<y then y else x) a∈r)/\a<=r.foldl (fun x y=>if x<y then y else x) a/\∀b∈r,b<=r.foldl (fun x y=>if x<y then y else x) a
 | [],a=>⟨.inl rfl,Int.le_refl _,fun b hb=>by cases hb⟩
 | c::r,a=>by
  rw [foldl_cons];obtain ⟨h1,h2,h3⟩:=oJ r (if a<c then c else a)
  have e:a<=(if a<c then c else a)/\c<=(if a<c then c else a)/\((if a<c then c else a)=a\/(if a<c then c else a)=c):=by split<;>omega
  refine ⟨?_,by omega,fun b hb=>?_⟩
  ·rcases h1 with h1 | h1
   ·rw [h1]
    rcases e.2.2 with z | z
    ·exact .inl z
    ·exact .inr (by rw [z];exact mem_cons_self)
   ·exact .inr (LW _ h1)
  ·rcases LQ hb with rfl | hb
   ·omega
   ·exact h3 b hb
theorem uB {ns:List Int} {M:Int} (h1:M∈ns) (h2:∀a∈ns,a<=M):DA ns=M:=by
 cases ns with
 | nil=>cases h1
 | cons a r=>
  obtain ⟨g1,g2,g3⟩:=oJ r a;show r.foldl _ a=M
  have u:r.foldl (fun x y=>if x<y then y else x) a<=M:=by
   rcases g1 with g1 | g1
   ·rw [g1];exact h2 a (by simp)
   ·exact h2 _ (LW _ g1)
  have l:M<=r.foldl (fun x y=>if x<y then y else x) a:=by
   rcases LQ h1 with rfl | h1
   ·exact g2
   ·exact g3 M h1
  omega
def gk:List L4->Option L4
 | [.list ds]=>match intsOf ds with
  | some (a::r)=>some (.int (DA (a::r)))
  | _=>none
 | _=>none
def zA (K:Fg):List V->Hp->VK->Prop:=fun xs H Q=>∃(p:Addr) (ns:List Int),xs=[.ref p]/\SqL K H p (ns.map V.int)/\0<ns.length/\Q (.int (DA ns)) H
theorem ym {K:Fg}:GCall K (zA K) gk:=by
 intro vs H Q ds d r e k;unfold gk at e;split at e
 ·rename_i es
  split at e
  ·rename_i a q ei
   cases e;rw [Jc ei] at r;have hl:=r.1
   match vs,hl with
   | [v],_=>
    have z:=r.2 0 v (.list ((a::q).map .int)) rfl rfl
    cases z with
    | @lst p ws _ hq hwl hw=>
     have ew:=pX (K:=K) (H:=H) ⟨hwl,hw⟩
     rw [ew] at hq;exact ⟨p,a::q,rfl,hq,by simp,k _ (.int _)⟩
  ·cases e
 ·cases e
theorem rf {X:Cx} (hc:X.calm=true):CallR X (.builtin "max") (zA X.K):=by
 intro pins s σ H vs us Q I rv h;obtain ⟨p,ns,rfl,hq,hne,q⟩:=h;obtain ⟨u,rfl,ru⟩:=vals1 rv
 cases ru;obtain ⟨its,rv,pl,hz⟩:=I.list hq;have hi:=HX rv
 obtain ⟨xs,ex⟩:=(hi.allInts:AllInts its.toArray).items
 have en:ns=xs.toList.map (·.1):=by
  rw [<-nums_intItems,<-ex];exact hi.numsOf.symm
 have hl:=pl.isList
 rw [ex] at hl;have hsz:0<xs.size:=by
  have h3:=hne
  rw [en,length_map,Array.length_toList] at h3;exact h3
 refine max_intList (I.ok.hd hc) hl hsz fun v h' tk hv hk=>?_
 obtain ⟨t,rfl⟩:=intItems_at hv;obtain ⟨h1,h2⟩:=argBest_gt (numAt xs) (xs.size-1)
 have eM:DA ns=numAt xs (argBest (fun i j=>decide (numAt xs i>numAt xs j)) (xs.size-1)):=by
  refine uB ?_ fun a ha=>?_
  ·rw [en,numAt_eq]
   exact getD_mem (by rw [length_map,Array.length_toList];omega)
  ·rw [en] at ha
   obtain ⟨j,hj,rfl⟩:=mem_getD ha;rw [length_map,Array.length_toList] at hj;rw [<-numAt_eq];exact h2 j (by omega)
 rw [eM] at q;exact ⟨.int (numAt xs (argBest (fun i j=>decide (numAt xs i>numAt xs j)) (xs.size-1))),H,I.kept (h':=h') (t':=tk) hk,⟨_,rfl⟩,q⟩
section
variable {X:Cx} {N gl:List Str} {vs cs ls lo gs:List Nat} {W:XW} {e:Expr} {es:List Expr} {pos p:Pos} {fl:FL}
theorem cb_maxL (S:Cp X N gl vs cs ls lo gs) (j:Nat) (hj:gl[j]?=some ("max":Str)) (hg:gs.contains j=true) (hm:X.mg "max"=none) (ha:PA X (e::es) (tA X.K W fl)) (he:starEach (e::es) X.env=(false,eval e X.env)::starEach es X.env) (hpl:(backTo pos (starEach es X.env)).any (·.1)=false) :
  PE X (.Call (.Name "max" p) (e::es) [] pos) (tE X.K W (ba gk fl)):=o5 (rf S.calm) ym Fv hm ha (S.g hj hg).1 (S.g hj hg).2.2 (S.g hj hg).2.1 he hpl
end
end T
namespace TQ
open PySem PySem.Spec L2 T
open PyProof.Rows hiding St
section
variable {X:Cx} {N gl:List Str} {vs cs ls lo gs:List Nat} {W:XW} {e:Expr} {es:List Expr} {pos p:Pos} {fl:FL}
theorem pJ (S:Cp X N gl vs cs ls lo gs) (j:Nat) (hj:gl[j]?=some ("max":Str)) (hg:gs.contains j=true) (hm:X.mg "max"=none) (ha:Q (PA X (e::es) (tA X.K W fl))) (he:starEach (e::es) X.env=(false,eval e X.env)::starEach es X.env) (hpl:(backTo pos (starEach es X.env)).any (·.1)=false) :
  Q (PE X (.Call (.Name "max" p) (e::es) [] pos) (tE X.K W (ba gk fl))):=⟨T.cb_maxL S j hj hg hm ha.p he hpl⟩
end
end TQ
namespace T
open PySem PySem.Spec L2
open PyProof.Rows hiding St
abbrev It:=cT ⊕ List cT
section
variable {prog:Program} {w:World}
inductive Its2 (h:Heap):List It->List Value->Prop
 | nil:Its2 h [] []
 | v {k:cT} {u:Value} {ks:List It} {us:List Value}:(jE prog w).is k u=true->Its2 h ks us->Its2 h (.inl k::ks) (u::us)
 | t {l:List cT} {b:Addr} {ks:List It} {us:List Value}:IsTupleKey (jE prog w) h l b->Its2 h ks us->Its2 h (.inr l::ks) (.ref b::us)
variable (prog w)
def Is2 (h:Heap) (ks:List It) (a:Addr):Prop:=∃o items n,h.get? a=some o/\o.cls=.type "tuple"/\o.data=.seq items n/\Its2 (prog:=prog) (w:=w) h ks items.toList
variable {prog w}
theorem oP {k:cT} {b:Addr}:(jE prog w).is k (.ref b)=true->False:=fun h=>by
 rcases vP h with ⟨i,t,_,e⟩ | ⟨x,t,_,e⟩<;>cases e
theorem Its2.inj {h:Heap} {x y:List It} {us:List Value} (hx:Its2 (prog:=prog) (w:=w) h x us) (hy:Its2 (prog:=prog) (w:=w) h y us):x=y:=by
 induction hx generalizing y with
 | nil=>cases hy;rfl
 | v h1 _ ih=>
  cases hy with
  | v h2 t2=>rw [(jE prog w).inj _ _ _ h1 h2,ih t2]
  | t h2 t2=>exact (oP h1).elim
 | t h1 _ ih=>
  cases hy with
  | v h2 t2=>exact (oP h2).elim
  | t h2 t2=>rw [h1.inj h2,ih t2]
theorem Is2.typeIs {s:Shared} {ks:List It} {a:Addr} (x:Is2 prog w s.heap ks a):s.TypeIs (.ref a) "tuple":=let ⟨o,_,_,ho,hc,_⟩:=x;⟨o,ho,hc⟩
theorem Is2.inj {h:Heap} {a:Addr} {x y:List It} (hx:Is2 prog w h x a) (hy:Is2 prog w h y a):x=y:=by
 obtain ⟨o,items,n,ho,_,hd,hi⟩:=hx;obtain ⟨o',items',n',ho',_,hd',hi'⟩:=hy;obtain rfl:o=o':=Option.some.inj (ho.symm.trans ho')
 rw [hd] at hd';injection hd' with h1 _
 subst h1;exact hi.inj hi'
theorem Its2.keeps {h h':Heap} {ks:List It} {us:List Value} {d:Addr} {o:Obj} {es:Array DictEntry} {ep:Nat} (x:Its2 (prog:=prog) (w:=w) h ks us) (ho:h.get? d=some o) (hd:o.data=.dict es ep) (hs:Heap.SameBut d h h'):Its2 (prog:=prog) (w:=w) h' ks us:=by
 induction x with
 | nil=>exact .nil
 | v h1 _ ih=>exact .v h1 ih
 | t h1 _ ih=>exact .t (h1.keeps ho hd hs) ih
theorem Is2.keeps {h h':Heap} {ks:List It} {a d:Addr} {o:Obj} {es:Array DictEntry} {ep:Nat} (x:Is2 prog w h ks a) (ho:h.get? d=some o) (hd:o.data=.dict es ep) (hs:Heap.SameBut d h h'):Is2 prog w h' ks a:=by
 obtain ⟨o',items,n,ho',hc,hd',hi⟩:=x;have hne:a≠d:=by
  rintro rfl
  obtain rfl:o'=o:=Option.some.inj (ho'.symm.trans ho)
  rw [hd] at hd';exact nomatch hd'
 exact ⟨o',items,n,(hs.2 a hne).trans ho',hc,hd',hi.keeps ho hd hs⟩
def hI (w:World):It->Int
 | .inl k=>Cm w k
 | .inr l=>reduceHash (Builtin.Tuple.tupleHashOf (l.map (Cm w)))
def dI:It->Nat
 | .inl _=>1
 | .inr l=>l.length+1
def Kq (w:World) (ks:List It):Int:=reduceHash (Builtin.Tuple.tupleHashOf (ks.map (hI w)))
def Ky (ks:List It):Nat:=(ks.map dI).sum+1
variable {A:Around} {E:Value->Shared->Prop} {s:Shared}
theorem Ff {ks:List It} {a:Addr} {Q:Int->Shared->Prop} (hu:A.units+1<cLine) (hk:Is2 prog w s.heap ks a) (h:Q (Kq w ks) { s with toks:=s.toks+Ky ks }):wpAny (model prog w) A (pyHash (.ref a)) Q E s:=by
 have hT:=hk.typeIs
 obtain ⟨o,items,n,ho,_,hd,hi⟩:=hk;unfold pyHash;first | unfold pyHashByItsType | skip
 first | refine LZ (wpAny_cRoomFor_or (.inr (by omega)) ?_) | skip
 refine LZ (wpAny_specialOf hT PySem.F.slot_tuple_hash.lookup ?_)
 show wpAny _ _ (if (some (Value.builtin "tuple.__hash__")==some Value.none)=true then _ else _) Q E s
 rw [if_neg (by rw [beq_builtin_none];exact Bool.false_ne_true)]
 refine LZ (wpAny_specialOf hT PySem.F.slot_tuple_hash.lookup ?_)
 show wpAny _ _ (callSpecialIfBoundUnlessNone? (.ref a) "__hash__" _ >>= _) Q E s
 refine LZ (wpAny_callSpecialIfBoundUnlessNone?_slot hT PySem.F.slot_tuple_hash (wpAny_call_entry PySem.F.slot_tuple_hash hT PySem.F.entry_tuple_hash ?_ (PySem.F.args_tuple_hash_1 _)))
 show wpAny _ _ (Builtin.Tuple.tupleItemsOf (.ref a) >>= _) _ _ s
 refine LZ (wpAny_tupleItemsOf ho hd ?_)
 refine LZ ?_
 rw [<-Array.forIn_toList];refine wpAny_forIn_list _
  (fun rest (b:Array Int) s'=>∃done left,ks=done++left/\Its2 (prog:=prog) (w:=w) s.heap left rest/\b.toList=done.map (hI w)/\s'={ s with toks:=s.toks+(done.map dI).sum })
  _ ?_ ?_ _ _ ⟨[],ks,rfl,hi,rfl,rfl⟩
 ·rintro x rest b s' ⟨done,left,rfl,hl,hb,rfl⟩
  cases hl with
  | @v k _ ks' _ h1 hl'=>
   refine LZ ((jE prog w).pyHash h1 ?_)
   first
    | exact L0 ⟨done++[.inl k],ks',by simp,hl',by simp [hb];rfl,by simp [Nat.add_assoc,dI]⟩
    | exact LZ (L0 (L0 ⟨done++[.inl k],ks',by simp,hl',by simp [hb];rfl,by simp [Nat.add_assoc,dI]⟩))
  | @t l q ks' _ h1 hl'=>
   refine LZ (wpAny_pyHash_tuple (knd:=jE prog w) (by simp;omega) h1 ?_)
   first
    | exact L0 ⟨done++[.inr l],ks',by simp,hl',by simp [hb];rfl,by simp [Nat.add_assoc,dI]⟩
    | exact LZ (L0 (L0 ⟨done++[.inr l],ks',by simp,hl',by simp [hb];rfl,by simp [Nat.add_assoc,dI]⟩))
 ·rintro b s' ⟨done,left,rfl,hl,hb,rfl⟩
  cases hl;rw [append_nil] at h;show wpAny _ _ (retInt (Builtin.Tuple.tupleHashOf b.toList)) _ _ _
  rw [hb];refine wpAny_ret_mkInt ?_
  show wpAny _ _ (if (decide (-(2:Int) ^ 63<=Builtin.Tuple.tupleHashOf (done.map (hI w)))&&decide (Builtin.Tuple.tupleHashOf (done.map (hI w))<2 ^ 63))=true then _ else _) Q E _
  unfold Kq reduceHash Ky at h;by_cases hr:(decide (-(2:Int) ^ 63<=Builtin.Tuple.tupleHashOf (done.map (hI w)))&&decide (Builtin.Tuple.tupleHashOf (done.map (hI w))<2 ^ 63))=true
  ·rw [if_pos hr]
   rw [if_pos hr] at h;exact L0 (by simpa [Nat.add_assoc] using h)
  ·rw [if_neg hr]
   rw [if_neg hr] at h;exact LZ (wpAny_rule (L0 (by simpa [Nat.add_assoc] using h)))
def isT:It->Bool
 | .inl _=>false
 | .inr _=>true
theorem va {x y:List It} {a b:Addr} {P:Fin->Shared->Prop} (hu:A.units<cLine) (hsh:x.map isT=y.map isT) (hx:Is2 prog w s.heap x a) (hy:Is2 prog w s.heap y b) (h:P (.done (.ret (.bool (decide (x=y))))) s) :
  wpAny (model prog w) A (Builtin.«tuple.__eq__» ⟨[.ref a,.ref b],[]⟩) P E s:=by
 have hTb:=hy.typeIs
 obtain ⟨oa,xs,na,hoa,_,hda,hia⟩:=hx;obtain ⟨ob,ys,nb,hob,_,hdb,hib⟩:=hy;show wpAny _ _ (isInstance (.ref b) (.type "tuple") >>= _) _ _ s
 refine LZ (wpAny_isInstance hTb isSubtype_tuple_tuple ?_)
 simp only [Bool.not_true,Bool.false_eq_true,if_false]
 refine LZ (wpAny_tupleItemsOf hoa hda ?_)
 refine LZ (wpAny_tupleItemsOf hob hdb ?_)
 refine LZ ?_
 refine wpAny_forIn_list _
  (fun rest r s'=>r.1=none/\s'=s/\∃x' y' xs' ys',rest=List.zip xs' ys'/\x'.map isT=y'.map isT/\Its2 (prog:=prog) (w:=w) s.heap x' xs'/\Its2 (prog:=prog) (w:=w) s.heap y' ys'/\decide (x'=y')=decide (x=y)/\(xs'.length==ys'.length)=(xs.size==ys.size))
  _ ?_ ?_ _ _ ⟨rfl,rfl,x,y,xs.toList,ys.toList,rfl,hsh,hia,hib,rfl,by simp⟩
 ·rintro ⟨u,v⟩ rest r s' ⟨hr,rfl,x',y',xs',ys',hz,hsh',hx',hy',hdec,hlen⟩
  cases hx' with
  | nil=>simp at hz
  | @v k1 u' x'' xs'' h1 hx''=>
   cases hy' with
   | nil=>simp at hz
   | t h2 hy''=>simp [isT] at hsh'
   | @v k2 v' y'' ys'' h2 hy''=>
    simp only [List.zip_cons_cons,List.cons.injEq,Prod.mk.injEq] at hz
    obtain ⟨⟨rfl,rfl⟩,rfl⟩:=hz;refine LZ ((jE prog w).eqBool (a:=k1) (b:=k2) h1 h2 ?_)
    by_cases hk:k1=k2
    ·subst hk
     rw [decide_eq_true rfl];simp only [Bool.not_true,Bool.false_eq_true,if_false]
     refine L0 ⟨rfl,rfl,x'',y'',xs'',ys'',rfl,by simpa using hsh',hx'',hy'',?_,by simpa using hlen⟩
     rw [<-hdec];by_cases hxy:x''=y''
     ·simp [hxy]
     ·simp [hxy]
    ·rw [decide_eq_false hk]
     simp only [Bool.not_false,if_true]
     have hf:decide (x=y)=false:=by rw [<-hdec];simp [hk]
     rw [hf] at h;exact LZ (L0 (L0 (L0 h)))
  | @t l1 b1 x'' xs'' h1 hx''=>
   cases hy' with
   | nil=>simp at hz
   | v h2 hy''=>simp [isT] at hsh'
   | @t l2 b2 y'' ys'' h2 hy''=>
    simp only [List.zip_cons_cons,List.cons.injEq,Prod.mk.injEq] at hz
    obtain ⟨⟨rfl,rfl⟩,rfl⟩:=hz;refine LZ (wpAny_eqBool_tuple (knd:=jE prog w) hu h1 h2 ?_)
    by_cases hk:l1=l2
    ·subst hk
     rw [decide_eq_true rfl];simp only [Bool.not_true,Bool.false_eq_true,if_false]
     refine L0 ⟨rfl,rfl,x'',y'',xs'',ys'',rfl,by simpa using hsh',hx'',hy'',?_,by simpa using hlen⟩
     rw [<-hdec];by_cases hxy:x''=y''
     ·simp [hxy]
     ·simp [hxy]
    ·rw [decide_eq_false hk]
     simp only [Bool.not_false,if_true]
     have hf:decide (x=y)=false:=by rw [<-hdec];simp [hk]
     rw [hf] at h;exact LZ (L0 (L0 (L0 h)))
 ·rintro ⟨r1,r2⟩ s' ⟨hr,rfl,x',y',xs',ys',hz,hsh',hx',hy',hdec,hlen⟩
  simp only at hr
  subst hr;refine L0 ?_
  have hfin:(xs.size==ys.size)=decide (x=y):=by
   rw [<-hdec,<-hlen]
   cases hx' with
   | nil=>
    cases hy' with
    | nil=>simp
    | v _ _=>simp at hsh'
    | t _ _=>simp at hsh'
   | v _ _=>
    cases hy' with
    | nil=>simp at hsh'
    | v _ _=>simp at hz
    | t _ _=>simp at hz
   | t _ _=>
    cases hy' with
    | nil=>simp at hsh'
    | v _ _=>simp at hz
    | t _ _=>simp at hz
  show P (.done (.ret (.bool (xs.size==ys.size)))) s'
  rw [hfin];exact h
theorem Ku {x y:List It} {a b:Addr} {Q:Bool->Shared->Prop} (hu:A.units+1<cLine) (hsh:x.map isT=y.map isT) (hx:Is2 prog w s.heap x a) (hy:Is2 prog w s.heap y b) (h:Q (decide (x=y)) s) :
  wpAny (model prog w) A (eqBool (.ref a) (.ref b)) Q E s:=by
 unfold eqBool;try with_reducible refine wpAny_holding ?_
 show wpAny _ _ (if (Value.ref a==Value.ref b)=true then _ else _) Q E s
 by_cases hab:(Value.ref a==Value.ref b)=true
 ·rw [if_pos hab]
  have e:a=b:=by have:=eq_of_beq hab;injection this
  subst e;obtain rfl:=hx.inj hy
  exact LZ (wpAny_rule (L0 (by simpa using h)))
 ·rw [if_neg hab]
  exact LZ (wpAny_richCompare_same_room (op:=.Eq) hx.typeIs hy.typeIs PySem.F.slot_tuple_eq
   (wpAny_call_entry PySem.F.slot_tuple_eq hx.typeIs PySem.F.entry_tuple_eq (va (by simp;omega) hsh hx hy ⟨_,rfl,(fun e=>nomatch e),wpAny_truthy_bool h⟩) (PySem.F.args_tuple_eq_2 _ _)) (by omega))
theorem BC {n:Nat} {ks:List cT} {a:Addr} {Q:Bool->Shared->Prop} (hk:IsTupleKey (jE prog w) s.heap ks a) (h:Q true s):wpAny (model prog w) A (eqIsQuiet (n+1) (.ref a)) Q E s:=by
 have hT:=hk.typeIs
 obtain ⟨o,items,m,ho,_,hd,hi⟩:=hk;unfold eqIsQuiet;refine LZ (wpAny_specialOf hT PySem.F.slot_tuple_eq.lookup ?_)
 show wpAny _ _ (isInstance (.ref a) (.type "tuple") >>= _) _ _ s
 refine LZ (wpAny_isInstance hT isSubtype_tuple_tuple ?_)
 simp only [Bool.not_true,Bool.false_eq_true,if_false]
 refine LZ (wpAny_seqItems ho hd ?_)
 refine LZ ?_
 show wpAny _ _ (forIn items _ _) _ _ s
 rw [<-Array.forIn_toList];refine wpAny_forIn_list _ (fun rest r s'=>r.1=none/\s'=s/\∀v∈rest,carriedByValue v=true) _ ?_ ?_ _ _ ⟨rfl,rfl,hi.byValue⟩
 ·rintro v rest r s' ⟨hr,rfl,hall⟩
  rw [eqIsQuiet_byValue _ (hall v mem_cons_self)];refine LZ (L0 ?_)
  simp only [Bool.not_true,Bool.false_eq_true,if_false]
  exact L0 ⟨rfl,rfl,fun u hu'=>hall u (LW _ hu')⟩
 ·rintro ⟨r1,r2⟩ s' ⟨hr,rfl,_⟩
  simp only at hr
  subst hr;exact L0 h
theorem BB {n:Nat} {ks:List It} {a:Addr} {Q:Bool->Shared->Prop} (hk:Is2 prog w s.heap ks a) (h:Q true s):wpAny (model prog w) A (eqIsQuiet (n+2) (.ref a)) Q E s:=by
 have hT:=hk.typeIs
 obtain ⟨o,items,m,ho,_,hd,hi⟩:=hk;unfold eqIsQuiet;refine LZ (wpAny_specialOf hT PySem.F.slot_tuple_eq.lookup ?_)
 show wpAny _ _ (isInstance (.ref a) (.type "tuple") >>= _) _ _ s
 refine LZ (wpAny_isInstance hT isSubtype_tuple_tuple ?_)
 simp only [Bool.not_true,Bool.false_eq_true,if_false]
 refine LZ (wpAny_seqItems ho hd ?_)
 refine LZ ?_
 show wpAny _ _ (forIn items _ _) _ _ s
 rw [<-Array.forIn_toList];refine wpAny_forIn_list _ (fun rest r s'=>r.1=none/\s'=s/\∃ks,Its2 (prog:=prog) (w:=w) s.heap ks rest) _ ?_ ?_ _ _ ⟨rfl,rfl,ks,hi⟩
 ·rintro v rest r s' ⟨hr,rfl,ks,hall⟩
  cases hall with
  | @v k _ ks' _ h1 hl'=>
   rw [eqIsQuiet_byValue _ ((jE prog w).byValue _ _ h1)];refine LZ (L0 ?_)
   simp only [Bool.not_true,Bool.false_eq_true,if_false]
   exact L0 ⟨rfl,rfl,ks',hl'⟩
  | @t l q ks' _ h1 hl'=>
   refine LZ (BC h1 ?_)
   simp only [Bool.not_true,Bool.false_eq_true,if_false]
   exact L0 ⟨rfl,rfl,ks',hl'⟩
 ·rintro ⟨r1,r2⟩ s' ⟨hr,rfl,_⟩
  simp only at hr
  subst hr;exact L0 h
end
def iH (prog:Program) (w:World) (sh:List Bool):HeapKind prog w (List It) where
 is:=fun h ks a=>Is2 prog w h ks a/\ks.map isT=sh
 hash:=Kq w
 draws:=Ky
 room:=fun A=>A.units+1<cLine
 inj:=fun hx hy=>hx.1.inj hy.1
 keeps:=fun x ho hd hs=>⟨x.1.keeps ho hd hs,x.2⟩
 pyHash:=fun hu hk h=>Ff hu hk.1 h
 eqBool:=fun hu hx hy h=>Ku hu (hx.2.trans hy.2.symm) hx.1 hy.1 h
 quiet:=fun hk h=>BB hk.1 h
def Hw (K:Fg) (H:Hp):It->V->Prop
 | .inl k,v=>v=kV k
 | .inr l,v=>∃c,v=.ref c/\SqT K H c (l.map kV)
def K2 (K:Fg) (H:Hp) (ks:List It) (b:Addr):Prop:=∃vs,SqT K H b vs/\Paired (Hw K H) ks vs
theorem K2.mono {K:Fg} {H H':Hp} {ks:List It} {b:Addr} (k:K2 K H ks b) (m:∀c xs,SqT K H c xs->SqT K H' c xs):K2 K H' ks b:=by
 obtain ⟨vs,h,p⟩:=k;refine ⟨vs,m _ _ h,?_⟩
 clear h;induction p with
 | nil=>exact .nil
 | @cons a v l l' q _ ih=>
  refine .cons ?_ ih
  cases a with
  | inl k=>exact q
  | inr l=>obtain ⟨c,e,h⟩:=q;exact ⟨c,e,m _ _ h⟩
theorem wI {X:Cx} {pins:List (Addr×Obj)} {σ:St} {H:Hp} {s:Shared} {l:List cT} {c:Addr} (I:L2.Inv X pins σ H s) (h:SqT X.K H c (l.map kV)):IsTupleKey (jE X.prog X.w) s.heap l c:=by
 obtain ⟨its,r,⟨o,h1,h2,n,h3⟩,_⟩:=I.tuple h;exact ⟨o,its.toArray,n,h1,h2,h3,by simpa using iK r⟩
theorem F7 {X:Cx} {pins:List (Addr×Obj)} {σ:St} {H:Hp} {s:Shared} {ks:List It} {b:Addr} (I:L2.Inv X pins σ H s) (k:K2 X.K H ks b):Is2 X.prog X.w s.heap ks b:=by
 obtain ⟨vs,h,p⟩:=k;obtain ⟨its,r,⟨o,h1,h2,n,h3⟩,_⟩:=I.tuple h;refine ⟨o,its.toArray,n,h1,h2,h3,?_⟩
 show Its2 s.heap ks its.toArray.toList
 rw [List.toList_toArray];have key:∀{ks:List It} {vs:List V} {us:List Value},Paired (Hw X.K H) ks vs->Vals vs us->Its2 (prog:=X.prog) (w:=X.w) s.heap ks us:=by
  intro ks vs us p;induction p generalizing us with
  | nil=>intro r;cases r;exact .nil
  | @cons a v l l' q _ ih=>
   intro r
   cases r with
   | cons rv r=>
    cases a with
    | inl k=>
     cases (show v=kV k from q)
     exact .v (zI rv) (ih r)
    | inr m=>
     obtain ⟨c,e,hc⟩:=q;subst e;rename_i u _
     cases (show u=Value.ref c from rv)
     exact .t (wI I hc) (ih r)
 exact key p r
def B7 (P:Program) (w:World) (sh:List Bool) (a:Addr) (xs:List (List It×Addr×Value)):HO:=.ext fun h=>∃o es ep,h.get? a=some o/\o.ExactDict/\o.data=.dict es ep/\es.toList=xs.map (entryOfKey (iH P w sh))
abbrev KX (K:Fg) (H:Hp) (sh:List Bool):List (List It×V)->List (List It×Addr×Value)->Prop:=Paired fun p q=>p.1=q.1/\p.1.map isT=sh/\K2 K H p.1 q.2.1/\RelV p.2 q.2.2
def D2 (P:Program) (w:World) (K:Fg) (H:Hp) (sh:List Bool) (a:Addr) (kvs:List (List It×V)):Prop:=
 ∃xs,H a=some (B7 P w sh a xs)/\KX K H sh kvs xs/\(xs.map (·.1)).Nodup/\xs.length<=1000/\(a==sysModules)=false
theorem KX.mono {K:Fg} {H H':Hp} {sh:List Bool} {kvs:List (List It×V)} {xs:List (List It×Addr×Value)} (k:KX K H sh kvs xs) (m:∀c xs,SqT K H c xs->SqT K H' c xs):KX K H' sh kvs xs:=by
 induction k with
 | nil=>exact .nil
 | cons q _ ih=>exact .cons ⟨q.1,q.2.1,q.2.2.1.mono m,q.2.2.2⟩ ih
theorem KX.val {K:Fg} {H:Hp} {sh:List Bool} {kvs:List (List It×V)} {xs:List (List It×Addr×Value)} (r:KX K H sh kvs xs) (k:List It):RelO (fh kvs k) ((atKey xs k).map (·.2)):=by
 induction r with
 | nil=>exact trivial
 | @cons p q l l' h _ ih=>
  by_cases e:p.1=k
  ·rw [jP e]
   have:atKey (q::l') k=some q.2:=by simp [atKey,find?_cons,<-h.1,e]
   rw [this];exact h.2.2.2
  ·rw [Jh e]
   have:atKey (q::l') k=atKey l' k:=by
    have e':¬q.1=k:=fun z=>e (h.1.trans z)
    simp [atKey,find?_cons,e']
   rw [this];exact ih
theorem KX.len {K:Fg} {H:Hp} {sh:List Bool} {kvs:List (List It×V)} {xs:List (List It×Addr×Value)} (r:KX K H sh kvs xs):kvs.length=xs.length:=Paired.length r
theorem Gm {X:Cx} {pins:List (Addr×Obj)} {σ:St} {H:Hp} {s:Shared} {sh:List Bool} {a:Addr} {kvs:List (List It×V)} {xs:List (List It×Addr×Value)} (I:L2.Inv X pins σ H s) (e:H a=some (B7 X.prog X.w sh a xs)) (r:KX X.K H sh kvs xs) (nd:(xs.map (·.1)).Nodup):s.heap.DictOfH (iH X.prog X.w sh) a xs:=by
 obtain ⟨⟨o,es,ep,h1,h2,h3,h4⟩,_⟩:=(show ObjOk X.prog X.w H s.heap a (B7 X.prog X.w sh a xs) from I.hok a _ e);refine ⟨o,es,ep,h1,h2,h3,h4,fun x hx=>?_,nd⟩
 have all:∀{l:List (List It×V)} {m:List (List It×Addr×Value)},KX X.K H sh l m->∀x∈m,(iH X.prog X.w sh).is s.heap x.1 x.2.1:=by
  intro l m q;induction q with
  | nil=>intro x hx;exact nomatch hx
  | @cons p q ps qs hq t ih=>
   intro x hx;rcases LQ hx with e | hx
   ·subst e
    exact ⟨by rw [<-hq.1];exact F7 I hq.2.2.1,by rw [<-hq.1];exact hq.2.1⟩
   ·exact ih x hx
 exact all r x hx
theorem sW {P:Program} {w:World} {sh:List Bool} {A:Around} (hu:A.units+2<cLine):(iH P w sh).room A.in1:=by
 show A.in1.units+1<cLine
 simp
 omega
section
variable {prog:Program} {w:World} {K:Type} [DecidableEq K] {knd:HeapKind prog w K} {A:Around} {E:Value->Shared->Prop} {s:Shared}
theorem uJ {d:Addr} {xs:List (K×Addr×Value)} {Q:Value->Shared->Prop} (hd:(d==sysModules)=false) (hm:s.heap.DictOfH knd d xs) (hfit:(xs.length:Int)<2 ^ 63)
  (h:Q (.int xs.length (s.toks+1)) { s with toks:=s.toks+1+1 }):wpAny (model prog w) A (call (.builtin "len") [.ref d]) Q E s:=by
 refine Calls.call_function_entry kind_len plain_len entry_len (args_len1 _) ?_
 have hm':=hm
 obtain ⟨o,es,ep,ho,hc,hdat,hk,hp,hn⟩:=hm'
 have hz:es.size=xs.length:=size_of_entries hk
 unfold Builtin.«len»
 refine LZ (m:=oneArg "len" _) (L0 ?_)
 refine LZ (m:=callSpecial? (.ref d) (Str.ofString "__len__")) (wpAny_callSpecial?_slot (name:=Str.ofString "__len__") hm.typeIs PySem.F.slot_dict_len
  (wpAny_call_entry PySem.F.slot_dict_len hm.typeIs PySem.F.entry_dict_len ?_ (PySem.F.args_dict_len_1 _)))
 show wpAny _ _ (dictSize d >>= _) _ _ s
 unfold dictSize;refine LZ (LZ (wpAny_dictEntries ho hdat (L0 ?_)))
 show wpAny _ _ (Builtin.Dict.pendingCount d >>= _) _ _ s
 refine LZ (wpAny_pendingCount_other hd ?_)
 refine wpAny_ret_mkInt ?_
 rw [show ((es.size:Int)+((0:Nat):Int))=(xs.length:Int) by rw [hz];simp]
 show wpAny _ _ _ _ _ { s with toks:=s.toks+1 }
 refine LZ (wpAny_holding (L0 ?_))
 refine LZ (wpAny_letGo ?_)
 show wpAny _ _ (if ((xs.length:Nat):Int)<0 then _ else _) _ _ _
 rw [if_neg (by omega)]
 show wpAny _ _ (if ((xs.length:Nat):Int)≥2 ^ 63 then _ else _) _ _ _
 rw [if_neg (by omega)]
 exact LZ (wpAny_mkInt (L0 ⟨_,rfl,h⟩))
end
def FW (P:Program) (w:World) (K:Fg) (td ty:TE):TE:=fun σ H Q=>td σ H fun x H1=>ty σ H1 fun y H2=>∃a b sh kvs ks v,x=.ref a/\y=.ref b/\D2 P w K H2 sh a kvs/\K2 K H2 ks b/\ks.map isT=sh/\fh kvs ks=some v/\Q v H2
def jY (P:Program) (w:World) (K:Fg) (ty td:TE):TE:=fun σ H Q=>ty σ H fun y H1=>td σ H1 fun x H2=>∃a b sh kvs ks,x=.ref a/\y=.ref b/\D2 P w K H2 sh a kvs/\K2 K H2 ks b/\ks.map isT=sh/\Q (.bl (!(fh kvs ks).isSome)) H2
def sU (P:Program) (w:World) (K:Fg) (td ty tv:TE):TS:=fun D σ H=>tv σ H fun v H1=>td σ H1 fun x H2=>ty σ H2 fun y H3=>∃a b sh kvs ks,x=.ref a/\y=.ref b/\D2 P w K H3 sh a kvs/\K2 K H3 ks b/\ks.map isT=sh/\kvs.length<1000/\fh kvs ks=none /\
 ∀ob,D2 P w K (bb H3 a ob) sh a (kvs++[(ks,v)])->D.nx σ (bb H3 a ob)
def sD (P:Program) (w:World) (K:Fg) (sh:List Bool):TE:=fun _ H Q=>∀p ob,H p=none->D2 P w K (bb H p ob) sh p []->Q (.ref p) (bb H p ob)
def tO (P:Program) (w:World) (K:Fg):List V->Hp->VK->Prop:=fun xs H Q=>∃a sh kvs,xs=[.ref a]/\D2 P w K H sh a kvs/\Q (.int (kvs.length:Int)) H
theorem uq {P:Program} {w:World} {H:Hp} {h:Heap} {sh:List Bool} {a:Addr} {xs:List (List It×Addr×Value)} (x:∃o es ep,h.get? a=some o/\o.ExactDict/\o.data=.dict es ep/\es.toList=xs.map (entryOfKey (iH P w sh))):ObjOk P w H h a (B7 P w sh a xs):=by
 refine ⟨x,let ⟨o,_,_,ho,_⟩:=x;⟨o,ho⟩,fun h1 h2 ⟨o,es,ep,ho,r⟩ k=>⟨o,es,ep,k o ho,r⟩⟩
section
variable {X:Cx} {o i e value:Expr} {pos pos' tpos:Pos} {td ty tv:TE}
theorem ug (hu:X.A.units+2<cLine) (ho:PE X o td) (hi:PE X i ty) (hs:FJ i):PE X (.Subscript o i pos) (FW X.prog X.w X.K td ty):=by
 intro pins s σ H Q I h;refine wN PySem.F.slot_dict_getitem.lookup hs (bc (ho pins s σ H _ I h) fun u s1 ⟨x,H1,I1,rx,q1⟩=>bc (hi pins s1 σ H1 _ I1 q1) fun iv s2 ⟨y,H2,I2,ry,a,b,sh,kvs,ks,v,ex,ey,⟨xs,e,r,nd,hz,hd⟩,k,hsh,hv,q2⟩=>?_)
 subst ex ey;obtain rfl:u=Value.ref a:=rx
 obtain rfl:iv=Value.ref b:=ry
 have dd:=Gm I2 e r nd
 refine ⟨dd.typeIs,?_⟩
 obtain ⟨w',hw,rw'⟩:=RelO.some_of (v:=v) (o:=(atKey xs ks).map (·.2)) (by rw [<-hv];exact r.val ks)
 obtain ⟨p,hp,hp2⟩:=Option.map_eq_some_iff.mp hw;refine wpAny_getItem_heap (sW hu) ⟨F7 I2 k,hsh⟩ dd hp ?_
 rw [hp2];exact ⟨v,H2,I2.tok _,rw',q2⟩
theorem mE (hu:X.A.units+2<cLine) (hi:PE X i ty) (ho:PE X o td):PC X .NotIn i o (jY X.prog X.w X.K ty td):=by
 intro pins s σ H Q I h;refine bc (hi pins s σ H _ I h) fun iv s1 ⟨y,H1,I1,ry,q1⟩=>bc (ho pins s1 σ H1 _ I1 q1) fun u s2 ⟨x,H2,I2,rx,a,b,sh,kvs,ks,ex,ey,⟨xs,e,r,nd,hz,hd⟩,k,hsh,q2⟩=>?_
 subst ex ey;obtain rfl:u=Value.ref a:=rx
 obtain rfl:iv=Value.ref b:=ry
 have dd:=Gm I2 e r nd
 refine wpAny_notIn_heap (sW hu) ⟨F7 I2 k,hsh⟩ hd dd ?_
 have q:=(r.val ks).isSome_eq
 rw [Option.isSome_map] at q;rw [<-q];exact ⟨.bl (!(fh kvs ks).isSome),H2,I2.tok _,rfl,q2⟩
theorem tV (hu:X.A.units+2<cLine) (ho:PE X o td) (hi:PE X i ty) (hv:PE X value tv) (hs:swapsWith value (some (.Subscript o i pos')) pos.line X.env=pure false) :
  PS X (.Assign [.Subscript o i pos'] value pos) (sU X.prog X.w X.K td ty tv):=by
 intro pins s σ H D I h;refine wpAny_Assign_Subscript (bc (hv pins s σ H _ I h) fun r s1 ⟨v,H1,I1,rv,q1⟩=>bc (ho pins s1 σ H1 _ I1 q1) fun u s2 ⟨x,H2,I2,rx,q2⟩=>bc (hi pins s2 σ H2 _ I2 q2) fun iv s3 ⟨y,H3,I3,ry,a,b,sh,kvs,ks,ex,ey,⟨xs,e,rr,nd,hz,hd⟩,k,hsh,hl,hn,q3⟩=>?_) hs
 subst ex ey;obtain rfl:u=Value.ref a:=rx
 obtain rfl:iv=Value.ref b:=ry
 have dd:=Gm I3 e rr nd
 have hb:(1000:Nat)<=sizeLine:=by decide
 have hat:atKey xs ks=none:=by
  have q:=(rr.val ks).isSome_eq
  rw [hn,Option.isSome_map] at q
  cases z:atKey xs ks with
  | none=>rfl
  | some _=>rw [z] at q;cases q
 refine wpAny_setItem_heap (hsz:=by omega) (sW hu) ⟨F7 I3 k,hsh⟩ dd fun h' dd' hs'=>?_
 rw [storedH_new hat] at dd';obtain ⟨q,es,ep,hq,h2,h3,h4,_,h5⟩:=dd'
 have m:∀c ys,SqT X.K H3 c ys->SqT X.K (bb H3 a (B7 X.prog X.w sh a (xs++[(ks,b,r)]))) c ys:=fun c ys hc=>by
  rcases hc with hc | hc
  ·left
   rcases hc with hc | ⟨o',hc⟩
   ·exact .inl (by rw [cw (fun z=>by subst z;rw [e] at hc;cases hc)];exact hc)
   ·exact .inr ⟨o',by rw [cw (fun z=>by subst z;rw [e] at hc;cases hc)];exact hc⟩
  ·exact .inr hc
 have I4:=yG (t':=s3.toks+(iH X.prog X.w sh).draws ks) (ob:=B7 X.prog X.w sh a (xs++[(ks,b,r)])) I3 (by rw [e];exact True.intro) hs' ⟨q,hq⟩ (uq ⟨q,es,ep,hq,h2,h3,h4⟩)
 refine ⟨σ,_,I4,q3 _ ⟨xs++[(ks,b,r)],dA,?_,h5,?_,hd⟩⟩
 ·exact Paired.snoc (rr.mono m) ⟨rfl,hsh,k.mono m,rv⟩
 ·rw [length_append,length_singleton,<-rr.len]
  omega
theorem uf (sh:List Bool):PE X (.Dict [] [] pos) (sD X.prog X.w X.K sh):=fun pins s σ H Q I h=>by
 have hp:=I.hok.fresh (L3 s.heap.objs.size)
 refine wpAny_Dict_empty ⟨.ref s.heap.objs.size,_,I.laid (a:=s.heap.objs.size) (o:=B7 X.prog X.w sh s.heap.objs.size []) (t':=s.toks) (fun _ _ q=>L1 _ q) (L3 _) (uq ⟨_,#[],0,Heap.get?_push_size _ rfl,⟨rfl,rfl,rfl⟩,rfl,rfl⟩),rfl,h _ _ hp ⟨[],dA,.nil,nodup_nil,by simp,beq_eq_false_iff_ne.mpr (Ne.symm (Nat.ne_of_lt I.big))⟩⟩
theorem nj:CallR X (.builtin "len") (tO X.prog X.w X.K):=by
 intro pins s σ H xs us Q I rv h;obtain ⟨a,sh,kvs,rfl,⟨xs,e,r,nd,hz,hd⟩,q⟩:=h;obtain ⟨u,rfl,ru⟩:=rv.one
 cases ru;have dd:=Gm I e r nd
 refine uJ hd dd (by omega) ?_
 rw [<-r.len];exact ⟨.int (kvs.length:Int),H,I.tok _,⟨_,rfl⟩,q⟩
end
def cI:L4->Option cT
 | .int n=>some (.inl n)
 | .str x=>some (.inr x)
 | _=>none
def y7:List L4->Option (List cT)
 | []=>some []
 | d::r=>match cI d,y7 r with
  | some k,some ks=>some (k::ks)
  | _,_=>none
def fM:L4->Option It
 | .tuple ds=>(y7 ds).map .inr
 | d=>(cI d).map .inl
def fL:List L4->Option (List It)
 | []=>some []
 | d::r=>match fM d,fL r with
  | some k,some ks=>some (k::ks)
  | _,_=>none
def wH:L4->Option (List It)
 | .tuple ds=>fL ds
 | _=>none
def jU:List L4->Option (List (List It))
 | []=>some []
 | d::r=>match wH d,jU r with
  | some k,some ks=>some (k::ks)
  | _,_=>none
def Cb (k:List It) (acc:List (List It)):Bool:=acc.any fun a=>decide (a=k)
theorem memB_iff {k:List It} {acc:List (List It)}:Cb k acc=true↔k∈acc:=by
 unfold Cb;rw [any_eq_true];exact ⟨fun ⟨x,h,e⟩=>by rw [<-of_decide_eq_true e];exact h,fun h=>⟨k,h,decide_eq_true rfl⟩⟩
def de (acc:List (List It)) (k:List It):List (List It):=if Cb k acc then acc else acc++[k]
def cC (ks:List (List It)):List (List It):=ks.foldl de []
def fu (k:List It):List (List It)->Nat
 | []=>0
 | a::r=>if a=k then 0 else fu k r+1
def cH (ks:List (List It)):List Int:=ks.map fun k=>(fu k (cC ks):Int)
def AR (ks:List (List It)):Bool:=ks.all fun k=>decide (k.map isT=(ks.headD []).map isT)
def rP:List L4->Res
 | [.list ds]=>match jU ds with
  | some ks=>if ks.length<=900/\AR ks=true then .ok ⟨.lst .leaf,.list ((cH ks).map .int)⟩ else .no
  | none=>.no
 | _=>.no
theorem D1 {ks:List (List It)} {i:Nat} (h:i<ks.length):cC (ks.take (i+1))=de (cC (ks.take i)) ks[i]:=by
 unfold cC;rw [List.take_succ,LR h,List.foldl_append];rfl
theorem HV {ks:List (List It)}:∀i,i<=ks.length->(cC (ks.take i)).length<=i
 | 0,_=>by simp [cC]
 | i+1,h=>by
  have:=HV (ks:=ks) i (by omega)
  rw [D1 (by omega)]
  unfold de;split
  ·omega
  ·rw [length_append,length_singleton];omega
theorem qx {acc:List (List It)} {k x:List It}:x∈de acc k↔x∈acc\/x=k:=by
 unfold de;split
 ·rename_i h
  exact ⟨.inl,fun z=>z.elim id fun e=>by rw [e];exact memB_iff.mp h⟩
 ·simp
theorem kG:∀{ks acc:List (List It)} {x:List It},x∈ks.foldl de acc↔x∈acc\/x∈ks
 | [],acc,x=>by simp
 | k::ks,acc,x=>by
  rw [foldl_cons,kG,qx,mem_cons,or_assoc]
theorem mem_dst {ks:List (List It)} {x:List It}:x∈cC ks↔x∈ks:=by
 unfold cC;rw [kG];simp
def kI:Nat->List (List It)->List (List It×V)
 | _,[]=>[]
 | i,k::r=>(k,.int (i:Int))::kI (i+1) r
theorem HZ:∀{l:List (List It)} {i:Nat},(kI i l).length=l.length
 | [],_=>rfl
 | _::l,i=>by rw [kI,length_cons,HZ,length_cons]
theorem kH:∀{l:List (List It)} {i:Nat} {k:List It},kI i (l++[k])=kI i l++[(k,.int ((i+l.length:Nat):Int))]
 | [],i,k=>by simp [kI]
 | a::l,i,k=>by
  rw [cons_append,kI,kH,kI,cons_append,length_cons,show i+1+l.length=i+(l.length+1) by omega]
theorem HQ:∀{l:List (List It)} {i:Nat} {k:List It},k∈l->fh (kI i l) k=some (.int ((i+fu k l:Nat):Int))
 | a::l,i,k,h=>by
  by_cases e:a=k
  ·subst e
   rw [kI,jP rfl,fu,if_pos rfl];rfl
  ·rw [kI,Jh e,fu,if_neg e,HQ ((LQ h).resolve_left (Ne.symm e)),show i+1+fu k l=i+(fu k l+1) by omega]
theorem H0:∀{l:List (List It)} {i:Nat} {k:List It},k∉l->fh (kI i l) k=none
 | [],_,_,_=>rfl
 | a::l,i,k,h=>by
  have e:¬a=k:=fun e=>h (by rw [e];exact mem_cons_self)
  rw [kI,Jh e,H0 fun z=>h (LW _ z)]
section
variable {K:Fg} {H:Hp}
theorem xb {v:V} {d:L4} {k:cT} (r:Rep K H v d) (e:cI d=some k):v=kV k:=by
 cases r<;>simp only [cI] at e<;>cases e<;>rfl
theorem iF:∀{vs:List V} {ds:List L4} {ks:List cT},vs.length=ds.length->(∀(i:Nat) v d,vs[i]?=some v->ds[i]?=some d->Rep K H v d)->y7 ds=some ks->vs=ks.map kV
 | [],[],ks,_,_,e=>by cases e;rfl
 | v::vs,d::ds,ks,hl,hr,e=>by
  unfold y7 at e;split at e
  ·rename_i k ks' e1 e2
   cases e;have h1:=xb (hr 0 v d rfl rfl) e1
   have h2:vs=ks'.map kV:=iF (by simpa using hl) (fun i v d a b=>hr (i+1) v d (by simpa using a) (by simpa using b)) e2
   rw [h1,h2];rfl
  ·cases e
 | [],_::_,_,hl,_,_=>by simp at hl
 | _::_,[],_,hl,_,_=>by simp at hl
theorem AY {v:V} {d:L4} {k:It} (r:Rep K H v d) (e:fM d=some k):Hw K H k v:=by
 cases r with
 | tup h hl hr=>
  simp only [fM] at e
  obtain ⟨l,hl',rfl⟩:=Option.map_eq_some_iff.mp e;exact ⟨_,rfl,by rw [<-iF hl hr hl'];exact h⟩
 | int i=>simp only [fM,cI] at e;cases e;rfl
 | str x=>simp only [fM,cI] at e;cases e;rfl
 | lst _ _ _=>simp only [fM,cI] at e;cases e
 | non=>simp only [fM,cI] at e;cases e
 | bl b=>simp only [fM,cI] at e;cases e
theorem kg:∀{vs:List V} {ds:List L4} {ks:List It},vs.length=ds.length->(∀(i:Nat) v d,vs[i]?=some v->ds[i]?=some d->Rep K H v d)->fL ds=some ks->Paired (Hw K H) ks vs
 | [],[],ks,_,_,e=>by cases e;exact .nil
 | v::vs,d::ds,ks,hl,hr,e=>by
  unfold fL at e;split at e
  ·rename_i k ks' e1 e2
   cases e;exact .cons (AY (hr 0 v d rfl rfl) e1) (kg (by simpa using hl) (fun i v d a b=>hr (i+1) v d (by simpa using a) (by simpa using b)) e2)
  ·cases e
 | [],_::_,_,hl,_,_=>by simp at hl
 | _::_,[],_,hl,_,_=>by simp at hl
theorem AZ {v:V} {d:L4} {k:List It} (r:Rep K H v d) (e:wH d=some k):∃b,v=.ref b/\K2 K H k b:=by
 cases r with
 | @tup p vs ds h hl hr=>exact ⟨p,rfl,vs,h,kg hl hr e⟩
 | _=>cases e
theorem nS:∀{ds:List L4} {ks:List (List It)},jU ds=some ks->ks.length=ds.length/\∀(i:Nat) d,ds[i]?=some d->∃k,ks[i]?=some k/\wH d=some k
 | [],ks,e=>by cases e;exact ⟨rfl,fun i d h=>by simp at h⟩
 | d::ds,ks,e=>by
  unfold jU at e;split at e
  ·rename_i k ks' e1 e2
   cases e;obtain ⟨a,b⟩:=nS e2;refine ⟨by simp [a],fun i d' h=>?_⟩
   cases i with
   | zero=>cases h;exact ⟨k,rfl,e1⟩
   | succ i=>exact b i d' (by simpa using h)
  ·cases e
theorem wR {a c:Addr} {o o':HO} {xs:List V} (e:H a=some o) (h1:∀xs,o≠.tup xs) (h2:∀b xs,o≠.frz b (.tup xs)) (h:SqT K H c xs):SqT K (bb H a o') c xs:=by
 rcases h with h | h
 ·left
  rcases h with h | ⟨b,h⟩
  ·exact .inl (by rw [cw (fun z=>by subst z;rw [e] at h;exact h1 xs (Option.some.inj h))];exact h)
  ·exact .inr ⟨b,by rw [cw (fun z=>by subst z;rw [e] at h;exact h2 b xs (Option.some.inj h))];exact h⟩
 ·exact .inr h
theorem D2.mono {P:Program} {w:World} {H':Hp} {sh:List Bool} {a:Addr} {kvs:List (List It×V)} (x:D2 P w K H sh a kvs) (e:H' a=H a) (m:∀c xs,SqT K H c xs->SqT K H' c xs):D2 P w K H' sh a kvs:=by
 obtain ⟨xs,h1,h2,h3⟩:=x;exact ⟨xs,e.trans h1,h2.mono m,h3⟩
end
abbrev bO:List Str:=["keys", "numbers", "key"]
abbrev eZ:List Str:=["len"]
def KW (P:Program) (w:World) (K:Fg):TS:=AK (tB (jY P w K (bI 2) (bI 1))) (sU P w K (bI 1) (bI 2) (AL (tO P w K) (iy (bI 1) sA))) sC
def AH (P:Program) (w:World) (K:Fg) (sh:List Bool):TS:=
 wJ (jZ (sD P w K sh) (bJ 1)) (wJ (wL (iM K (bI 0)) (bJ 2) (KW P w K)) (AG (ez [2] (iM K (bI 0)) (bJ 2) jW (FW P w K (bI 1) (bI 2)))))
theorem Fb {A B:Bool->Hp->Prop} {H:Hp} {σ:St} (h:A true H):jW σ H fun b H=>if b=true then A b H else B b H:=by
 show (if true=true then A true H else B true H)
 rw [if_pos rfl];exact h
theorem Bb {P:Program} {w:World} {K:Fg} {H:Hp} {O:List Addr} {vs:List V} {ds:List L4} {ks:List (List It)} {sh:List Bool} {Q:VK} {Qn:St->Hp->Prop} (nd:O.Nodup) (inH:∀a∈O,H a≠none) (rs:Reps K (bt H O) vs [.list ds])
  (hk:jU ds=some ks) (hn:ks.length<=900) (hsh:∀k∈ks,k.map isT=sh)
  (q:∀v H' G,RetOk K H O ⟨.lst .leaf,.list ((cH ks).map .int)⟩ v H' G->Q v H'):AH P w K sh { nx:=Qn,rt:=Q } (L2.start bO vs) H:=by
 have hvl:vs.length=1:=rs.1
 match vs,hvl,rs with
 | [v0],_,rs=>
 have r0:=rs.2 0 v0 (.list ds) rfl rfl
 cases r0 with
 | @lst p ws _ hq hl hr=>
 obtain ⟨kl,kat⟩:=nS hk;have hb:(1000:Nat)<=sizeLine:=by decide
 have hs0:Same (bt H O) H:=hid_le
 intro d ob hd dd;have sHd:Same H (bb H d ob):=fD hd
 have hbd:bt H O d=none:=by unfold bt;split<;>first | rfl | exact hd
 refine ⟨.ref p,rfl,p,rfl,⟨ws,(hs0.trans sHd).seq hq⟩,fun k m σ' H'=>m=ws.length-k/\k<=ws.length/\(∃x2,σ'=[some (.ref p),some (.ref d),x2])/\D2 P w K H' sh d (kI 0 (cC (ks.take k)))/\Same H H',⟨ws.length,by simp,Nat.zero_le _,⟨none,rfl⟩,by simpa [cC,kI] using dd,sHd⟩,?_⟩
 have keyAt:∀(k:Nat),k<ws.length->∀H',Same H H'->∃x b,ws[k]?=some (.ref b)/\ks[k]?=some x/\K2 K H' x b/\x.map isT=sh:=fun k hk' H' sH=>by
  have hkd:k<ds.length:=by omega
  obtain ⟨x,e1,e2⟩:=kat k ds[k] (LR hkd)
  obtain ⟨b,e3,e4⟩:=AZ (hr k ws[k] ds[k] (LR hk') (LR hkd)) e2
  exact ⟨x,b,by rw [LR hk',e3],e1,e4.mono fun c xs h=>cP (hs0.trans sH) h,hsh x (mem_of_getElem? e1)⟩
 rintro k m σ' H' ⟨rfl,hk',⟨x2,rfl⟩,hD,sH⟩
 have hP:SqL K H' p ws:=(hs0.trans sH).seq hq
 by_cases hlt:k<ws.length
 case pos=>
  right
  obtain ⟨x,b,e1,e2,e3,e4⟩:=keyAt k hlt H' sH
  have hkk:k<ks.length:=by omega
  have ex:ks[k]=x:=by rw [LR hkk] at e2;exact Option.some.inj e2
  refine ⟨⟨ws,_,hP,e1⟩,fun σ2 H2=>(∃x2,σ2=[some (.ref p),some (.ref d),x2])/\D2 P w K H2 sh d (kI 0 (cC (ks.take (k+1))))/\Same H H2,fun σ2 H2 q2=>⟨ws.length-(k+1),by omega,rfl,hlt,q2⟩,?_⟩
  rintro v H2 ⟨rfl,hv⟩
  have ev:v=.ref b:=Option.some.inj ((hv ws hP).symm.trans e1)
  subst ev;rw [D1 hkk,ex];show KW P w K _ [some (.ref p),some (.ref d),some (.ref b)] H2
  refine ⟨.ref b,rfl,.ref d,rfl,d,b,sh,_,x,rfl,rfl,hD,e3,e4,_,rfl,?_⟩
  by_cases hm:x∈cC (ks.take k)
  ·rw [HQ hm]
   refine jm ⟨⟨_,rfl⟩,?_,sH⟩
   unfold de;rw [if_pos (memB_iff.mpr hm)];exact hD
  ·rw [H0 hm]
   have hln:=HV (ks:=ks) k (by omega)
   refine jl ⟨.ref d,rfl,d,sh,_,rfl,hD,.ref d,rfl,.ref b,rfl,d,b,sh,_,x,rfl,rfl,hD,e3,e4,by rw [HZ];omega,H0 hm,fun ob' hD'=>⟨⟨_,rfl⟩,?_,fun c o hc=>?_⟩⟩
   ·unfold de
    rw [if_neg (fun z=>hm (memB_iff.mp z)),kH]
    rw [HZ] at hD';simpa using hD'
   ·rw [cw (fun z=>by subst z;rw [hd] at hc;cases hc)]
    exact sH c o hc
 case neg=>
  left
  refine ⟨⟨ws,hP,by omega⟩,?_⟩
  have hke:ks.take k=ks:=take_of_length_le (by omega)
  rw [hke] at hD;show ez [2] (iM K (bI 0)) (bJ 2) jW (FW P w K (bI 1) (bI 2)) [some (.ref p),some (.ref d),x2] H' Q
  refine ⟨.ref p,rfl,p,rfl,⟨ws,hP⟩,fun L hL=>?_⟩
  have hbl:aX [2] [some (.ref p),some (.ref d),x2]=[some (.ref p),some (.ref d),none]:=by simp [aX]
  have hdL:d≠L:=fun z=>by
   subst z;obtain ⟨_,e,_⟩:=hD;rw [e] at hL
   cases hL
  have HL:H L=none:=sH.free hL
  refine ⟨fun i m ys H2=>m=ws.length-i/\i<=ws.length/\ys=((cH ks).take i).map V.int/\H2 L=some (.lst ys)/\D2 P w K H2 sh d (kI 0 (cC ks))/\Same H H2,⟨ws.length,by simp,Nat.zero_le _,by simp,dA,hD.mono (cw hdL) fun c xs h=>cP (fD hL) h,sH.trans (fD hL)⟩,?_⟩
  rintro i m ys H2 ⟨rfl,hi,rfl,hLs,hD2,sH2⟩
  refine ⟨hLs,?_⟩
  have hP2:SqL K H2 p ws:=(hs0.trans sH2).seq hq
  have nl:(cH ks).length=ws.length:=by unfold cH;rw [length_map];omega
  by_cases hlt2:i<ws.length
  case neg=>
   left
   refine ⟨⟨ws,hP2,by omega⟩,q _ _ [L] ⟨sH2,fun a ha=>by rw [List.mem_singleton.mp ha];exact HL,fun a ha=>by rw [List.mem_singleton.mp ha,hLs];exact Option.some_ne_none _,by simp,?_,rfl⟩⟩
   have ht:(cH ks).take i=cH ks:=take_of_length_le (by omega)
   rw [ht] at hLs;refine Own.mkLeaves hLs (by simp) fun j u d' h1 h2=>?_
   rw [getElem?_map] at h1 h2
   cases e3:(cH ks)[j]? with
   | none=>rw [e3] at h1;cases h1
   | some z=>
    rw [e3] at h1 h2
    cases h1
    cases h2;exact .int z
  case pos=>
   right
   obtain ⟨x,b,e1,e2,e3,e4⟩:=keyAt i hlt2 H2 sH2;refine ⟨⟨ws,_,hP2,e1⟩,by rw [length_map,length_take];omega,?_⟩
   rintro v H3 ⟨rfl,hv⟩
   have ev:v=.ref b:=Option.some.inj ((hv ws hP2).symm.trans e1)
   subst ev;rw [hbl];show KJ [some (.ref p),some (.ref d),none] [some (.ref p),some (.ref d),some (.ref b)]/\_
   refine ⟨⟨rfl,fun j u h=>?_⟩,?_⟩
   ·match j,h with
    | 0,h=>exact h
    | 1,h=>exact h
    | 2,h=>cases h
    | j+3,h=>cases h
   refine Fb ?_
   have hm:x∈cC ks:=mem_dst.mpr (mem_of_getElem? e2)
   refine ⟨.ref d,rfl,.ref b,rfl,d,b,sh,_,x,_,rfl,rfl,hD2,e3,e4,HQ hm,hLs,ws.length-(i+1),by omega,rfl,hlt2,?_,dA,hD2.mono (cw hdL) fun c xs h=>wR hLs (fun xs z=>by cases z) (fun b xs z=>by cases z) h,fun c o hc=>?_⟩
   ·rw [List.take_succ,map_append]
    have:(cH ks)[i]?=some ((fu x (cC ks):Nat):Int):=by unfold cH;rw [getElem?_map,e2];rfl
    rw [this];simp
   ·rw [cw (fun z=>by subst z;rw [HL] at hc;cases hc)]
    exact sH2 c o hc
theorem gY {ds:List L4} {p:PV} (h:rP ds=.ok p):∃xs ks,ds=[.list xs]/\jU xs=some ks/\ks.length<=900/\AR ks=true/\p=⟨.lst .leaf,.list ((cH ks).map .int)⟩:=by
 unfold rP at h;split at h
 ·rename_i xs
  split at h
  ·rename_i ks e
   split at h
   ·rename_i c
    cases h;exact ⟨xs,ks,rfl,e,c.1,c.2,rfl⟩
   ·cases h
  ·cases h
 ·cases h
theorem B6 {P:Program} {w:World} {K:Fg} {mg:Str->Option Value} {base:Heap} {f:Addr} {fd:FuncData} {k:Nat} {s_num:Stmt} (F:Fun K "numbered" "numbered" s_num f fd) (hm:mg "numbered"=some (.ref f)) (b:Binds K fd ["keys"] []) (n_len:mg "len"=none)
  (sc:cy bO ["keys"] (fH s_num)) (cp:o6 bO eZ [0,1,2] [1] [0,1,2] [0,2] [0] (fH s_num)=true) (nm:B8 bO eZ=true)
  (bd:∀{X:Cx} (sh:List Bool),Cp X bO eZ [0,1,2] [1] [0,1,2] [0,2] [0]->Rm X->PassesOwn (model X.prog X.w) X.A X.env X.xe->X.mg "len"=none->PSs X (rK s_num) (AH X.prog X.w X.K sh)):DefOk P w K mg base (k+1) "numbered" 1 rP:=by
 refine ⟨f,fd,["keys"],F.ok sc (fun vs H Q E h=>h.1) (fun cdv A outer s H vs Q E hr h=>?_),hm,F.kp,b⟩
 obtain ⟨hl,O,ds,nd,inH,rs,w'⟩:=h
 cases e:rP ds with
 | er c=>rw [e] at w';exact w'.elim
 | no=>rw [e] at w';exact w'.elim
 | ok p=>
  rw [e] at w';obtain ⟨xs,ks,rfl,e1,e2,e3,rfl⟩:=gY e;exact ⟨_,bd ((ks.headD []).map isT) (Cp.fn cp nm) hr.units PassesOwn.never n_len,Bb nd inH rs e1 e2 (fun k hk=>of_decide_eq_true (List.all_eq_true.mp e3 k hk)) w'⟩
end T
namespace KQ
open PySem PySem.Spec L2 T
open PyProof.Rows hiding St
def D9:Stmt:=Lw 54
theorem j5:cy bO ["keys"] (fH D9):=⟨rfl,rfl,rfl,by decide +kernel,rfl,by decide +kernel,by decide +kernel⟩
theorem lE:o6 bO eZ [0,1,2] [1] [0,1,2] [0,2] [0] (fH D9)=true:=by kernel_rfl
theorem kD:B8 bO eZ=true:=by kernel_rfl
theorem nv {X:Cx} {gl:List Str} {vs cs ls lo gs:List Nat} (S:Cp X bO gl vs cs ls lo gs) (i:Nat) (x:Str) (pos:Pos) (e:bO[i]?=some x) (hi:vs.contains i=true):PE X (.Name x pos) (bI i):=by
 have m:=S.nm x (mem_of_getElem? e)
 exact y4 (by rw [S.hN];exact e) (S.vis i x e hi) m.1 m.2
theorem uv {X:Cx} {scope:Scope} {p1 p2 p3 p4 p5 pos:Pos} (S:Cp X bO eZ [0,1,2] [1] [0,1,2] [0,2] [0]) (hu:X.A.units+2<cLine) (h1:FX bO [2] [1] scope=true) (h2:o6 bO eZ [1,2] [1] [2] [] [] scope=true) (hs:∀x,foldedSetIterable (.Name "keys" p5) X.env x=pure x) :
  PE X (.ListComp (.Subscript (.Name "numbers" p1) (.Name "key" p2) p3) [⟨.Name "key" p4,.Name "keys" p5,[],0⟩] scope pos) (ez [2] (iM X.K (bI 0)) (bJ 2) jW (FW X.prog X.w X.K (bI 1) (bI 2))):=by
 have hN:X.N.Nodup:=by rw [S.hN];exact S.nd
 have B:=fun cells C s₀ H₀ ex=>S.blk h2 cells C s₀ H₀ ex
 exact Ib (iV S h1) S.calm (Ig (nv S 0 _ _ rfl rfl))
  (fun cells C s₀ H₀ ex=>rL (X:=L2.blk X scope cells C s₀ H₀ ex) (i:=2) hN (by show X.N[2]?=_;rw [S.hN];rfl) ((B cells C s₀ H₀ ex).loc 2 _ rfl rfl).1 ((B cells C s₀ H₀ ex).loc 2 _ rfl rfl).2)
  (fun cells C s₀ H₀ ex=>ua)
  (fun cells C s₀ H₀ ex=>ug (X:=L2.blk X scope cells C s₀ H₀ ex) hu (nv (B cells C s₀ H₀ ex) 1 _ _ rfl rfl) (nv (B cells C s₀ H₀ ex) 2 _ _ rfl rfl) (fun _ _=>rfl)) hs
theorem lM {X:Cx} (sh:List Bool) (S:Cp X bO eZ [0,1,2] [1] [0,1,2] [0,2] [0]) (R:Rm X) (hp:PassesOwn (model X.prog X.w) X.A X.env X.xe) (n_len:X.mg "len"=none):PSs X (rK D9) (AH X.prog X.w X.K sh):=by
 have hN:X.N.Nodup:=by rw [S.hN];exact S.nd
 have hu:X.A.units+2<cLine:=Nat.lt_of_le_of_lt (by omega) R
 have g:∀(i:Nat) (x:Str),bO[i]?=some x->X.N[i]?=some x:=fun i x e=>by rw [S.hN];exact e
 have lc:∀(i:Nat) (x:Str),bO[i]?=some x->[0,1,2].contains i=true->Loc X.env.scope x/\(X.fn x=true\/X.env.scope.names.lookup x=some .local):=fun i x e hi=>S.loc i x e hi
 refine IK (Iw hN (g 1 _ rfl) (lc 1 _ rfl rfl).1 (uf sh) rfl (lc 1 _ rfl rfl).2) ?_
 refine IK (Iv hp S.calm (Ig (nv S 0 _ _ rfl rfl)) (rL hN (g 2 _ rfl) (lc 2 _ rfl rfl).1 (lc 2 _ rfl rfl).2) ?_ (fun _=>rfl)) ?_
 ·refine Gb (zB (BJ (mE hu (nv S 2 _ _ rfl rfl) (nv S 1 _ _ rfl rfl)) (by with_unfolding_all rfl)) ?_ ox)
  exact Gb (tV hu (nv S 1 _ _ rfl rfl) (nv S 2 _ _ rfl rfl) (II nj (S.g (j:=0) rfl rfl).1 n_len zQ (DS (nv S 1 _ _ rfl rfl) FT (dB rfl)) (S.g (j:=0) rfl rfl).2.2 (S.g (j:=0) rfl rfl).2.1 (dB rfl) rfl) rfl)
 ·exact Gb (tU (uv S hu (by kernel_rfl) (by kernel_rfl) (fun _=>rfl)))
theorem kn {P:Program} {w:World} {K:Fg} {mg:Str->Option Value} {base:Heap} {f:Addr} {fd:FuncData} {k:Nat} (F:Fun K "numbered" "numbered" D9 f fd) (hm:mg "numbered"=some (.ref f)) (b:Binds K fd ["keys"] []) (n_len:mg "len"=none):DefOk P w K mg base (k+1) "numbered" 1 rP:=
 B6 F hm b n_len j5 lE kD fun sh S R hp n=>lM sh S R hp n
end KQ
namespace KC
open PySem PySem.Spec L2 T
open PyProof.Rows hiding St
def qX:FS:=(ak (aA false 3 (zY (ai (ai (ae 0) (eK (.int 1))) (ae 1))))
  (aF (rF (aP bu (ae 2)) (bg (ab (ae 3) (ab (ai (ai (ae 0) (eK (.int 0))) (ae 1)) af))) (bg (ab (ae 3) af)))))
def GA:List L4->Res:=aB 4 qX
def fy:FS:=(aF (zX (ab (ax .leaf 2 (aN (ae 1)) aC (ai (ae 0) (ae 2))) af)))
def Du:List L4->Res:=aB 3 fy
def dN:FS:=(aF (ag 1 rP (ab (zW .leaf 2 3 (ai (ae 0) (eK (.int 2))) aC (bg (ab (ai (ae 1) (ae 2)) (ab (zY (ag 2 Du (ab (ae 1) (ab (ae 3) af)))) af)))) af)))
def Au:List L4->Res:=aB 4 dN
def fz:FS:=(ak (aA false 2 (ag 1 rP (ab (ax .leaf 4 (dz (ab (ba aV (ab (ai (ae 0) (eK (.int 0))) af)) af)) aC (ag 3 GA (ab (ae 0) (ab (ae 4) (ab (ae 1) af))))) af)))
  (ak (aA false 3 (ag 2 Au (ab (ae 0) (ab (ae 2) af))))
  (ak (pw 1000 (aP av (az qE (ae 3) (ae 2)))
  (ak (aA false 2 (ae 3))
  (aA false 3 (ag 2 Au (ab (ae 0) (ab (ae 2) af))))))
  (aF (ae 2)))))
def G6:List L4->Res:=aB 5 fz
def qY:FS:=(ak (aA true 1 (ax (.lst .leaf) 3 (dz (ab (az aJ (ba gk (ab (ae 0) af)) (eK (.int 1))) af)) aC (aW .leaf af)))
  (ak (iD 2 3 (ae 0)
  (y6 1 (ae 3) (ae 2)))
  (aF (bx 1))))
def Gz:List L4->Res:=aB 4 qY
def hU:FS:=(ak (bS (ag 1 Aq (ab (ae 0) af)))
  (ak (aA false 2 (ag 2 G6 (ab (ae 0) (ab (ae 1) af))))
  (ak (aA false 3 (ax .leaf 7 (aN (ag 1 Gz (ab (ae 2) af))) aC (ai (ae 7) (eK (.int 0)))))
  (ak (aA false 4 (ax .leaf 8 (aN (ae 3)) aC (ai (ai (ae 0) (eK (.int 0))) (ae 8))))
  (ak (aA false 5 (ax .leaf 8 (aN (ae 3)) aC (zb (ai (ai (ae 0) (eK (.int 1))) (ae 8)))))
  (ak (aA false 6 (ax .leaf 8 (aN (ae 3)) aC (ag 2 Du (ab (ae 2) (ab (ai (ai (ae 0) (eK (.int 2))) (ae 8)) af)))))
  (aF (bg (ab (bg (ab (ae 4) (ab (ae 5) (ab (ae 6) af)))) (ab (ae 2) af))))))))))
def JC:List L4->Res:=aB 9 hU
end KC
namespace KQ
open PySem PySem.Spec L2 T
open PyProof.Rows hiding St
open KC
def lB:FS:=(ak (aA false 1 (bg (ab (eK (.str "mark")) (ab (ai (eK (.str "abc")) (ag 3 bZ (ab (ae 0) (ab (eK (.int 3)) (ab (eK (.int 3)) af))))) af))))
  (ak (aA false 2 (bg (ab (eK (.str "mark")) (ab (ai (eK (.str "abc")) (ag 3 bZ (ab (ae 0) (ab (eK (.int 4)) (ab (eK (.int 3)) af))))) af))))
  (ak (aA false 3 (aW .leaf (ab (ae 1) (ab (bg (ab (eK (.str "not")) (ab (ae 1) af))) (ab (bg (ab (eK (.str "and")) (ab (ae 1) (ab (bg (ab (eK (.str "not")) (ab (ae 2) af))) af)))) (ab (bg (ab (eK (.str "or")) (ab (ae 1) (ab (ae 2) af)))) (ab (bg (ab (eK (.str "some next")) (ab (ae 1) af))) (ab (bg (ab (eK (.str "yes")) af)) af))))))))
  (aF (ai (g5 (ae 3) (aW .leaf (ab (bg (ab (eK (.str "all next")) (ab (ae 2) af))) (ab (ae 1) (ab (bg (ab (eK (.str "not")) (ab (bg (ab (eK (.str "yes")) af)) af))) af))))) (ag 3 bZ (ab (ae 0) (ab (eK (.int 5)) (ab (eK (.int 9)) af)))))))))
def D7:List L4->Res:=aB 4 lB
def Fo:FS:=(ak (aA false 1 (ag 3 m__law_world (ab (ae 0) (ab (eK (.int 0)) (ab (eK (.int 6)) af)))))
  (ak (aA false 2 (ag 2 nF (ab (ae 0) (ab (eK (.int 8)) af))))
  (ak (aA false 3 (ag 4 Jl (ab (ae 1) (ab (ag 2 nF (ab (ae 0) (ab (eK (.int 7)) af))) (ab (ag 3 bZ (ab (ae 2) (ab (eK (.int 0)) (ab (ba aV (ab (ai (ae 1) (eK (.int 0))) af)) af)))) (ab (ag 3 bZ (ab (ae 2) (ab (eK (.int 1)) (ab (eK (.int 9)) af)))) af))))))
  (ak (fQ 7 8 (ab (ag 1 D7 (ab (ag 2 nF (ab (ae 0) (ab (eK (.int 9)) af))) af)) (ab (ag 1 D7 (ab (ag 2 nF (ab (ae 0) (ab (eK (.int 10)) af))) af)) af)))
  (ak (aA false 4 (ag 3 Ed (ab (ag 2 nF (ab (ae 0) (ab (eK (.int 11)) af))) (ab (ae 7) (ab (ae 8) af)))))
  (ak (iC [9,10] (ag 2 JC (ab (ae 1) (ab (az bE (ag 3 bZ (ab (ae 2) (ab (eK (.int 2)) (ab (eK (.int 2)) af)))) (eK (.int 1))) af))))
  (pV 9 (ak (aA false 5 (bg (ab (ax .leaf 11 (aN (ai (ae 3) (eK (.int 0)))) aC (ai (ae 10) (ae 11))) (ab (ax .leaf 11 (aN (ai (ae 3) (eK (.int 1)))) aC (ai (ae 10) (ae 11))) af))))
  (ak (b7 (aP av (az (u4 true) (ag 2 IH (ab (ae 9) (ab (ae 5) af))) (eK (.bool true)))) (aF (eK (.bool false))) aQ)
  (ak (aA false 6 (ag 3 D8 (ab (ae 1) (ab (ae 4) (ab (ae 3) af)))))
  (aF (d7 (az bE (ag 3 D8 (ab (ae 9) (ab (ae 4) (ab (ae 5) af)))) (ae 6)) (az bE (ag 3 D8 (ab (ae 9) (ab (ae 4) (ab (ag 2 F9 (ab (ae 9) (ab (ae 5) af))) af)))) (ae 6))))))))))))))
def uE:List L4->Res:=aB 12 Fo
end KQ
namespace T
open PySem PySem.Spec L2
open PyProof.Rows hiding St
theorem uM:∀{l:List (List It)} {k:List It},k∈l->fu k l<l.length
 | a::l,k,h=>by
  unfold fu;split
  ·simp
  ·rename_i e
   have:=uM ((LQ h).resolve_left (fun z=>e z.symm))
   simp
   exact this
theorem HY:∀{l:List (List It)} {k:List It},k∈l->l[fu k l]?=some k
 | a::l,k,h=>by
  unfold fu;split
  ·rename_i e;simp [e]
  ·rename_i e
   rw [List.getElem?_cons_succ];exact HY ((LQ h).resolve_left (fun z=>e z.symm))
theorem yb {l:List (List It)} {a b:List It} (ha:a∈l) (hb:b∈l) (e:fu a l=fu b l):a=b:=by
 have h1:=HY ha
 rw [e,HY hb] at h1;exact (Option.some.inj h1).symm
theorem F5:∀{l m:List (List It)} {k:List It},k∈l->fu k (l++m)=fu k l
 | a::l,m,k,h=>by
  rw [cons_append];unfold fu;split
  ·rfl
  ·rename_i e
   rw [F5 ((LQ h).resolve_left (fun z=>e z.symm))]
theorem F6:∀{l:List (List It)} {k:List It},k∉l->fu k (l++[k])=l.length
 | [],k,_=>by simp [fu]
 | a::l,k,h=>by
  rw [cons_append];unfold fu;rw [if_neg (fun e=>h (by rw [e];exact mem_cons_self)),F6 (fun z=>h (LW _ z)),length_cons]
theorem dM:∀{ks:List (List It)} (m:Nat),m<=ks.length->∀(c:Nat) x,(cC (ks.take m))[c]?=some x->fu x (cC (ks.take m))=c
 | ks,0,_,c,x,h=>by simp [cC] at h
 | ks,m+1,hm,c,x,h=>by
  have ih:=dM (ks:=ks) m (by omega)
  rw [D1 (by omega)] at h ⊢
  unfold de at h ⊢
  split at h
  ·rename_i z
   rw [if_pos z];exact ih c x h
  ·rename_i z
   rw [if_neg z];have hn:ks[m]∉cC (ks.take m):=fun y=>z (memB_iff.mpr y)
   rw [List.getElem?_append] at h;split at h
   ·rename_i lt
    rw [F5 (mem_of_getElem? h)];exact ih c x h
   ·rename_i lt
    rcases (by omega:c-(cC (ks.take m)).length=0\/0<c-(cC (ks.take m)).length) with e | e
    ·rw [e] at h
     cases h;rw [F6 hn];omega
    ·rw [getElem?_eq_none (by simp;omega)] at h
     cases h
theorem uu {ks ks':List (List It)} (hl:ks.length=ks'.length) (h:∀i j (hi:i<ks.length) (hj:j<ks.length),ks[i]=ks[j]↔ks'[i]'(by omega)=ks'[j]'(by omega)):cH ks=cH ks':=by
 have key:∀m,m<=ks.length->(cC (ks.take m)).length=(cC (ks'.take m)).length/\∀i (hi:i<m) (hi1:i<ks.length) (hi2:i<ks'.length),fu ks[i] (cC (ks.take m))=fu ks'[i] (cC (ks'.take m)):=by
  intro m;induction m with
  | zero=>intro _;exact ⟨by simp [cC],fun i hi=>by omega⟩
  | succ m ih=>
   intro hm;obtain ⟨e1,e2⟩:=ih (by omega)
   have hk:m<ks.length:=by omega
   have hk':m<ks'.length:=by omega
   have inTake:∀{l:List (List It)} {x:List It},x∈cC (l.take m)↔∃i,∃(hi:i<l.length),i<m/\l[i]=x:=fun {l x}=>by
    rw [mem_dst,List.mem_take_iff_getElem];constructor
    ·rintro ⟨i,hi,e⟩
     exact ⟨i,by omega,by omega,e⟩
    ·rintro ⟨i,hi,hi2,e⟩
     exact ⟨i,by omega,e⟩
   have mem:ks[m]∈cC (ks.take m)↔ks'[m]∈cC (ks'.take m):=by
    rw [inTake,inTake];constructor
    ·rintro ⟨i,hi,hi2,e⟩
     exact ⟨i,by omega,hi2,(h i m hi hk).mp e⟩
    ·rintro ⟨i,hi,hi2,e⟩
     exact ⟨i,by omega,hi2,(h i m (by omega) hk).mpr e⟩
   rw [D1 hk,D1 hk'];unfold de;by_cases c:ks[m]∈cC (ks.take m)
   ·have c':=mem.mp c
    rw [if_pos (memB_iff.mpr c),if_pos (memB_iff.mpr c')];refine ⟨e1,fun i hi hi1 hi2=>?_⟩
    by_cases e:i=m
    ·subst e
     obtain ⟨j,hj,hj2,ej⟩:=inTake.mp c;have ej':=(h j i hj hk).mp ej
     rw [<-ej,<-ej'];exact e2 j hj2 hj (by omega)
    ·exact e2 i (by omega) hi1 hi2
   ·have c':ks'[m]∉cC (ks'.take m):=fun z=>c (mem.mpr z)
    rw [if_neg (fun z=>c (memB_iff.mp z)),if_neg (fun z=>c' (memB_iff.mp z))]
    refine ⟨by rw [length_append,length_append,e1];rfl,fun i hi hi1 hi2=>?_⟩
    by_cases e:i=m
    ·subst e
     rw [F6 c,F6 c',e1]
    ·rw [F5 (inTake.mpr ⟨i,hi1,by omega,rfl⟩),F5 (inTake.mpr ⟨i,hi2,by omega,rfl⟩)]
     exact e2 i (by omega) hi1 hi2
 obtain ⟨_,e2⟩:=key ks.length (L3 _);rw [take_of_length_le (L3 _),take_of_length_le (by omega)] at e2
 unfold cH;apply ext_getElem
 ·simp [hl]
 ·intro i h1 h2
  have h1':i<ks.length:=by simpa using h1
  simp only [getElem_map]
  rw [e2 i h1' h1' (by omega)]
def bo (ks:List (List It)):List Nat:=ks.map fun k=>fu k (cC ks)
theorem Ir {ks:List (List It)}:cH ks=(bo ks).map fun n:Nat=>(n:Int):=by
 unfold cH bo;rw [map_map];rfl
theorem oG {ks:List (List It)} {i j:Nat} (hi:i<ks.length) (hj:j<ks.length):(bo ks).getD i 0=(bo ks).getD j 0↔ks[i]=ks[j]:=by
 have e:∀{a:Nat} (ha:a<ks.length),(bo ks).getD a 0=fu ks[a] (cC ks):=fun {a} ha=>by
  unfold bo;simp [List.getD,ha]
 rw [e hi,e hj];exact ⟨fun z=>yb (mem_dst.mpr (getElem_mem hi)) (mem_dst.mpr (getElem_mem hj)) z,fun z=>by rw [z]⟩
theorem Ia {ks:List (List It)} {i:Nat} (hi:i<ks.length):(bo ks).getD i 0<(cC ks).length:=by
 unfold bo;simp [List.getD,hi]
 exact uM (mem_dst.mpr (getElem_mem hi))
theorem qr {ks:List (List It)} {c:Nat} (h:c<(cC ks).length):∃i,i<ks.length/\(bo ks).getD i 0=c:=by
 obtain ⟨i,hi,e⟩:=getElem_of_mem (mem_dst.mp (getElem_mem h));refine ⟨i,hi,?_⟩
 have:=dM (ks:=ks) ks.length (L3 _) c (cC ks)[c] (by rw [take_of_length_le (L3 _)];exact LR h)
 rw [take_of_length_le (L3 _)] at this;unfold bo;simp [List.getD,hi,e,this]
end T
namespace KC
open PySem PySem.Spec L2 T PySem.SeqAt
open PyProof.Rows hiding St
theorem kR:∀a b:List Nat,PyData.eqvAll (a.map rm) (b.map rm)=(a==b)
 | [],[]=>by simp [PyData.eqvAll]
 | [],y::b=>by simp [PyData.eqvAll]
 | x::a,[]=>by simp [PyData.eqvAll]
 | x::a,y::b=>by
  rw [map_cons,map_cons,PyData.eqvAll,kR a b,PyData.eqv];have:((x:Int)==(y:Int))=(x==y):=by
   rw [Bool.eq_iff_iff];simp only [beq_iff_eq]
   omega
  rw [this];rfl
theorem xV {a b:List Nat}:qE (ao a) (ao b)=some (.bool (!(a==b))):=by
 show (if shaped (ao a)&&shaped (ao b) then some (PyData.bool (!PyData.eqv (.list (a.map rm)) (.list (b.map rm)))) else none)=_
 rw [Gf,Gf,Bool.and_self,if_pos rfl,PyData.eqv,kR]
theorem jQ {Γ Γ1:Ev} {fa:F1} {s:Sh} {ds:List D} (ha:fa Γ=.ok ⟨s,.list ds⟩ Γ1) (h1:bH ⟨s,.list ds⟩ ds=true):zY fa Γ=.ok ⟨.leaf,.tuple ds⟩ Γ1:=by
 unfold zY aK;rw [ha];simp only [Out.bind]
 rw [if_pos h1]
def uj (w:Wd) (r:Nat):Int:=if own w 0 r then 0 else 1
def DC (w:Wd) (o:Bool) (r:Nat):D:=.tuple (.tuple ((w.mks r).map .str)::if o then [.int (uj w r)] else [])
def zH (w:Wd) (o:Bool) (r:Nat):List T.It:=.inr ((w.mks r).map .inr)::if o then [.inl (.inl (uj w r))] else []
theorem IG:∀{l:List Str},y7 (l.map .str)=some (l.map .inr)
 | []=>rfl
 | a::l=>by
  rw [map_cons,y7,IG];rfl
theorem oO:∀{l:List Nat},y7 (l.map rm)=some (l.map fun n:Nat=>.inl (n:Int))
 | []=>rfl
 | a::l=>by
  rw [map_cons,y7,oO];rfl
theorem Km {w:Wd} {o:Bool} {r:Nat}:wH (DC w o r)=some (zH w o r):=by
 unfold DC zH wH
 cases o with
 | false=>simp only [Bool.false_eq_true,if_false,fL,fM,IG,Option.map_some]
 | true=>simp only [if_true,fL,fM,cI,IG,Option.map_some]
theorem jT {d:Nat->D} {k:Nat->List T.It}:∀{l:List Nat},(∀r∈l,wH (d r)=some (k r))->jU (l.map d)=some (l.map k)
 | [],_=>rfl
 | a::l,h=>by
  rw [map_cons,jU,h a (by simp),jT fun r hr=>h r (by simp [hr])]
  rfl
theorem oZ {n:Nat} {d:Nat->D} {k:Nat->List T.It} (hn:n<=900) (h:∀r,r<n->wH (d r)=some (k r)) (sh:List Bool) (hs:∀r,r<n->(k r).map T.isT=sh):rP [.list ((List.range n).map d)]=.ok ⟨.lst .leaf,ao (bo ((List.range n).map k))⟩:=by
 unfold rP;dsimp only;rw [jT fun r hr=>h r (List.mem_range.mp hr)]
 have c:((List.range n).map k).length<=900/\AR ((List.range n).map k)=true:=by
  refine ⟨by simpa using hn,List.all_eq_true.mpr fun x hx=>?_⟩
  obtain ⟨r,hr,rfl⟩:=List.mem_map.mp hx;have hr:=List.mem_range.mp hr
  apply decide_eq_true
  have:(((List.range n).map k).headD []).map T.isT=sh:=by
   cases n with
   | zero=>omega
   | succ n=>
    rw [List.range_succ_eq_map];exact hs 0 (by omega)
  rw [this];exact hs r hr
 dsimp only;rw [if_pos c,Ir,<-DU]
section
variable {w:Wd}
theorem ui (ok:w.Ok) {Γ:Ev} {i:Nat} {fb:F1} {s:Sh} {r:Nat} (h0:Γ[i]?=some (L5 w.enc)) (hb:fb Γ=.ok ⟨s,rm r⟩ Γ) (hr:r<w.n):ai (ai (ae i) (eK (.int 0))) fb Γ=.ok ⟨.leaf,.int (uj w r)⟩ Γ:=by
 obtain ⟨o,ho,e,h⟩:=ok.o_at hr;have:uj w r=o:=by
  unfold uj;rw [h 0];rcases ho with rfl | rfl<;>rfl
 rw [this,bT,bT,aw h0];simp only [Out.bind,aO,Wd.enc,dD,ki,zz]
 rw [hb];simp only [kj]
 rw [e]
theorem uD (ok:w.Ok) {Γ:Ev} {i:Nat} {fb:F1} {s:Sh} {r:Nat} (h0:Γ[i]?=some (L5 w.enc)) (hb:fb Γ=.ok ⟨s,rm r⟩ Γ) (hr:r<w.n):ai (ai (ae i) (eK (.int 1))) fb Γ=.ok ⟨.leaf,sm (w.mks r)⟩ Γ:=by
 rw [bT,bT,aw h0];simp only [Out.bind,aO,Wd.enc,dD,ki,EF]
 rw [hb];simp only [kj]
 rw [ok.at1 hr]
theorem qQ (ok:w.Ok) {o:Bool} {r:Nat} (hr:r<w.n):∃sh,GA [w.enc,rm r,.bool o]=.ok ⟨sh,DC w o r⟩/\sh=if o then .tup [.leaf,.leaf] else .tup [.leaf]:=by
 have m:=uD ok (Γ:=aI 4 [w.enc,rm r,.bool o]) (i:=0) (fb:=ae 1) (s:=.leaf) rfl (aw rfl) hr
 have s1:=cD (i:=3) (jQ m rfl) rfl (by simp [aI])
 have ow:=ui ok (Γ:=(aI 4 [w.enc,rm r,.bool o]).set 3 (L5 (.tuple ((w.mks r).map .str)))) (i:=0) (fb:=ae 1) (s:=.leaf) rfl (aw rfl) hr
 cases o with
 | true=>
  exact ⟨.tup [.leaf,.leaf],aM (ay s1 (aS (zm (t:=true) (gC (s:=.leaf) (aw (i:=2) rfl)) (fun _=>bw (aq (aw (i:=3) rfl) (aq ow ah)) rfl rfl) nofun) rfl)),rfl⟩
 | false=>
  exact ⟨.tup [.leaf],aM (ay s1 (aS (zm (t:=false) (gC (s:=.leaf) (aw (i:=2) rfl)) nofun (fun _=>bw (aq (aw (i:=3) rfl) ah) rfl rfl)) rfl)),rfl⟩
def nA (N:List Nat) (r:Nat):Nat:=N.getD r 0
def jF (w:Wd) (N:List Nat) (r:Nat):List Nat:=(List.range w.n).filter fun c=>((w.stp r).map (nA N)).contains c
theorem Dk {N:List Nat} (hN:∀r,r<w.n->nA N r<w.n) (ok:w.Ok) {r c:Nat}:c∈jF w N r↔∃t∈w.stp r,nA N t=c:=by
 unfold jF;rw [List.mem_filter,contains_iff_mem,mem_map,mem_range];exact ⟨fun z=>z.2,fun ⟨t,h,e⟩=>⟨by rw [<-e];exact hN t (ok.stp_lt h),t,h,e⟩⟩
theorem uA {N:List Nat} {Γ:Ev} {i:Nat} {fb:F1} {s:Sh} {r:Nat} (h0:Γ[i]?=some (L5 (ao N))) (hb:fb Γ=.ok ⟨s,rm r⟩ Γ) (hr:r<N.length):ai (ae i) fb Γ=.ok ⟨.leaf,rm (nA N r)⟩ Γ:=by
 refine vK (j:=r) (aw h0) hb (zZ (by rw [length_map];exact hr)) ?_ rfl
 rw [getElem?_map,LR hr];simp [nA,List.getD,hr]
theorem iT (ok:w.Ok) {N:List Nat} (hl:N.length=w.n) (hN:∀r,r<w.n->nA N r<w.n) {r:Nat} (hr:r<w.n):Du [ao N,ao (w.stp r)]=.ok ⟨.lst .leaf,ao (jF w N r)⟩:=by
 have h24:=ok.h24
 have sl:=nV ok (r:=r)
 have c:=i5 (Γ:=aI 3 [ao N,ao (w.stp r)]) (s:=.leaf) (i:=2) (fi:=aN (ae 1)) (fe:=ai (ae 0) (ae 2)) rm (w.stp r) (fun t=>⟨.leaf,rm (nA N t)⟩) (st:=true) (bB (s:=.leaf) (aw rfl) rfl) (by simp [aI]) rfl (by omega) fun t ht=>⟨uA rfl (aw rfl) (by rw [hl];exact ok.stp_lt ht),rfl⟩
 have l30:(w.stp r).length<=30:=by
  have:w.stp r∈w.s:=by
   unfold Wd.stp;rw [LU,LR (by rw [ok.ls];exact hr)]
   exact getElem_mem _
  exact (ok.st _ this).2.1
 have e:PyData.list ((w.stp r).map fun t=>rm (nA N t))=ao ((w.stp r).map (nA N)):=by
  show PyData.list _=PyData.list _
  rw [map_map];rfl
 refine aM (aS (wG (s:=.lst .leaf) (l:=(w.stp r).map (nA N)) (n:=w.n) (aq (c.trans (by rw [e])) ah) (fun x hx=>?_) (by omega) (by rw [length_map];omega)) rfl)
 obtain ⟨t,ht,rfl⟩:=List.mem_map.mp hx;exact hN t (ok.stp_lt ht)
def JP (w:Wd) (N:List Nat) (r:Nat):D:=.tuple [rm (nA N r),.tuple ((jF w N r).map rm)]
def iB (w:Wd) (N:List Nat) (r:Nat):List T.It:=[.inl (.inl (nA N r:Int)),.inr ((jF w N r).map fun n:Nat=>.inl (n:Int))]
theorem JO {N:List Nat} {r:Nat}:wH (JP w N r)=some (iB w N r):=by
 unfold JP iB wH;simp only [fL,fM,cI,oO,Option.map_some]
theorem mZ (ok:w.Ok) {N:List Nat} (hl:N.length=w.n) (hN:∀r,r<w.n->nA N r<w.n):Au [w.enc,ao N]=.ok ⟨.lst .leaf,ao (bo ((List.range w.n).map (iB w N)))⟩:=by
 have h24:=ok.h24
 have c:=mX (Γ:=aI 4 [w.enc,ao N]) (s:=.leaf) (i:=2) (j:=3) (fa:=ai (ae 0) (eK (.int 2))) (fe:=bg (ab (ai (ae 1) (ae 2)) (ab (zY (ag 2 Du (ab (ae 1) (ab (ae 3) af)))) af))) (fun r=>ao (w.stp r)) w.n (fun r=>⟨.tup [.leaf,.leaf],JP w N r⟩) (st:=true) (by simp [aI,Wd.enc,dD,ok.z.s_range]) rfl rfl (by omega) rfl (by omega) fun r hr=>⟨bw (aq (uA (i:=1) rfl (aw (d:=rm r) rfl) (by omega)) (aq (jQ (s:=.lst .leaf) (bq (aq (aw rfl) (aq (aw rfl) ah)) (iT ok hl hN hr) rfl rfl) rfl) ah)) rfl rfl,rfl⟩
 exact aM (aS (bq (aq c ah) (oZ (by omega) (fun r _=>JO) [false,true] fun r _=>rfl) rfl rfl) rfl)
theorem eR:∀{a b:List Nat},(a.map fun n:Nat=>(.inl (n:Int):cT))=(b.map fun n:Nat=>(.inl (n:Int):cT))->a=b
 | [],[],_=>rfl
 | [],_::_,h=>by cases h
 | _::_,[],h=>by cases h
 | x::a,y::b,h=>by
  rw [map_cons,map_cons] at h;injection h with h1 h2
  injection h1 with h1
  rw [eR h2,Int.ofNat.inj h1]
structure CN (w:Wd) (o:Bool) (N:List Nat) (m:Nat):Prop where
 len:N.length=w.n
 m1:1<=m
 mn:m<=w.n
 lt:∀r,r<w.n->nA N r<m
 onto:∀c,c<m->∃r,r<w.n/\nA N r=c
 look:∀i j,i<w.n->j<w.n->nA N i=nA N j->zH w o i=zH w o j
 st:∀i j,i<w.n->j<w.n->nA N i=nA N j->∀t∈w.stp i,∃t'∈w.stp j,nA N t=nA N t'
structure GdN (w:Wd) (o:Bool) (N:List Nat):Prop where
 ks:∃ks:List (List T.It),ks.length=w.n/\N=bo ks
 look:∀i j,i<w.n->j<w.n->nA N i=nA N j->zH w o i=zH w o j
theorem uw {ks:List (List T.It)}:(bo ks).length=ks.length:=by unfold bo;rw [length_map]
theorem vd {ks:List (List T.It)}:(cC ks).length<=ks.length:=by
 have:=HV (ks:=ks) ks.length (L3 _)
 rwa [take_of_length_le (L3 _)] at this
theorem GdN.len {o:Bool} {N:List Nat} (g:GdN w o N):N.length=w.n:=by
 obtain ⟨ks,h,rfl⟩:=g.ks;rw [uw,h]
theorem GdN.lt {o:Bool} {N:List Nat} (g:GdN w o N):∀r,r<w.n->nA N r<w.n:=fun r hr=>by
 obtain ⟨ks,h,rfl⟩:=g.ks;have:=Ia (ks:=ks) (i:=r) (by omega)
 have:=vd (ks:=ks)
 show (bo ks).getD r 0<w.n
 omega
theorem DJ {k:Nat->List T.It} {i j:Nat} (hi:i<w.n) (hj:j<w.n):nA (bo ((List.range w.n).map k)) i=nA (bo ((List.range w.n).map k)) j↔k i=k j:=by
 have:=oG (ks:=(List.range w.n).map k) (i:=i) (j:=j) (by simpa using hi) (by simpa using hj)
 rw [getElem_map,getElem_map,getElem_range,getElem_range] at this;exact this
def Dy (n:Nat):List (Nat×Nat):=(List.range n).flatMap fun i=>(List.range n).map fun j=>(i,j)
theorem mem_prL {n i j:Nat}:(i,j)∈Dy n↔i<n/\j<n:=by
 unfold Dy;simp
def u9 (n:Nat) (N:List Nat):List (Nat×Nat):=(Dy n).filter fun p=>nA N p.1==nA N p.2
theorem xE {n:Nat} (h:n<=24):(Dy n).length<=576:=by
 unfold Dy;rw [List.length_flatMap];simp only [length_map,length_range]
 have:((List.range n).map fun _=>n).sum=n*n:=by
  rw [List.map_const',List.sum_replicate_nat,length_range]
 rw [this];exact Nat.mul_le_mul h h
theorem uI {o:Bool} {N:List Nat} (g:GdN w o N) (ne:bo ((List.range w.n).map (iB w N))≠N):(u9 w.n (bo ((List.range w.n).map (iB w N)))).length<(u9 w.n N).length:=by
 have sub:∀i j,i<w.n->j<w.n->nA (bo ((List.range w.n).map (iB w N))) i=nA (bo ((List.range w.n).map (iB w N))) j->nA N i=nA N j:=fun i j hi hj e=>by
  have:=(DJ hi hj).mp e
  unfold iB at this;injection this with h1 _
  injection h1 with h1
  injection h1 with h1
  omega
 have ex:∃p∈u9 w.n N,¬((nA (bo ((List.range w.n).map (iB w N))) p.1==nA (bo ((List.range w.n).map (iB w N))) p.2)=true):=by
  refine Classical.byContradiction fun z=>ne ?_
  obtain ⟨ks,hk,rfl⟩:=g.ks;have pat:cH ((List.range w.n).map (iB w (bo ks)))=cH ks:=uu (by simp [hk]) fun i j hi hj=>by
   have hi':i<w.n:=by simpa using hi
   have hj':j<w.n:=by simpa using hj
   have a:=DJ (w:=w) (k:=iB w (bo ks)) hi' hj'
   have b:nA (bo ks) i=nA (bo ks) j↔ks[i]=ks[j]:=oG (by omega) (by omega)
   simp only [getElem_map,getElem_range]
   rw [<-a,<-b];refine ⟨sub i j hi' hj',fun e=>Classical.byContradiction fun q=>z ⟨(i,j),List.mem_filter.mpr ⟨mem_prL.mpr ⟨hi',hj'⟩,by simpa using e⟩,by simpa using q⟩⟩
  rw [Ir,Ir] at pat;exact List.map_inj_right (f:=fun n:Nat=>(n:Int)) (fun a b e=>by omega) |>.mp pat
 have e:u9 w.n (bo ((List.range w.n).map (iB w N)))=(u9 w.n N).filter fun p=>nA (bo ((List.range w.n).map (iB w N))) p.1==nA (bo ((List.range w.n).map (iB w N))) p.2:=by
  unfold u9;rw [List.filter_filter];apply List.filter_congr
  rintro ⟨i,j⟩ h
  obtain ⟨hi,hj⟩:=mem_prL.mp h
  cases c:(nA (bo ((List.range w.n).map (iB w N))) i==nA (bo ((List.range w.n).map (iB w N))) j) with
  | false=>simp [c]
  | true=>
   have:=sub i j hi hj (eq_of_beq c)
   simp [c,this]
 rw [e];exact List.length_filter_lt_length_iff_exists.mpr ex
abbrev GC (w:Wd) (o:Bool) (b:List Nat×List Nat):Ev:=[L5 w.enc,L5 (.bool o),L5 (ao b.1),L5 (ao b.2),none]
theorem qS (ok:w.Ok) {o:Bool}:∃N m,G6 [w.enc,.bool o]=.ok ⟨.leaf,ao N⟩/\CN w o N m:=by
 have h24:=ok.h24
 have h1:=ok.h1
 let N0:=bo ((List.range w.n).map (zH w o))
 have g0:GdN w o N0:=⟨⟨_,by simp,rfl⟩,fun i j hi hj e=>(DJ hi hj).mp e⟩
 let stp (N:List Nat):List Nat:=bo ((List.range w.n).map (iB w N))
 have gs:∀N,GdN w o N->GdN w o (stp N):=fun N g=>⟨⟨_,by simp,rfl⟩,fun i j hi hj e=>g.look i j hi hj (by
  have:=(DJ hi hj).mp e
  unfold iB at this;injection this with h1 _
  injection h1 with h1
  injection h1 with h1
  omega)⟩
 have pt:∀N,GdN w o N->Au [w.enc,ao N]=.ok ⟨.lst .leaf,ao (stp N)⟩:=fun N g=>mZ ok g.len g.lt
 have c0:ax .leaf 4 (dz (ab (ba aV (ab (ai (ae 0) (eK (.int 0))) af)) af)) aC (ag 3 GA (ab (ae 0) (ab (ae 4) (ab (ae 1) af)))) (aI 5 [w.enc,.bool o])=.ok ⟨.lst .leaf,.list ((List.range w.n).map (DC w o))⟩ (aI 5 [w.enc,.bool o]):=by
  have lo:=ok.g.lo
  refine i5 rm (List.range w.n) (fun r=>⟨(if o then .tup [.leaf,.leaf] else .tup [.leaf]),DC w o r⟩) (st:=true) (ph (s:=.leaf) (n:=w.n) (by omega) (by simp [aI,Wd.enc,dD,lo])) (by simp [aI]) rfl (by simp;omega) fun r hr=>?_
  have hr:=List.mem_range.mp hr
  obtain ⟨sh,e,hc⟩:=qQ ok (o:=o) hr
  subst hc;exact ⟨bq (aq (aw rfl) (aq (aw rfl) (aq (aw rfl) ah))) e rfl rfl,by cases o<;>rfl⟩
 have e0:rP [.list ((List.range w.n).map (DC w o))]=.ok ⟨.lst .leaf,ao N0⟩:=oZ (by omega) (fun r _=>Km) (if o then [true,false] else [true]) fun r _=>by cases o<;>rfl
 obtain ⟨b,e,⟨gb,eb⟩,ht⟩:=D4 (c:=aP av (az qE (ae 3) (ae 2))) (g:=ak (aA false 2 (ae 3)) (aA false 3 (ag 2 Au (ab (ae 0) (ab (ae 2) af))))) (G:=GC w o) (test:=fun b=>!(b.2==b.1)) (Inv:=fun b=>GdN w o b.1/\b.2=stp b.1) (meas:=fun b=>(u9 w.n b.1).length)
  (fun b _=>fG (s:=.leaf) (aE (aw (i:=3) rfl) (aw (i:=2) rfl) xV))
  (fun b ⟨g,e⟩ hb=>by
   have ne:b.2≠b.1:=fun z=>by rw [z] at hb;simp at hb
   refine ⟨(b.2,stp b.2),ay (cD (aw (i:=3) rfl) rfl (by simp)) (cD (bq (aq (aw (i:=0) rfl) (aq (aw (i:=2) rfl) ah)) (pt b.2 (by rw [e];exact gs _ g)) rfl rfl) rfl (by simp)),⟨by rw [e];exact gs _ g,rfl⟩,?_⟩
   show (u9 w.n b.2).length<(u9 w.n b.1).length
   rw [e] at ne ⊢;exact uI g ne) 1000 (N0,stp N0) ⟨g0,rfl⟩ (by
   have a:=length_filter_le (fun p=>nA N0 p.1==nA N0 p.2) (Dy w.n)
   have b:=xE h24
   show (u9 w.n N0).length<1000
   unfold u9;omega)
 have wh:pw 1000 (aP av (az qE (ae 3) (ae 2))) (ak (aA false 2 (ae 3)) (aA false 3 (ag 2 Au (ab (ae 0) (ab (ae 2) af))))) (GC w o (N0,stp N0))=.nx (GC w o b):=by
  unfold pw;rw [e]
 have st:b.2=b.1:=by simpa using ht
 rw [st] at eb;obtain ⟨ks,hk,en⟩:=gb.ks;refine ⟨b.1,(cC ks).length,aM (ay (cD (bq (aq c0 ah) e0 rfl rfl) rfl (by simp [aI])) (ay (Γ1:=GC w o (N0,stp N0)) (cD (bq (aq (aw (i:=0) rfl) (aq (aw (i:=2) rfl) ah)) (pt N0 g0) rfl rfl) rfl (by simp [aI])) (ay wh (aS (aw (i:=2) rfl) rfl)))),gb.len,?_,?_,?_,?_,gb.look,?_⟩
 ·have:=Ia (ks:=ks) (i:=0) (by omega)
  omega
 ·have:=vd (ks:=ks)
  omega
 ·intro r hr
  rw [en];exact Ia (by omega)
 ·intro c hc
  obtain ⟨i,hi,e⟩:=qr hc;exact ⟨i,by omega,by rw [en];exact e⟩
 ·intro i j hi hj e t ht
  have e':nA (stp b.1) i=nA (stp b.1) j:=by rw [<-eb];exact e
  have:=(DJ hi hj).mp e'
  unfold iB at this;injection this with _ h2
  injection h2 with h2 _
  injection h2 with h2
  have hc:jF w b.1 i=jF w b.1 j:=eR h2
  have:nA b.1 t∈jF w b.1 j:=by rw [<-hc];exact (Dk gb.lt ok).mpr ⟨t,ht,rfl⟩
  obtain ⟨t',h1,h2⟩:=(Dk gb.lt ok).mp this;exact ⟨t',h1,h2.symm⟩
end
theorem gm {P:Nat->Ev->Prop} {i j:Nat} {body:FS}:∀(ds:List D) (n:Nat) (Γ:Ev),P n Γ->(∀k d Γ,n<=k->ds[k-n]?=some d->P k Γ->(i<Γ.length/\j<Γ.length)/\∃Γ',body ((Γ.set i (L5 (.int (k:Nat)))).set j (L5 d))=.nx Γ'/\P (k+1) Γ')->∃Γ',rz i j body n ds Γ=.nx Γ'/\P (n+ds.length) Γ'
 | [],n,Γ,h,_=>⟨Γ,rfl,h⟩
 | d::r,n,Γ,h,st=>by
  obtain ⟨hi,Γ1,e1,h1⟩:=st n d Γ (L3 _) (by simp) h
  obtain ⟨Γ2,e2,h2⟩:=gm r (n+1) Γ1 h1 fun k d Γ a b c=>st k d Γ (by omega) (by rw [show k-n=(k-(n+1))+1 by omega];simpa using b) c
  refine ⟨Γ2,?_,?_⟩
  ·rw [rz,if_pos hi,e1]
   exact e2
  ·rw [length_cons,show n+(r.length+1)=n+1+r.length by omega]
   exact h2
theorem rR {Γ:Ev} {fk fa:F1} {p:PV} {s:Sh} {i j:Nat} {k:Int} {ds es:List D} (ho:Γ[i]?=some (some ⟨.lst (.lst .leaf),.list ds⟩)) (hk:fk Γ=.ok ⟨s,.int k⟩ Γ) (hi:cx ds.length k=some j) (hd:ds[j]?=some (.list es)) (h:fa Γ=.ok p Γ) (hc:coer .leaf p=true) (hn:es.length<=900) :
  y6 i fk fa Γ=.nx (Γ.set i (some ⟨.lst (.lst .leaf),.list (ds.set j (.list (es++[p.d])))⟩)):=by
 have h2:es.length<sizeLine:=Nat.lt_of_lt_of_le (by omega:es.length<1000) (by decide)
 have o:ql i ⟨s,.int k⟩ Γ=true:=by unfold ql;rw [ho];simp only [hi,hd]
 unfold y6 DN;rw [ho];simp only [if_true]
 unfold d0;rw [hk];simp only [o,if_true]
 rw [h];simp only
 unfold HK;rw [ho];simp only [hi,hd,hc,decide_eq_true h2,Bool.and_self,if_true]
theorem wu {Γ Γ1:Ev} {fa:F1} {body:FS} {ds:List D} {o:cu} {i j:Nat} (h:aN fa Γ=.ok ⟨ds,true⟩ Γ1) (hg:rz i j body 0 ds Γ1=o):iD i j fa body Γ=o:=by unfold iD;rw [h];exact hg
section
variable {w:Wd} {o:Bool} {N:List Nat} {m:Nat}
def gE (N:List Nat) (k c:Nat):List Nat:=(List.range k).filter fun r=>nA N r==c
theorem uW {k c:Nat}:gE N (k+1) c=gE N k c++if nA N k==c then [k] else []:=by
 unfold gE;rw [List.range_succ,List.filter_append];congr 1
 rw [filter_cons,List.filter_nil]
theorem yg {k c:Nat}:(gE N k c).length<=k:=by
 have:=length_filter_le (fun r=>nA N r==c) (List.range k)
 rwa [length_range] at this
theorem kX (g:CN w o N m) (h24:w.n<=24):Gz [ao N]=.ok ⟨.lst (.lst .leaf),.list ((List.range m).map fun c=>ao (gE N w.n c))⟩:=by
 have hm:=g.mn
 have h1:=g.m1
 have hl:=g.len
 have mx:gk [ao N]=some (.int ((m-1:Nat):Int)):=by
  have e:T.intsOf (N.map rm)=some (N.map fun n:Nat=>(n:Int)):=by rw [DU,gh]
  show (match T.intsOf (N.map rm) with | some (a::r)=>some (PyData.int (DA (a::r))) | _=>none)=_
  rw [e];have is:DA (N.map fun n:Nat=>(n:Int))=((m-1:Nat):Int):=by
   refine uB ?_ fun a ha=>?_
   ·obtain ⟨r,hr,e⟩:=g.onto (m-1) (by omega)
    refine List.mem_map.mpr ⟨m-1,?_,rfl⟩
    rw [<-e];unfold nA;rw [LU,LR (by omega)]
    exact getElem_mem _
   ·obtain ⟨x,hx,rfl⟩:=List.mem_map.mp ha
    obtain ⟨i,hi,rfl⟩:=getElem_of_mem hx;have:=g.lt i (by omega)
    unfold nA at this;rw [LU,LR hi] at this;simp at this
    omega
  cases N with
  | nil=>simp at hl;omega
  | cons a r=>
   simp only [map_cons] at is ⊢
   rw [is]
 have c1:ax (.lst .leaf) 3 (dz (ab (az aJ (ba gk (ab (ae 0) af)) (eK (.int 1))) af)) aC (aW .leaf af) (aI 4 [ao N])=.ok ⟨.lst (.lst .leaf),.list ((List.range m).map fun c=>ao (gE N 0 c))⟩ (aI 4 [ao N]):=by
  refine i5 rm (List.range m) (fun _=>⟨.lst .leaf,.list []⟩) (st:=true) (ph (s:=.leaf) (n:=m) (by omega) (aq ((aE (g:=aJ) (bD (aq (aw rfl) ah) mx) (aO (d:=.int 1)) add_int').trans (by congr 3;omega)) ah)) (by simp [aI]) rfl (by simp;omega) fun r hr=>⟨rG (s:=.leaf) ah rfl rfl rfl,rfl⟩
 obtain ⟨Γ1,e1,x2,x3,hΓ⟩:=gm (i:=2) (j:=3) (body:=y6 1 (ae 3) (ae 2)) (P:=fun k Γ=>∃x2 x3,Γ=[L5 (ao N),some ⟨.lst (.lst .leaf),.list ((List.range m).map fun c=>ao (gE N k c))⟩,x2,x3]) (N.map rm) 0 [L5 (ao N),some ⟨.lst (.lst .leaf),.list ((List.range m).map fun c=>ao (gE N 0 c))⟩,none,none] ⟨none,none,rfl⟩
  (fun k d Γ _ hd ⟨x2,x3,e⟩=>by
   subst e;have hk:k<N.length:=by
    have:=(LY hd).1
    simp at this
    exact this
   have ed:d=rm (nA N k):=by
    rw [Nat.sub_zero,getElem?_map,LR hk] at hd
    cases hd;simp [nA,List.getD,hk]
   subst ed;have lt:=g.lt k (by omega)
   have st:=rR (i:=1) (j:=nA N k) (s:=.leaf) (fk:=ae 3) (fa:=ae 2) (ds:=(List.range m).map fun c=>ao (gE N k c)) (es:=(gE N k (nA N k)).map rm) (p:=⟨.leaf,rm k⟩) (Γ:=[L5 (ao N),some ⟨.lst (.lst .leaf),.list ((List.range m).map fun c=>ao (gE N k c))⟩,L5 (rm k),L5 (rm (nA N k))]) rfl (aw rfl) (zZ (by simpa using lt)) (by rw [getElem?_map,getElem?_range lt];rfl) (aw rfl) rfl (by rw [length_map];have:=yg (N:=N) (k:=k) (c:=nA N k);omega)
   refine ⟨⟨by simp,by simp⟩,_,st,L5 (rm k),L5 (rm (nA N k)),?_⟩
   have eq:((List.range m).map fun c=>ao (gE N k c)).set (nA N k) (.list ((gE N k (nA N k)).map rm++[rm k]))=(List.range m).map fun c=>ao (gE N (k+1) c):=by
    apply ext_getElem
    ·simp
    ·intro c h1 h2
     rw [List.getElem_set];simp only [getElem_map,getElem_range]
     rw [uW];by_cases e:nA N k=c
     ·rw [if_pos e]
      subst e;simp [ao]
     ·rw [if_neg e]
      have:(nA N k==c)=false:=by simpa using e
      simp [this]
   rw [<-eq];rfl)
 subst hΓ;rw [length_map,Nat.zero_add,hl] at e1;refine aM (ay (Ac c1 rfl (by simp [aI])) (ay (wu (bB (s:=.leaf) (aw rfl) rfl) e1) (aS (C8 (p:=⟨.lst (.lst .leaf),.list ((List.range m).map fun c=>ao (gE N w.n c))⟩) rfl) rfl)))
end
section
variable {w:Wd} {o:Bool} {N:List Nat} {m:Nat}
def xY (N:List Nat) (n c:Nat):Nat:=(gE N n c).headD 0
theorem Ip (g:CN w o N m) {c:Nat} (hc:c<m):∃t,gE N w.n c=xY N w.n c::t/\xY N w.n c<w.n/\nA N (xY N w.n c)=c:=by
 obtain ⟨r,hr,e⟩:=g.onto c hc;have hm:r∈gE N w.n c:=List.mem_filter.mpr ⟨List.mem_range.mpr hr,by simpa using e⟩
 unfold xY
 cases q:gE N w.n c with
 | nil=>rw [q] at hm;cases hm
 | cons a t=>
  have ha:a∈gE N w.n c:=by rw [q];exact mem_cons_self
  obtain ⟨h1,h2⟩:=List.mem_filter.mp ha;exact ⟨t,rfl,List.mem_range.mp h1,by simpa using h2⟩
def LV (w:Wd) (N:List Nat) (m:Nat):List Nat:=(List.range m).map (xY N w.n)
def cL (w:Wd) (N:List Nat) (m:Nat):Wd:=⟨m,(LV w N m).map fun x=>.int (uj w x),(LV w N m).map w.mks,(LV w N m).map (jF w N)⟩
theorem eY (g:CN w o N m):∀x∈LV w N m,x<w.n:=fun x hx=>by
 obtain ⟨c,hc,rfl⟩:=List.mem_map.mp hx;exact (Ip g (List.mem_range.mp hc)).choose_spec.2.1
theorem CN.ltn (g:CN w o N m):∀r,r<w.n->nA N r<w.n:=fun r hr=>Nat.lt_of_lt_of_le (g.lt r hr) g.mn
theorem vp (g:CN w o N m) (ok:w.Ok) {r c:Nat} (h:c∈jF w N r):c<m:=by
 obtain ⟨t,ht,e⟩:=(Dk g.ltn ok).mp h;rw [<-e];exact g.lt t (ok.stp_lt ht)
theorem vn (g:CN w o N m) (ok:w.Ok) {r:Nat} (hr:r<w.n):jF w N r≠[]:=fun z=>by
 obtain ⟨t,ht⟩:=exists_mem_of_ne_nil _ (ok.stp_ne hr);have:=(Dk g.ltn ok).mpr ⟨t,ht,rfl⟩
 rw [z] at this
 cases this
theorem o8 (h24:w.n<=24) {r:Nat}:(jF w N r).length<=30:=by
 have:=length_filter_le (fun c=>((w.stp r).map (nA N)).contains c) (List.range w.n)
 rw [length_range] at this;exact Nat.le_trans this (by omega)
theorem oK (ok:w.Ok) {r:Nat} (hr:r<w.n):w.mks r∈w.m:=by
 unfold Wd.mks;rw [LU,LR (by rw [ok.lm];exact hr)]
 exact getElem_mem _
theorem Cc (ok:w.Ok) (g:CN w o N m):(cL w N m).Ok:=by
 have h24:=ok.h24
 have mn:=g.mn
 have ll:(LV w N m).length=m:=by unfold LV;simp
 refine ⟨⟨by simp [cL,ll],by simp [cL,ll],by simp [cL,ll],fun a ha=>?_,fun a ha=>?_,fun a ha=>?_⟩,g.m1,by show m<=24;omega,by simp [cL,ll],by simp [cL,ll],fun a ha=>?_,fun a ha c hc=>?_⟩
 ·obtain ⟨x,_,rfl⟩:=List.mem_map.mp ha
  unfold uj;split
  ·exact .inl rfl
  ·exact .inr rfl
 ·obtain ⟨b,hb,rfl⟩:=List.mem_map.mp ha
  obtain ⟨x,hx,rfl⟩:=List.mem_map.mp hb;exact ok.g.m _ (List.mem_map.mpr ⟨_,oK ok (eY g x hx),rfl⟩)
 ·obtain ⟨b,hb,rfl⟩:=List.mem_map.mp ha
  obtain ⟨x,hx,rfl⟩:=List.mem_map.mp hb;have hxn:=eY g x hx
  refine ⟨(jF w N x).map fun t:Nat=>(t:Int),by rw [<-DU],by rw [length_map];exact o8 h24,fun z=>vn g ok hxn (List.map_eq_nil_iff.mp z),fun t ht=>?_,?_⟩
  ·obtain ⟨c,hc,rfl⟩:=List.mem_map.mp ht
   have:=vp g ok hc
   show 0<=(c:Int)/\(c:Int)<((cL w N m).n:Int)
   have e:(cL w N m).n=m:=rfl
   rw [e];omega
  ·rw [pairwise_map]
   exact (List.pairwise_lt_range.filter _).imp fun h=>by omega
 ·obtain ⟨x,hx,rfl⟩:=List.mem_map.mp ha
  exact ⟨vn g ok (eY g x hx),o8 h24,fun t ht=>vp g ok ht⟩
 ·obtain ⟨x,hx,rfl⟩:=List.mem_map.mp ha
  exact ok.mc _ (oK ok (eY g x hx)) c hc
theorem uG {c:Nat} (hc:c<m):(cL w N m).mks c=w.mks (xY N w.n c)/\(cL w N m).stp c=jF w N (xY N w.n c):=by
 constructor
 ·show ((LV w N m).map w.mks).getD c []=_
  unfold LV;rw [LU,getElem?_map,getElem?_map,getElem?_range hc];rfl
 ·show ((LV w N m).map (jF w N)).getD c []=_
  unfold LV;rw [LU,getElem?_map,getElem?_map,getElem?_range hc];rfl
theorem wQ (ok:w.Ok) {Γ:Ev} {i:Nat} {fb:F1} {s:Sh} {r:Nat} (h0:Γ[i]?=some (L5 w.enc)) (hb:fb Γ=.ok ⟨s,rm r⟩ Γ) (hr:r<w.n):ai (ai (ae i) (eK (.int 2))) fb Γ=.ok ⟨.leaf,ao (w.stp r)⟩ Γ:=by
 rw [bT,bT,aw h0];simp only [Out.bind,aO,Wd.enc,dD,ki,zy]
 rw [hb];simp only [kj]
 rw [ok.at2 hr]
theorem qR (ok:w.Ok) (g:CN w o N m) (eN:G6 [w.enc,.bool o]=.ok ⟨.leaf,ao N⟩):JC [w.enc,.bool o]=.ok ⟨.tup [.tup [.leaf,.leaf,.leaf],.leaf],.tuple [(cL w N m).enc,ao N]⟩:=by
 have h24:=ok.h24
 have mn:=g.mn
 have c0:=ok.check
 have ll:(LV w N m).length=m:=by unfold LV;simp
 have s3:ax .leaf 7 (aN (ag 1 Gz (ab (ae 2) af))) aC (ai (ae 7) (eK (.int 0))) [L5 w.enc,L5 (.bool o),L5 (ao N),none,none,none,none,none,none]=.ok ⟨.lst .leaf,ao (LV w N m)⟩ [L5 w.enc,L5 (.bool o),L5 (ao N),none,none,none,none,none,none]:=by
  have e:ao (LV w N m)=.list ((List.range m).map fun c=>rm (xY N w.n c)):=by unfold LV;show PyData.list _=_;rw [map_map];rfl
  rw [e];refine i5 (fun c=>ao (gE N w.n c)) (List.range m) (fun c=>⟨.leaf,rm (xY N w.n c)⟩) (st:=true) (bB (s:=.lst (.lst .leaf)) (bq (aq (aw rfl) ah) (kX g h24) rfl rfl) rfl) (by simp) rfl (by simp;omega) fun c hc=>⟨?_,rfl⟩
  obtain ⟨t,e,_⟩:=Ip g (List.mem_range.mp hc);exact vK (j:=0) (ds:=(gE N w.n c).map rm) (aw rfl) aO (zZ (by rw [e];simp)) (by rw [e];rfl) rfl
 have s4:=i5 (Γ:=[L5 w.enc,L5 (.bool o),L5 (ao N),L5 (ao (LV w N m)),none,none,none,none,none]) (s:=.leaf) (i:=8) (fi:=aN (ae 3)) (fe:=ai (ai (ae 0) (eK (.int 0))) (ae 8)) rm (LV w N m) (fun x=>⟨.leaf,.int (uj w x)⟩) (st:=true) (bB (s:=.leaf) (aw rfl) rfl) (by simp) rfl (by omega) fun x hx=>⟨ui ok (i:=0) (s:=.leaf) rfl (aw rfl) (eY g x hx),rfl⟩
 have s5:=i5 (Γ:=[L5 w.enc,L5 (.bool o),L5 (ao N),L5 (ao (LV w N m)),L5 (.list ((LV w N m).map fun x=>.int (uj w x))),none,none,none,none]) (s:=.leaf) (i:=8) (fi:=aN (ae 3)) (fe:=zb (ai (ai (ae 0) (eK (.int 1))) (ae 8))) rm (LV w N m) (fun x=>⟨.lst .leaf,sm (w.mks x)⟩) (st:=true) (bB (s:=.leaf) (aw rfl) rfl) (by simp) rfl (by omega) fun x hx=>⟨jR (uD ok (i:=0) (s:=.leaf) rfl (aw rfl) (eY g x hx)) rfl,rfl⟩
 have s6:=i5 (Γ:=[L5 w.enc,L5 (.bool o),L5 (ao N),L5 (ao (LV w N m)),L5 (.list ((LV w N m).map fun x=>.int (uj w x))),L5 (.list ((LV w N m).map fun x=>sm (w.mks x))),none,none,none]) (s:=.leaf) (i:=8) (fi:=aN (ae 3)) (fe:=ag 2 Du (ab (ae 2) (ab (ai (ai (ae 0) (eK (.int 2))) (ae 8)) af))) rm (LV w N m) (fun x=>⟨.lst .leaf,ao (jF w N x)⟩) (st:=true) (bB (s:=.leaf) (aw rfl) rfl) (by simp) rfl (by omega) fun x hx=>⟨bq (aq (aw rfl) (aq (wQ ok (i:=0) (s:=.leaf) rfl (aw rfl) (eY g x hx)) ah)) (iT ok g.len g.ltn (eY g x hx)) rfl rfl,rfl⟩
 have ee:(cL w N m).enc=.tuple [.list ((LV w N m).map fun x=>.int (uj w x)),.list ((LV w N m).map fun x=>sm (w.mks x)),.list ((LV w N m).map fun x=>ao (jF w N x))]:=by
  unfold Wd.enc dD cL;simp only [map_map]
  rfl
 rw [ee];exact aM (ay (za (bq (aq (aw rfl) ah) c0 rfl rfl)) (ay (cD (bq (aq (aw rfl) (aq (aw rfl) ah)) eN rfl rfl) rfl (by simp [aI])) (ay (cD s3 rfl (by simp [aI])) (ay (cD s4 rfl (by simp [aI])) (ay (cD s5 rfl (by simp [aI])) (ay (cD s6 rfl (by simp [aI])) (aS (bw (aq (bw (aq (aw (i:=4) rfl) (aq (aw (i:=5) rfl) (aq (aw (i:=6) rfl) ah))) rfl rfl) (aq (aw (i:=2) rfl) ah)) rfl rfl) rfl)))))))
theorem Gi {v:Wd} {f:Nat->Nat} (ok:w.Ok) (st1:∀r,r<w.n->∀t∈w.stp r,f t∈v.stp (f r)) (st2:∀r,r<w.n->∀c∈v.stp (f r),∃t∈w.stp r,f t=c) {any:Bool} {P Q P' Q':Nat->Prop} (hp:∀r,r<w.n->(P r↔P' (f r))) (hq:∀r,r<w.n->(Q r↔Q' (f r))) {r:Nat} (hr:r<w.n):Unt w any P Q r↔Unt v any P' Q' (f r):=by
 constructor
 ·intro h
  induction h with
  | now q=>exact .now ((hq _ hr).mp q)
  | some e p ht _ ih=>exact .some e ((hp _ hr).mp p) (st1 _ hr _ ht) (ih (ok.stp_lt ht))
  | all e p _ ih=>
   refine .all e ((hp _ hr).mp p) fun c hc=>?_
   obtain ⟨t,ht,rfl⟩:=st2 _ hr c hc;exact ih t ht (ok.stp_lt ht)
 ·intro h
  generalize hc:f r=c at h
  induction h generalizing r with
  | now q=>subst hc;exact .now ((hq _ hr).mpr q)
  | some e p ht _ ih=>
   subst hc;obtain ⟨t,h1,h2⟩:=st2 _ hr _ ht;exact .some e ((hp _ hr).mpr p) h1 (ih (ok.stp_lt h1) h2)
  | all e p _ ih=>
   subst hc;exact .all e ((hp _ hr).mpr p) fun t ht=>ih (f t) (st1 _ hr t ht) (ok.stp_lt ht) rfl
theorem lT {v:Wd} {f:Nat->Nat} (ok:w.Ok) (mk:∀r,r<w.n->w.mks r=v.mks (f r)) (st1:∀r,r<w.n->∀t∈w.stp r,f t∈v.stp (f r)) (st2:∀r,r<w.n->∀c∈v.stp (f r),∃t∈w.stp r,f t=c):∀(s:Sn) (r:Nat),r<w.n->(dk w s r↔dk v s (f r))
 | .yes,r,_=>Iff.rfl
 | .mk c,r,hr=>by show c∈w.mks r↔c∈v.mks (f r);rw [mk r hr]
 | .un .not a,r,hr=>not_congr (lT ok mk st1 st2 a r hr)
 | .un .sn a,r,hr=>by
  constructor
  ·rintro ⟨t,ht,h⟩
   exact ⟨f t,st1 r hr t ht,(lT ok mk st1 st2 a t (ok.stp_lt ht)).mp h⟩
  ·rintro ⟨c,hc,h⟩
   obtain ⟨t,ht,rfl⟩:=st2 r hr c hc;exact ⟨t,ht,(lT ok mk st1 st2 a t (ok.stp_lt ht)).mpr h⟩
 | .un .an a,r,hr=>by
  constructor
  ·intro h c hc
   obtain ⟨t,ht,rfl⟩:=st2 r hr c hc;exact (lT ok mk st1 st2 a t (ok.stp_lt ht)).mp (h t ht)
  ·intro h t ht
   exact (lT ok mk st1 st2 a t (ok.stp_lt ht)).mpr (h (f t) (st1 r hr t ht))
 | .un .sa a,r,hr=>not_congr (Gi (P:=fun _=>True) (P':=fun _=>True) ok st1 st2 (fun _ _=>Iff.rfl) (fun t ht=>not_congr (lT ok mk st1 st2 a t ht)) hr)
 | .un .aa a,r,hr=>not_congr (Gi (P:=fun _=>True) (P':=fun _=>True) ok st1 st2 (fun _ _=>Iff.rfl) (fun t ht=>not_congr (lT ok mk st1 st2 a t ht)) hr)
 | .bi .and a b,r,hr=>and_congr (lT ok mk st1 st2 a r hr) (lT ok mk st1 st2 b r hr)
 | .bi .or a b,r,hr=>or_congr (lT ok mk st1 st2 a r hr) (lT ok mk st1 st2 b r hr)
 | .bi .su a b,r,hr=>Gi ok st1 st2 (fun t ht=>lT ok mk st1 st2 a t ht) (fun t ht=>lT ok mk st1 st2 b t ht) hr
 | .bi .au a b,r,hr=>Gi ok st1 st2 (fun t ht=>lT ok mk st1 st2 a t ht) (fun t ht=>lT ok mk st1 st2 b t ht) hr
theorem oM (ok:w.Ok) (g:CN w o N m):(∀r,r<w.n->w.mks r=(cL w N m).mks (nA N r))/\(∀r,r<w.n->∀t∈w.stp r,nA N t∈(cL w N m).stp (nA N r))/\∀r,r<w.n->∀c∈(cL w N m).stp (nA N r),∃t∈w.stp r,nA N t=c:=by
 have at_:∀r,r<w.n->∃l,l<w.n/\nA N l=nA N r/\(cL w N m).mks (nA N r)=w.mks l/\(cL w N m).stp (nA N r)=jF w N l:=fun r hr=>by
  have hc:=g.lt r hr
  obtain ⟨_,_,h1,h2⟩:=Ip g hc;exact ⟨_,h1,h2,(uG hc).1,(uG hc).2⟩
 refine ⟨fun r hr=>?_,fun r hr t ht=>?_,fun r hr c hc=>?_⟩
 ·obtain ⟨l,hl,e,e1,_⟩:=at_ r hr
  rw [e1];have:=g.look r l hr hl e.symm
  unfold zH at this;injection this with h1 _
  injection h1 with h1
  have:∀{a b:List Str},a.map (Sum.inr:Str->cT)=b.map Sum.inr->a=b:=fun {a b} h=>by
   induction a generalizing b with
   | nil=>cases b with | nil=>rfl | cons _ _=>cases h
   | cons x a ih=>
    cases b with
    | nil=>cases h
    | cons y b=>
     rw [map_cons,map_cons] at h;injection h with h1 h2
     injection h1 with h1
     rw [h1,ih h2]
  exact this h1
 ·obtain ⟨l,hl,e,_,e2⟩:=at_ r hr
  rw [e2];obtain ⟨t',h1,h2⟩:=g.st r l hr hl e.symm t ht;exact (Dk g.ltn ok).mpr ⟨t',h1,h2.symm⟩
 ·obtain ⟨l,hl,e,_,e2⟩:=at_ r hr
  rw [e2] at hc;obtain ⟨t,h1,h2⟩:=(Dk g.ltn ok).mp hc;obtain ⟨t',h3,h4⟩:=g.st l r hl hr e t h1;exact ⟨t',h3,by rw [<-h4,h2]⟩
theorem wY (ok:w.Ok) (g:CN w o N m) (s:Sn) {r:Nat} (hr:r<w.n):dk w s r↔dk (cL w N m) s (nA N r):=by
 obtain ⟨a,b,c⟩:=oM ok g;exact lT ok a b c s r hr
end
theorem nR {P Q:Nat->Bool}:∀{l:List Nat},lW P Q l=true↔∃k,k<l.length/\Q (l.getD k 0)=true/\∀j,j<k->P (l.getD j 0)=true
 | []=>by simp [lW]
 | a::l=>by
  rw [lW,Bool.or_eq_true,Bool.and_eq_true,nR];constructor
  ·rintro (h | ⟨h,k,h1,h2,h3⟩)
   ·exact ⟨0,by simp,by simpa using h,fun j hj=>by omega⟩
   ·refine ⟨k+1,by simp;omega,by simpa using h2,fun j hj=>?_⟩
    cases j with
    | zero=>simpa using h
    | succ j=>simpa using h3 j (by omega)
  ·rintro ⟨k,h1,h2,h3⟩
   cases k with
   | zero=>exact .inl (by simpa using h2)
   | succ k=>exact .inr ⟨by simpa using h3 0 (by omega),k,by simpa using h1,by simpa using h2,fun j hj=>by simpa using h3 (j+1) (by omega)⟩
theorem Ae {F R:List Nat} {k:Nat} (h:k<(F++R).length):(F++R).getD k 0=bR F R k:=by
 unfold bR;rw [length_append] at h;rw [LU,List.getElem?_append];split
 ·rw [LU]
 ·rw [LU,Nat.mod_eq_of_lt (by omega)]
theorem IJ {F R:List Nat} (h:R≠[]) (k:Nat):∃j,j<=k/\j<(F++R).length/\bR F R j=bR F R k:=by
 have hp:0<R.length:=List.length_pos_iff.mpr h
 by_cases c:k<F.length
 ·exact ⟨k,L3 _,by rw [length_append];omega,rfl⟩
 ·have m:=Nat.mod_lt (k-F.length) hp
  have l:=Nat.mod_le (k-F.length) R.length
  refine ⟨F.length+(k-F.length) % R.length,by omega,by rw [length_append];omega,?_⟩
  unfold bR;rw [if_neg c,if_neg (by omega),Nat.add_sub_cancel_left,Nat.mod_mod]
theorem nQ {P Q:Nat->Bool} {F R:List Nat} (h:R≠[]):lW P Q (F++R)=true↔∃k,Q (bR F R k)=true/\∀j,j<k->P (bR F R j)=true:=by
 rw [nR];constructor
 ·rintro ⟨k,h1,h2,h3⟩
  refine ⟨k,by rw [<-Ae h1];exact h2,fun j hj=>?_⟩
  rw [<-Ae (by omega)]
  exact h3 j hj
 ·rintro ⟨k,h2,h3⟩
  obtain ⟨j,h4,h5,h6⟩:=IJ (F:=F) h k
  refine ⟨j,h5,by rw [Ae h5,h6];exact h2,fun i hi=>?_⟩
  rw [Ae (by omega)]
  exact h3 i (by omega)
theorem pe {P:Nat->Bool} {F R:List Nat} (h:R≠[]):(F++R).all P=true↔∀k,P (bR F R k)=true:=by
 rw [all_eq_true];constructor
 ·intro a k
  obtain ⟨j,_,h5,h6⟩:=IJ (F:=F) h k
  rw [<-h6,<-Ae h5,LU,LR h5];exact a _ (getElem_mem h5)
 ·intro a x hx
  obtain ⟨k,hk,rfl⟩:=getElem_of_mem hx;have:=a k
  rw [<-Ae hk,LU,LR hk] at this;exact this
theorem Dl {F R:List Nat}:Dz F R=bR F R 1:=rfl
theorem lO {w v:Wd} {s:Sn} (ht:s.tm=true) {F R F' R':List Nat} (h:R≠[]) (h':R'≠[]) (e:∀a∈s.args,∀k,(aY w a).contains (bR F R k)=(aY v a).contains (bR F' R' k)):rn w s F R=rn v s F' R':=by
 have un:∀a b:Sn,a∈s.args->b∈s.args->lW (fun t=>(aY w a).contains t) (fun t=>(aY w b).contains t) (F++R)=lW (fun t=>(aY v a).contains t) (fun t=>(aY v b).contains t) (F'++R'):=fun a b ha hb=>by
  rw [Bool.eq_iff_iff,nQ h,nQ h'];simp only [e a ha,e b hb]
 have al:∀a:Sn,a∈s.args->((F++R).all fun t=>(aY w a).contains t)=(F'++R').all fun t=>(aY v a).contains t:=fun a ha=>by
  rw [Bool.eq_iff_iff,pe h,pe h'];simp only [e a ha]
 cases s with
 | yes=>rfl
 | mk c=>rfl
 | bi k a b=>exact un a b (by simp [Sn.args]) (by simp [Sn.args])
 | un k a=>
  cases k with
  | sa=>exact al a (by simp [Sn.args])
  | aa=>exact al a (by simp [Sn.args])
  | not=>unfold rn;rw [Dl,Dl];exact e a (by simp [Sn.args]) 1
  | sn=>unfold rn;rw [Dl,Dl];exact e a (by simp [Sn.args]) 1
  | an=>unfold rn;rw [Dl,Dl];exact e a (by simp [Sn.args]) 1
theorem xF {f:Nat->Nat} {F R:List Nat} (h:R≠[]) (k:Nat):bR (F.map f) (R.map f) k=f (bR F R k):=by
 have hp:0<R.length:=List.length_pos_iff.mpr h
 unfold bR;rw [length_map,length_map];split
 ·rename_i c
  simp [List.getD,c]
 ·have m:=Nat.mod_lt (k-F.length) hp
  simp [List.getD,m]
theorem o9 {w v:Wd} {f:Nat->Nat} (st:∀r,r<w.n->∀t∈w.stp r,f t∈v.stp (f r)):∀{l:List Nat},(∀x∈l,x<w.n)->vG w l->vG v (l.map f)
 | [],_,_=>trivial
 | [a],_,_=>trivial
 | a::b::r,h,c=>⟨st a (h a (by simp)) b c.1,o9 st (l:=b::r) (fun x hx=>h x (LW _ hx)) c.2⟩
theorem wz {w:Wd} {o:Bool} {N:List Nat} {m:Nat} (ok:w.Ok) (g:CN w o N m) {F R:List Nat} (h:cv w F R):cv (cL w N m) (F.map (nA N)) (R.map (nA N)):=by
 obtain ⟨_,b,_⟩:=oM ok g;refine ⟨fun z=>h.ne (List.map_eq_nil_iff.mp z),fun x hx=>?_,?_,by rw [length_map,length_map];exact h.len⟩
 ·rw [<-map_append] at hx
  obtain ⟨y,hy,rfl⟩:=List.mem_map.mp hx;exact g.lt y (h.lt y hy)
 ·rw [<-map_take,<-map_append,<-map_append]
  refine o9 b (fun x hx=>?_) h.ch
  rcases LP hx with z | z
  ·exact h.lt x z
  ·exact h.lt x (LN _ (List.mem_of_mem_take z))
theorem tY {w:Wd} {F R:List Nat} (h:cv w F R) (k:Nat):bR F R k<w.n:=by
 obtain ⟨j,_,h5,h6⟩:=IJ (F:=F) h.ne k
 rw [<-h6,<-Ae h5,LU,LR h5];exact h.lt _ (getElem_mem h5)
theorem w4 {w:Wd} {o:Bool} {N:List Nat} {m:Nat} (ok:w.Ok) (g:CN w o N m) (a:Sn) {r:Nat} (hr:r<w.n):(aY w a).contains r=(aY (cL w N m) a).contains (nA N r):=by
 rw [vL hr,vL (w:=cL w N m) (g.lt r hr),Bool.eq_iff_iff,satB_iff,satB_iff];exact wY ok g a hr
end KC
namespace KQ
open PySem PySem.Spec L2 T PySem.SeqAt KC
open PyProof.Rows hiding St
theorem kW {c:Int}:∃s:Sn,D7 [.int c]=.ok ⟨.leaf,s.enc⟩/\s.size<=4/\s.dep<=3/\s.ok:=by
 have m:∀k:Int,0<=k->k<=1000->∃mc:Nat,∃d,bZ [.int c,.int k,.int 3]=.ok ⟨.leaf,.int d⟩/\cn (Str.ofString "abc").cps.toList d=some mc/\(⟨#[mc]⟩:Str)∈DO:=fun k h0 h1=>by
  have d:=wb (c:=c) (k:=k) (b:=3) h0 h1 (by omega) (by omega)
  have i:=DI (c:=c) (k:=k) (b:=3) h0 h1 (by omega) (by omega)
  obtain ⟨mc,e,h⟩:=vC i.1 i.2;exact ⟨mc,_,d,e,h⟩
 obtain ⟨m1,d1,e1,a1,l1⟩:=m 3 (by omega) (by omega)
 obtain ⟨m2,d2,e2,a2,l2⟩:=m 4 (by omega) (by omega)
 obtain ⟨j,hj,ej⟩:=yy (c:=c) (k:=5) (b:=9) (by omega) (by omega) (by omega) (by omega)
 generalize hx:(⟨#[m1]⟩:Str)=x at l1
 generalize hy:(⟨#[m2]⟩:Str)=y at l2
 have s1:aA false 1 (bg (ab (eK (.str "mark")) (ab (ai (eK (.str "abc")) (ag 3 bZ (ab (ae 0) (ab (eK (.int 3)) (ab (eK (.int 3)) af))))) af))) (aI 4 [.int c])=.nx [L5 (.int c),L5 ((Sn.mk x).enc),none,none]:=by
  rw [<-hx];exact cD (bw (aq aO (aq (sf aO (bq (aq (aw rfl) (aq aO (aq aO ah))) e1 rfl rfl) pf a1) ah)) rfl rfl) rfl (by simp [aI])
 have s2:aA false 2 (bg (ab (eK (.str "mark")) (ab (ai (eK (.str "abc")) (ag 3 bZ (ab (ae 0) (ab (eK (.int 4)) (ab (eK (.int 3)) af))))) af))) [L5 (.int c),L5 ((Sn.mk x).enc),none,none]=.nx [L5 (.int c),L5 ((Sn.mk x).enc),L5 ((Sn.mk y).enc),none]:=by
  rw [<-hy];exact cD (bw (aq aO (aq (sf aO (bq (aq (aw rfl) (aq aO (aq aO ah))) e2 rfl rfl) pf a2) ah)) rfl rfl) rfl (by simp)
 have pn:∀(i:Nat) (s:Sn) (Γ:Ev),Γ[i]?=some (L5 s.enc)->bg (ab (eK (.str "not")) (ab (ae i) af)) Γ=.ok ⟨.tup [.leaf,.leaf],(Sn.un .not s).enc⟩ Γ:=fun i s Γ h=>bw (aq aO (aq (aw h) ah)) rfl rfl
 have pu:∀(u:U5) (z:Str) (i:Nat) (s:Sn) (Γ:Ev),z=u.w.t->Γ[i]?=some (L5 s.enc)->bg (ab (eK (.str z)) (ab (ae i) af)) Γ=.ok ⟨.tup [.leaf,.leaf],(Sn.un u s).enc⟩ Γ:=fun u z i s Γ e h=>by rw [e];exact bw (aq aO (aq (aw h) ah)) rfl rfl
 have s3:∀(s:Sn) (j:Nat),bZ [.int c,.int 5,.int ((9:Nat):Int)]=.ok ⟨.leaf,rm j⟩->cx 9 (j:Int)=some j->[(Sn.mk x).enc,(Sn.un .not (.mk x)).enc,(Sn.bi .and (.mk x) (.un .not (.mk y))).enc,(Sn.bi .or (.mk x) (.mk y)).enc,(Sn.un .sn (.mk x)).enc,Sn.yes.enc,(Sn.un .an (.mk y)).enc,(Sn.mk x).enc,(Sn.un .not .yes).enc][j]?=some s.enc->D7 [.int c]=.ok ⟨.leaf,s.enc⟩:=fun s j e ix at'=>by
  refine aM (ay s1 (ay s2 (ay (Γ1:=[L5 (.int c),L5 ((Sn.mk x).enc),L5 ((Sn.mk y).enc),L5 (.list [(Sn.mk x).enc,(Sn.un .not (.mk x)).enc,(Sn.bi .and (.mk x) (.un .not (.mk y))).enc,(Sn.bi .or (.mk x) (.mk y)).enc,(Sn.un .sn (.mk x)).enc,Sn.yes.enc])]) (cD (rG (s:=.leaf) (aq (aw rfl) (aq (pn 1 (.mk x) _ rfl) (aq (bw (aq aO (aq (aw rfl) (aq (pn 2 (.mk y) _ rfl) ah))) rfl rfl) (aq (bw (aq aO (aq (aw rfl) (aq (aw rfl) ah))) rfl rfl) (aq (pu .sn _ 1 (.mk x) _ rfl rfl) (aq (bw (aq aO ah) rfl rfl) ah)))))) rfl rfl rfl) rfl (by simp)) ?_)))
  have ct:=nN (fa:=ae 3) (Γ:=[L5 (.int c),L5 ((Sn.mk x).enc),L5 ((Sn.mk y).enc),L5 (.list [(Sn.mk x).enc,(Sn.un .not (.mk x)).enc,(Sn.bi .and (.mk x) (.un .not (.mk y))).enc,(Sn.bi .or (.mk x) (.mk y)).enc,(Sn.un .sn (.mk x)).enc,Sn.yes.enc])]) (aw rfl) (rG (s:=.leaf) (aq (pu .an "all next" 2 (.mk y) _ rfl rfl) (aq (aw (i:=1) rfl) (aq (bw (aq (aO (d:=.str "not")) (aq (bw (aq (aO (d:=.str "yes")) ah) rfl rfl) ah)) rfl rfl) ah))) rfl rfl rfl) rfl rfl (by simp)
  exact aS (vK ct (bq (aq (aw rfl) (aq aO (aq aO ah))) e rfl rfl) ix at' rfl) rfl
 match j,hj,ej with
 | 0,_,e=>exact ⟨.mk x,s3 _ 0 e rfl rfl,Nat.le_of_ble_eq_true rfl,Nat.le_of_ble_eq_true rfl,l1⟩
 | 1,_,e=>exact ⟨.un .not (.mk x),s3 _ 1 e rfl rfl,Nat.le_of_ble_eq_true rfl,Nat.le_of_ble_eq_true rfl,l1⟩
 | 2,_,e=>exact ⟨.bi .and (.mk x) (.un .not (.mk y)),s3 _ 2 e rfl rfl,Nat.le_of_ble_eq_true rfl,Nat.le_of_ble_eq_true rfl,l1,l2⟩
 | 3,_,e=>exact ⟨.bi .or (.mk x) (.mk y),s3 _ 3 e rfl rfl,Nat.le_of_ble_eq_true rfl,Nat.le_of_ble_eq_true rfl,l1,l2⟩
 | 4,_,e=>exact ⟨.un .sn (.mk x),s3 _ 4 e rfl rfl,Nat.le_of_ble_eq_true rfl,Nat.le_of_ble_eq_true rfl,l1⟩
 | 5,_,e=>exact ⟨.yes,s3 _ 5 e rfl rfl,Nat.le_of_ble_eq_true rfl,Nat.le_of_ble_eq_true rfl,trivial⟩
 | 6,_,e=>exact ⟨.un .an (.mk y),s3 _ 6 e rfl rfl,Nat.le_of_ble_eq_true rfl,Nat.le_of_ble_eq_true rfl,l2⟩
 | 7,_,e=>exact ⟨.mk x,s3 _ 7 e rfl rfl,Nat.le_of_ble_eq_true rfl,Nat.le_of_ble_eq_true rfl,l1⟩
 | 8,_,e=>exact ⟨.un .not .yes,s3 _ 8 e rfl rfl,Nat.le_of_ble_eq_true rfl,Nat.le_of_ble_eq_true rfl,trivial⟩
theorem kT {a b:Bool}:bE (.bool a) (.bool b)=some (.bool (a==b)):=by cases a<;>cases b<;>kernel_rfl
theorem tZ {w:Wd} {F R:List Nat} (h:cv w F R):bR F R 0<w.n:=tY h 0
noncomputable abbrev G9 (xs:List D) (w:Wd) (c:Int) (F R:List Nat) (s l r:Sn) (v:Wd) (N:List Nat) (x5 x6:Option PV):Ev:=[L5 (.list xs),L5 w.enc,L5 (.int c),L5 (wy F R),L5 s.enc,x5,x6,L5 l.enc,L5 r.enc,L5 v.enc,L5 (ao N),none]
theorem yA {xs:List D} (hx:gD xs):uE [.list xs]=.ok ⟨.leaf,.bool true⟩:=by
 obtain ⟨n,os,ms,ss,e0,g0,h1,h6⟩:=qL hx (at':=0) (lim:=6) (by omega) (by omega) (by omega)
 obtain ⟨w,ok,ew,en⟩:=Ej g0 h1 (by omega)
 rw [<-ew] at e0;have h24:=ok.h24
 have hw1:=ok.h1
 obtain ⟨c,hc⟩:=Ai hx (k:=8) (by omega)
 obtain ⟨c7,hc7⟩:=Ai hx (k:=7) (by omega)
 obtain ⟨c9,hc9⟩:=Ai hx (k:=9) (by omega)
 obtain ⟨c10,hc10⟩:=Ai hx (k:=10) (by omega)
 obtain ⟨c11,hc11⟩:=Ai hx (k:=11) (by omega)
 obtain ⟨r0,hr,er0⟩:=yy (c:=c) (k:=0) (b:=w.n) (by omega) (by omega) hw1 (by omega)
 obtain ⟨sz,hsz,esz⟩:=yy (c:=c) (k:=1) (b:=9) (by omega) (by omega) (by omega) (by omega)
 obtain ⟨F,R,ew',hW,_,hlen⟩:=vg ok (c:=c7) hr (sz:=sz) (by omega)
 obtain ⟨l,el,sl,dl,kl⟩:=kW (c:=c9)
 obtain ⟨r,er,sr,dr,kr⟩:=kW (c:=c10)
 obtain ⟨s,sh,es,T,hv,hcs⟩:=qM (c:=c11) (a:=l) (b:=r)
 have ssz:s.size<=200:=by have:=T.sz;omega
 have dp:s.dep<=24:=by have:=T.dp;omega
 have dp2:=wb (c:=c) (k:=2) (b:=2) (by omega) (by omega) (by omega) (by omega)
 generalize ho:(cM c 2 2==1)=o
 obtain ⟨N,m,eN,g⟩:=qS ok (o:=o)
 have eL:=qR ok g eN
 have okv:=Cc ok g
 have hV:=wz ok g hW
 have sok:=T.ok kl kr
 have al1:rn w s F R=rn (cL w N m) s (F.map (nA N)) (R.map (nA N)):=lO T.tm hW.ne hV.ne fun a _ k=>by
  rw [xF hW.ne];exact w4 ok g a (tY hW k)
 obtain ⟨F1,R1,eS,s1,p1,l1⟩:=qN okv hV (by rw [length_map,length_map];omega)
 rw [length_map,length_map] at l1;have hV1:cv (cL w N m) F1 R1:=AA okv s1.ne (by omega) (fun k=>by rw [p1,p1];exact wx hV k) (by rw [p1];exact tZ hV)
 have al2:rn (cL w N m) s (F.map (nA N)) (R.map (nA N))=rn (cL w N m) s F1 R1:=lO T.tm hV.ne hV1.ne fun a _ k=>by rw [p1]
 have sh1:=IZ ok sok ssz dp T.tm hW
 have sh2:=IZ okv sok ssz dp T.tm hV
 have sh3:=IZ okv sok ssz dp T.tm hV1
 rw [<-al1] at sh2;rw [<-al2,<-al1] at sh3;generalize (rn w s F R==s.w.ofS)=b at sh1 sh2 sh3
 have iw:=m5 okv hV
 refine aM ?_
 refine ay (cD (bq (aq (aw rfl) (aq aO (aq aO ah))) e0 rfl rfl) rfl (by simp [aI])) ?_
 refine ay (cD (bq (aq (aw rfl) (aq aO ah)) hc rfl rfl) rfl (by simp [aI])) ?_
 refine ay (cD (bq (aq (aw rfl) (aq (bq (aq (aw rfl) (aq aO ah)) hc7 rfl rfl) (aq (bq (aq (aw rfl) (aq aO (aq (nY ok rfl) ah))) er0 rfl rfl) (aq (bq (aq (aw rfl) (aq aO (aq aO ah))) esz rfl rfl) ah)))) ew' rfl rfl) rfl (by simp [aI])) ?_
 refine ay (Γ1:=[L5 (.list xs),L5 w.enc,L5 (.int c),L5 (wy F R),none,none,none,L5 l.enc,L5 r.enc,none,none,none]) (Ay (aq (bq (aq (bq (aq (aw rfl) (aq aO ah)) hc9 rfl rfl) ah) el rfl rfl) (aq (bq (aq (bq (aq (aw rfl) (aq aO ah)) hc10 rfl rfl) ah) er rfl rfl) ah)) (by simp [putN,aI])) ?_
 refine ay (cD (bq (aq (bq (aq (aw rfl) (aq aO ah)) hc11 rfl rfl) (aq (aw rfl) (aq (aw rfl) ah))) es rfl rfl) hcs (by simp)) ?_
 have vo:=aE (g:=bE) (bq (n:=3) (fl:=ab (ae 2) (ab (eK (.int 2)) (ab (eK (.int 2)) af))) (den:=bZ) (Γ:=[L5 (.list xs),L5 w.enc,L5 (.int c),L5 (wy F R),L5 s.enc,none,none,L5 l.enc,L5 r.enc,none,none,none]) (aq (aw rfl) (aq aO (aq aO ah))) dp2 rfl rfl) (aO (d:=.int 1)) KC.eq_int
 rw [ho] at vo;refine ay (Γ1:=[L5 (.list xs),L5 w.enc,L5 (.int c),L5 (wy F R),L5 s.enc,none,none,L5 l.enc,L5 r.enc,some ⟨.tup [.leaf,.leaf,.leaf],(cL w N m).enc⟩,L5 (ao N),none]) (Av (ps:=[⟨.tup [.leaf,.leaf,.leaf],(cL w N m).enc⟩,⟨.leaf,ao N⟩]) (bq (aq (aw rfl) (aq vo ah)) eL rfl rfl) rfl rfl rfl) ?_
 refine Ee (p:=⟨.tup [.leaf,.leaf,.leaf],(cL w N m).enc⟩) rfl ?_
 have cm:∀(j:Nat) (L:List Nat),(∀x∈L,x<w.n)->L.length<=900->(∀Γ:Ev,Γ[3]?=some (L5 (wy F R))->ai (ae 3) (eK (.int (j:Int))) Γ=.ok ⟨.leaf,ao L⟩ Γ)->ax .leaf 11 (aN (ai (ae 3) (eK (.int (j:Int))))) aC (ai (ae 10) (ae 11)) (G9 xs w c F R s l r (cL w N m) N none none)=.ok ⟨.lst .leaf,ao (L.map (nA N))⟩ (G9 xs w c F R s l r (cL w N m) N none none):=fun j L hL hl he=>by
  have e:ao (L.map (nA N))=.list (L.map fun x=>rm (nA N x)):=by show PyData.list _=_;rw [map_map];rfl
  rw [e];exact i5 rm L (fun x=>⟨.leaf,rm (nA N x)⟩) (st:=true) (bB (s:=.leaf) (he _ rfl) rfl) (by simp) rfl (by omega) fun x hx=>⟨uA (i:=10) rfl (aw rfl) (by rw [g.len];exact hL x hx),rfl⟩
 have cF:=cm 0 F (fun x hx=>hW.lt x (LO _ hx)) (by omega) fun Γ h=>vY (j:=0) (aw h) aO rfl rfl rfl
 have cR:=cm 1 R (fun x hx=>hW.lt x (LN _ hx)) (by omega) fun Γ h=>vY (j:=1) (aw h) aO rfl rfl rfl
 refine ay (Γ1:=G9 xs w c F R s l r (cL w N m) N (L5 (wy (F.map (nA N)) (R.map (nA N)))) none) (cD (bw (aq cF (aq cR ah)) rfl rfl) rfl (by simp)) ?_
 refine ay (bF (fG (b:=false) (s:=.leaf) (aE (g:=u4 true) (bq (aq (aw rfl) (aq (aw rfl) ah)) iw rfl rfl) (aO (d:=.bool true)) rfl)) nofun fun _=>rfl) ?_
 refine ay (Γ1:=G9 xs w c F R s l r (cL w N m) N (L5 (wy (F.map (nA N)) (R.map (nA N)))) (L5 (.bool b))) (cD (bq (aq (aw rfl) (aq (aw rfl) (aq (aw rfl) ah))) sh1 rfl rfl) rfl (by simp)) ?_
 have q1:=aE (g:=bE) (Γ:=G9 xs w c F R s l r (cL w N m) N (L5 (wy (F.map (nA N)) (R.map (nA N)))) (L5 (.bool b))) (bq (n:=3) (fl:=ab (ae 9) (ab (ae 4) (ab (ae 5) af))) (aq (aw rfl) (aq (aw rfl) (aq (aw rfl) ah))) sh2 rfl rfl) (aw (i:=6) rfl) kT
 have q2:=aE (g:=bE) (Γ:=G9 xs w c F R s l r (cL w N m) N (L5 (wy (F.map (nA N)) (R.map (nA N)))) (L5 (.bool b))) (bq (n:=3) (fl:=ab (ae 9) (ab (ae 4) (ab (ag 2 F9 (ab (ae 9) (ab (ae 5) af))) af))) (aq (aw rfl) (aq (aw rfl) (aq (bq (aq (aw rfl) (aq (aw rfl) ah)) eS rfl rfl) ah))) sh3 rfl rfl) (aw (i:=6) rfl) kT
 rw [beq_self_eq_true] at q1 q2
 exact aS (v_and (s:=.leaf) (a:=true) (b:=true) q1 q2) rfl
theorem law_true (ns:List Int) (hl:ns.length<=63):uE [.list (ns.map .int)]=.ok ⟨.leaf,.bool true⟩:=yA DX
end KQ
namespace T
open PySem PySem.Spec L2
open PyProof.Rows hiding St
abbrev C9 (x:Str) (s:Stmt) (ps:List Str) (us:List Value):Prop:=∀(kV doc pm:Value) (an:Option Addr) (cdv ct:Value),bindArgs (PySem.W.fnOf x x (Dg s) (rK s) (fH s) .none kV doc pm an cdv ct) ⟨us,[]⟩=pure (ps.zip us)
abbrev wa (x:Str) (s:Stmt) (ps:List Str):Prop:=∀us:List Value,us.length=ps.length->C9 x s ps us
section
variable {x:Str} {s:Stmt} {p1 p2 p3 p4 p5 p6:Str}
theorem nq (h:∀a,C9 x s [p1] [a]:=by exact fun _ _ _ _ _ _ _=>rfl):wa x s [p1]:=fun us hl=>match us,hl with | [_],_=>h _
theorem lL (h:∀a b,C9 x s [p1,p2] [a,b]:=by exact fun _ _ _ _ _ _ _ _=>rfl):wa x s [p1,p2]:=fun us hl=>match us,hl with | [_,_],_=>h _ _
theorem vU (h:∀a b c,C9 x s [p1,p2,p3] [a,b,c]:=by exact fun _ _ _ _ _ _ _ _ _=>rfl):wa x s [p1,p2,p3]:=fun us hl=>match us,hl with | [_,_,_],_=>h _ _ _
theorem Hz (h:∀a b c d,C9 x s [p1,p2,p3,p4] [a,b,c,d]:=by exact fun _ _ _ _ _ _ _ _ _ _=>rfl):wa x s [p1,p2,p3,p4]:=fun us hl=>match us,hl with | [_,_,_,_],_=>h _ _ _ _
theorem LG (h:∀a b c d e,C9 x s [p1,p2,p3,p4,p5] [a,b,c,d,e]:=by exact fun _ _ _ _ _ _ _ _ _ _ _=>rfl):wa x s [p1,p2,p3,p4,p5]:=fun us hl=>match us,hl with | [_,_,_,_,_],_=>h _ _ _ _ _
end
def Ft (K:Fg) (mg:Str->Option Value) (n:Str) (s:Stmt):Prop:=∃f fd,mg n=some (.ref f)/\Fun K n n s f fd
theorem ft {K:Fg} {h:Heap} {mg:Str->Option Value} {n:Str} {s:Stmt} {f:Addr} {od an:Option Addr} {sl:Array (Option Value)} {oc kV dc pm cd ct:Value} (X:K.In h) (G:h.Ns mainGlobals mg) (a:PySem.W.nsIn K mainGlobals n=some (some (.ref f))) (l:K.lookup f=some ⟨oc,od,.func (PySem.W.fnOf n n (Dg s) (rK s) (fH s) .none kV dc pm an cd ct),sl⟩) (c:PySem.W.codeIn K cd n=true) (k:PySem.W.keepIn K (.ref f)=true):Ft K mg n s:=⟨f,_,PySem.W.mg_of X G a,CH (st:=s) l c k⟩
theorem HM {K:Fg} {x:Str} {st:Stmt} {f:Addr} {fd:FuncData} {ps:List Str} (F:Fun K x x st f fd) (b:wa x st ps):Binds K fd ps []:=F.binds fun kV doc pm an cdv ct us hl=>b us hl kV doc pm an cdv ct
def Cd (vs cs:List Nat):List Nat:=vs.filter fun i=>!cs.contains i
def fB (N gl ps:List Str) (vs cs gs:List Nat) (s:Stmt):Bool:=o6 N gl vs cs vs (Cd vs cs) gs (fH s)&&B8 N gl&&(!(fH s).isCoroutine&&!(fH s).isGenerator&&decide (N.take ps.length=ps)&&(ps.all fun x=>y3 (fH s) [.local,.cell] (some x))&&((fH s).names.all fun y=>!decide (y.2=.free)))
theorem Fj {N gl ps:List Str} {vs cs gs:List Nat} {s:Stmt} (h:fB N gl ps vs cs gs s=true):o6 N gl vs cs vs (Cd vs cs) gs (fH s)=true/\B8 N gl=true/\cy N ps (fH s):=by
 unfold fB at h;simp only [Bool.and_eq_true,decide_eq_true_eq,all_eq_true,Bool.not_eq_true',decide_eq_false_iff_not] at h
 obtain ⟨⟨h1,h2⟩,⟨⟨⟨h3,h4⟩,h5⟩,h6⟩,h7⟩:=h;refine ⟨h1,h2,(HN h1).kind,h3,h4,(uz h2).1,h5,fun x hx=>?_,h7⟩
 obtain ⟨k,hk,q⟩:=Dv (h6 x hx);simp only [mem_cons,not_mem_nil,or_false] at hk
 rcases hk with rfl | rfl
 ·exact .inl q
 ·exact .inr q
structure In (p:Fg->(Str->Option Value)->Prop) (X:Cx) (P:Program) (w:World) (K:Fg) (mg:Str->Option Value) (base:Heap) (k:Nat):Prop where
 e1:X.prog=P
 e2:X.w=w
 e3:X.K=K
 e4:X.mg=mg
 e5:X.base=base
 rm:Room k X.A
 pp:p K mg
section
variable {p:Fg->(Str->Option Value)->Prop} {X Y:Cx} {P:Program} {w:World} {K:Fg} {mg:Str->Option Value} {base:Heap} {j k n:Nat} {x:Str} {s:Stmt} {ps:List Str} {g:FS} {den:List L4->Res} {ss:List Sh}
theorem In.r (I:In p X P w K mg base k):Rm X:=I.rm.units
theorem In.e (I:In p X P w K mg base k):p X.K X.mg:=by rw [I.e3,I.e4];exact I.pp
theorem In.c (I:In p X P w K mg base k) (h:DefOk P w K mg base j x n den) (hj:decide (j<=k)=true:=by first | exact rfl | exact decide_eq_true (by omega)):FQ X x n den:=by
 obtain ⟨rfl,rfl,rfl,rfl,rfl,r,_⟩:=I;exact h.cal r hj
theorem Fx.i (F:Fx X Y) (I:In p X P w K mg base k):In p Y P w K mg base k:=⟨F.prog.trans I.e1,F.w.trans I.e2,F.K.trans I.e3,F.mg.trans I.e4,F.base.trans I.e5,by rw [F.A];exact I.rm,I.pp⟩
abbrev Bd (p:Fg->(Str->Option Value)->Prop) (P:Program) (w:World) (K:Fg) (mg:Str->Option Value) (base:Heap) (k:Nat) (N gl:List Str) (vs cs gs:List Nat) (s:Stmt) (g:FS):Prop:=∀X:Cx,Cp X N gl vs cs vs (Cd vs cs) gs->In p X P w K mg base k->PassesOwn (model X.prog X.w) X.A X.env X.xe->TQ.Q (PSs X (rK s) (tS X.K W0 g))
theorem Lz (F:Ft K mg x s) (b:wa x s ps):DefOk P w K mg base j x ps.length (fun _=>.no):=by
 obtain ⟨f,fd,hm,F⟩:=F;exact ⟨f,fd,ps,Fi,hm,F.kp,HM F b⟩
theorem Lm {f:Addr} {fd:FuncData} (F:Fun K x x s f fd) (e:p K mg) (N gl:List Str) (vs cs gs:List Nat) (h:fB N gl ps vs cs gs s=true) (hb:Bd p P w K mg base k N gl vs cs gs s g):dw P w K mg base nB (k+1) f fd ps (pN K ps.length (aB N.length g)):=by
 obtain ⟨h1,h2,h3⟩:=Fj h;exact CI F h3 fun cdv A outer s H E hr=>(hb _ (Cp.fn h1 h2) ⟨rfl,rfl,rfl,rfl,rfl,hr,e⟩ PassesOwn.never).p
theorem mk (F:Ft K mg x s) (e:p K mg) (ps:List Str) (b:wa x s ps) (rs gl:List Str) (vs cs gs:List Nat) (hb:Bd p P w K mg base k (ps++rs) gl vs cs gs s g) (h:fB (ps++rs) gl ps vs cs gs s=true:=by kernel_rfl):DefOk P w K mg base (k+1) x ps.length (aB (ps++rs).length g):=by
 obtain ⟨f,fd,hm,F⟩:=F;exact ⟨f,fd,ps,Lm F e _ gl vs cs gs h hb,hm,F.kp,HM F b⟩
theorem Ly {fa:Addr} (F:Ft K mg x s) (e:p K mg) (q:Str) (b:wa x s [q]) (hfa:mg x=some (.ref fa)) (rs gl:List Str) (vs cs gs:List Nat) (hb:∀base,Bd p P w K mg base k ([q]++rs) gl vs cs gs s g) (h:fB ([q]++rs) gl [q] vs cs gs s=true:=by kernel_rfl) :
  ∃fd:FuncData,(∀(s:Shared) (v:Value),BindsTo s fd ⟨[v],[]⟩ [(q,v)])/\∀base:Heap,K.In base->base.Ns mainGlobals mg->dw P w K mg base nB (k+1) fa fd [q] (pN K 1 (aB ([q]++rs).length g)):=by
 obtain ⟨f,fd,hm,F⟩:=F;have e':=hfa.symm.trans hm
 cases e'
 refine ⟨fd,fun s v=>?_,fun base _ _=>Lm F e _ gl vs cs gs h (hb base)⟩
 obtain ⟨oc,od,kV,doc,pm,an,cdv,ct,osl,rfl,lk,hcd⟩:=F.ex;exact .of_eq (b [v] rfl kV doc pm an cdv ct)
section
variable {h:Heap} {a:Addr} {dd:Option Addr} {its:Array Value} {n:Nat} {sl:Array (Option Value)} {ds:List L4} (KX:K.In h) (G:h.Ns mainGlobals mg)
include KX G
theorem gn (z:PySem.W.nsIn K mainGlobals x=some none):mg x=none:=PySem.W.mg_none_of KX G z
theorem gi {i:Int} {t:Tok} (z:PySem.W.nsIn K mainGlobals x=some (some (.int i t))):dP K mg x (.int i):=yK (PySem.W.mg_of KX G z)
theorem gt (z:PySem.W.nsIn K mainGlobals x=some (some (.ref a))) (l:K.lookup a=some ⟨.type "tuple",dd,.seq its n,sl⟩) (c:CV its ds=true):dP K mg x (.tuple ds):=yI (PySem.W.mg_of KX G z) l c
theorem gd {es:Array DictEntry} {ep:Nat} {tab:List (Str×Int)} (z:PySem.W.nsIn K mainGlobals x=some (some (.ref a))) (l:K.lookup a=some ⟨.type "dict",none,.dict es ep,#[]⟩) (c:sx a es tab=true):pj K mg x tab:=yJ (PySem.W.mg_of KX G z) l c
end
theorem walkG {m:List L4->Res} {l:PySem.W.OpenLaw} {q:Program} {loose:List Str} {XP:(Str->Option Value)->Heap->Prop} {YP:World->Heap->Prop} {d:DefRec} {K:Params->Fg} (lt:∀ns:List Int,ns.length<=63->m [.list (ns.map .int)]=.ok ⟨.leaf,.bool true⟩) (hr:Room j callerA) (hn:l.most=some 63) (hdf:d.params.defaults=[])
  (hY:∀(w:World) (h:Heap),YP w h->(K w.params).In h)
  (F:∀(w:World) (mg:Str->Option Value) (fa:Addr) (h:Heap),(K w.params).In h->h.Ns mainGlobals mg->mg d.name=some (.ref fa) ->
   ∃fd:FuncData,(∀(s:Shared) (u:Value),BindsTo s fd ⟨[u],[]⟩ [("script",u)])/\∀base:Heap,(K w.params).In base->base.Ns mainGlobals mg->dw l.prog w (K w.params) mg base nB j fa fd ["script"] (pN (K w.params) 1 m)) :
  PySem.W.WalkO q loose XP YP l.row.toRowW d [] (fun f vs=>PySem.call f vs):=
 L2.walk_of (n:=63) (k:=j) (x := "script") (CX:=fun _=>nB) (sp:=fun w=>pN (K w.params) 1 m) hn (by decide) hdf hr hY F (fun _ _ a ns hl _ hS=>Ce (lt ns hl) hS) fun _ _ _ _ _ z=>z
end
end T
namespace TQ
open PySem PySem.Spec L2 T
open PyProof.Rows hiding St
section
variable {X:Cx} {N gl:List Str} {vs cs ls lo gs:List Nat} {W:XW} {a b c e:Expr} {es:List Expr} {pos p:Pos} {fa fb fc:F1} {fl:FL} {ga gb:FB} {g1 g2 g:FS}
theorem aj (S:Cp X N gl vs cs ls lo gs) (i:Nat) {x:Str} (hN:N[i]?=some x:=by exact rfl) (hv:vs.contains i=true:=by exact rfl):Q (PE X (.Name x pos) (tE X.K W (ae i))):=JG S i hN hv
theorem aL (ha:Q (PE X e (tE X.K W fa))) (hr:Q (PA X es (tA X.K W fl))) (hs:y1 e=false:=by exact rfl):Q (PA X (e::es) (tA X.K W (ab fa fl))):=il ha hr (dB hs)
theorem aD (ha:Q (PE X e (tE X.K W fa))) (hs:y1 e=false:=by exact rfl):Q (PA X [e] (tA X.K W (ab fa af))):=il ha vR (dB hs)
theorem aU (ha:Q (PE X a (tE X.K W fa))) (hb:Q (PE X b (tE X.K W fb))) (hs:Df b:=by exact fun _ _=>rfl):Q (PE X (.Subscript a b pos) (tE X.K W (ai fa fb))):=rW ha hb hs
theorem bf {x:Str} {n:Nat} {den:List L4->Res} (S:Cp X N gl vs cs ls lo gs) (j:Nat) (C:FQ X x n den) (ha:Q (PA X (e::es) (tA X.K W fl))) (hj:gl[j]?=some x:=by exact rfl) (hg:gs.contains j=true:=by exact rfl) (he:y1 e=false:=by exact rfl) (hpl:(backTo pos (starEach es X.env)).any (·.1)=false:=by exact rfl):Q (PE X (.Call (.Name x p) (e::es) [] pos) (tE X.K W (ag n den fl))):=JK S j hj hg C ha (dB he) hpl
theorem bP (S:Cp X N gl vs cs ls lo gs) (own:Bool) (i:Nat) {x:Str} {pos':Pos} (ha:Q (PE X a (tE X.K W fa))) (hi:N[i]?=some x:=by exact rfl) (hl:ls.contains i=true:=by exact rfl) (hs:swapsWith a (some (.Name x pos')) pos.line X.env=pure false:=by exact rfl):Q (PS X (.Assign [.Name x pos'] a pos) (tS X.K W (aA own i fa))):=rX S own i hi hl hs ha
theorem dW (S:Cp X N gl vs cs ls lo gs) (j:Nat) (hm:X.mg "len"=none) (ha:Q (PA X (e::es) (tA X.K W fl))) (hj:gl[j]?=some ("len":Str):=by exact rfl) (hg:gs.contains j=true:=by exact rfl) (he:y1 e=false:=by exact rfl) (hpl:(backTo pos (starEach es X.env)).any (·.1)=false:=by exact rfl):Q (PE X (.Call (.Name "len" p) (e::es) [] pos) (tE X.K W (ba aV fl))):=sd S j hj hg hm ha (dB he) hpl
theorem cc {op:CmpOp} {r:R2} {g:L4->L4->Option L4} (k:Ck X op r g) (ha:Q (PE X a (tE X.K W fa))) (hb:Q (PE X b (tE X.K W fb))) (hm:behindInMarks op b=false:=by with_unfolding_all rfl):Q (PT X (.Compare a [op] [b] pos) (tT X.K W (aP av (az g fa fb)))):=JH k ha hb hm
theorem et {op:CmpOp} {r:R2} {g:L4->L4->Option L4} (k:Ck X op r g) (ha:Q (PE X a (tE X.K W fa))) (hb:Q (PE X b (tE X.K W fb))) (hm:behindInMarks op b=false:=by with_unfolding_all rfl):Q (PE X (.Compare a [op] [b] pos) (tE X.K W (az g fa fb))):=JJ k ha hb hm
theorem bz (ha:Q (PE X a (tE X.K W fa))):Q (PSs X [.Return (some a) pos] (tS X.K W (aF fa))):=fF (rT ha)
theorem gH {scope:Scope} {x:Str} {px:Pos} {iter elt:Expr} {ifs:List Expr} {fi:FI} {fe:F1} {fc:FB} (vs' cs' gs':List Nat) (S:Cp X N gl vs cs ls lo gs) (i:Nat) (hi':Q (PI X (.Name x px) iter (tI X.K W fi))) (hc:vV X N gl vs' cs' [i] [] gs' fun Y=>Q (PF Y ifs (tT Y.K W0 fc))) (he:vV X N gl vs' cs' [i] [] gs' fun Y=>Q (PE Y elt (tE Y.K W0 fe))) (hx:N[i]?=some x:=by exact rfl) (h1:iW N i cs scope=true:=by kernel_rfl) (h2:o6 N gl vs' cs' [i] [] gs' scope=true:=by kernel_rfl) (hs:∀x,foldedSetIterable iter X.env x=pure x:=by exact fun _=>rfl):Q (PE X (.ListComp elt [⟨.Name x px,iter,ifs,0⟩] scope pos) (tE X.K W (ax .leaf i fi fc fe))):=JI S .leaf i hx h1 h2 hi' hc he hs
end
end TQ
namespace KQ
open PySem PySem.Spec L2 T TQ
open PyProof.Rows hiding St
open KC
def bX (n:Nat):Stmt:=(PySem.Challenge.pw_foreseehall_k89_whole_ways_in_least_worl.main.body)[n]!
def sS:Stmt:=bX 6
def gK:Stmt:=bX 7
def mi:Stmt:=bX 8
def j8:Stmt:=bX 13
def kd:Stmt:=bX 14
def kc:Stmt:=bX 15
def kb:Stmt:=bX 16
def mq:Stmt:=bX 17
def gO:Stmt:=bX 18
def mm:Stmt:=bX 23
def j9:Stmt:=bX 24
def fO:Stmt:=bX 25
def j7:Stmt:=bX 26
def dY:Stmt:=bX 27
def dZ:Stmt:=bX 28
def gL:Stmt:=bX 33
def dm:Stmt:=bX 34
def ml:Stmt:=bX 35
def my:Stmt:=bX 36
def mh:Stmt:=bX 37
def sQ:Stmt:=bX 38
def pU:Stmt:=bX 42
def sR:Stmt:=bX 43
def ka:Stmt:=bX 44
def pR:Stmt:=bX 45
def mw:Stmt:=bX 46
def i9:Stmt:=bX 47
def wZ:Stmt:=bX 48
def ja:Stmt:=bX 49
def mr:Stmt:=bX 50
def gN:Stmt:=bX 51
def j6:Stmt:=bX 52
def pS:Stmt:=bX 55
def fm:Stmt:=bX 56
def dF:Stmt:=bX 57
def fo:Stmt:=bX 58
def pT:Stmt:=bX 59
def gM:Stmt:=bX 60
def fP:Stmt:=bX 62
def kf:Stmt:=bX 63
def jb:Stmt:=bX 64
def mz:Stmt:=bX 65
def jc:Stmt:=bX 66
def ke:Stmt:=bX 67
def Ey:Stmt:=bX 68
structure Gl (K:Fg) (mg:Str->Option Value):Prop where
 n0:mg "any"=none
 n1:mg "all"=none
 n2:mg "len"=none
 n3:mg "range"=none
 n4:mg "isinstance"=none
 n5:mg "tuple"=none
 n6:mg "str"=none
 n7:mg "list"=none
 n8:mg "sorted"=none
 n9:mg "set"=none
 n10:mg "enumerate"=none
 n11:mg "max"=none
 n12:mg "int"=none
 h0:dP K mg "LETTERS" zj
 h1:dP K mg "MOST_ROOMS" JD
 h2:dP K mg "PLAYERS" Ao
 h3:dP K mg "MOST_WORDS" G5
 h4:dP K mg "MOST_DEPTH" G4
 h5:dP K mg "UNTILS" vQ
 h6:dP K mg "ALWAYS" zh
 h7:dP K mg "BY_SOME_STEP" Dt
 h8:dP K mg "OF_SOME" D3
 h9:dP K mg "OF_ALL" IF
 t0:pj K mg "PARTS" Gh
structure Al (K:Fg) (mg:Str->Option Value):Prop where
 g:Gl K mg
 f0:Ft K mg "is_led" sS
 f1:Ft K mg "ranked_next" gK
 f2:Ft K mg "ranks_to" mi
 f3:Ft K mg "is_rising" j8
 f4:Ft K mg "are_marks" kd
 f5:Ft K mg "are_rooms" kc
 f6:Ft K mg "are_steps" kb
 f7:Ft K mg "is_world" mq
 f8:Ft K mg "check_world" gO
 f9:Ft K mg "parts_of" mm
 f10:Ft K mg "is_formed" j9
 f11:Ft K mg "parts_of_all" fO
 f12:Ft K mg "layers_of" j7
 f13:Ft K mg "checked_layers" dY
 f14:Ft K mg "check_sentence" dZ
 f15:Ft K mg "other_rooms" gL
 f16:Ft K mg "through_and_goal" dm
 f17:Ft K mg "ranks_of" ml
 f18:Ft K mg "holds_at" my
 f19:Ft K mg "rooms_by" mh
 f20:Ft K mg "judged" sQ
 f21:Ft K mg "goes_on" pU
 f22:Ft K mg "is_way" sR
 f23:Ft K mg "check_way" ka
 f24:Ft K mg "room_of" pR
 f25:Ft K mg "is_round" mw
 f26:Ft K mg "once_round" i9
 f27:Ft K mg "short" wZ
 f28:Ft K mg "check_kind" ja
 f29:Ft K mg "is_until" mr
 f30:Ft K mg "is_so_along" gN
 f31:Ft K mg "way_shows" j6
 f32:Ft K mg "numbered" D9
 f33:Ft K mg "look_of" pS
 f34:Ft K mg "classes_ahead" fm
 f35:Ft K mg "parted_by_steps" dF
 f36:Ft K mg "class_numbers" fo
 f37:Ft K mg "grouped" pT
 f38:Ft K mg "least_world" gM
 f39:Ft K mg "_law_cell_at" fP
 f40:Ft K mg "_law_draw" kf
 f41:Ft K mg "_law_world" jb
 f42:Ft K mg "_law_way" mz
 f43:Ft K mg "_law_timed" jc
 f44:Ft K mg "_law_part" ke
 f45:Ft K mg "law" Ey
section
variable {P:Program} {w:World} {K:Fg} {mg:Str->Option Value} {base:Heap} (A:Al K mg)
include A
theorem kq:DefOk P w K mg base 1 "is_led" 2 zd:=mk A.f0 A.g ["is_chosen", "by_steps"] lL [] ["any", "all"] [0,1] [] [0,1] fun X S I hp=>
 (bz (DR (lU (aj S 0) (fun _=>rfl)) (jO S 0 rfl rfl I.e.n0 (aD (aj S 1)) (dB rfl) rfl) (rA S 1 rfl rfl I.e.n1 (aD (aj S 1)) (dB rfl) rfl)))
theorem gQ:DefOk P w K mg base 2 "ranked_next" 4 Eb:=mk A.f1 A.g ["world", "chosen", "through", "ranks"] Hz ["found", "room", "there"] ["is_led"] [0,1,2,3,4,5] [3] [0] fun X S I hp=>
 (aT (bP S true 4 (nH .leaf vR)) (aT (Am S 5 rfl rfl hp (fE (aj S 2)) (fF (dQ (wj (Gv (cc (BF I.r) (aU (aj S 3) (aj S 5)) zk) (GB (lU (bf S 0 (I.c (kq A)) (aL (aU (aj S 1) (aj S 5)) (aD (gH [3,6] [3] [] S 6 (fE (aU (aU (aj S 0) aH) (aj S 5))) (fun _ _ _=>dU) (fun Y1 S1 F1=>have I:=F1.i I;(et (ot I.r) (aU (aj S1 3) (aj S1 6)) zk)))))) (fun _=>rfl))))) (fF (Ap S 4 rfl rfl (aj S 5) (cS rfl) rfl rfl rfl rfl)) dS)) (fun _=>rfl)) (bz (gG S 4 rfl rfl))))
theorem mH:DefOk P w K mg base 3 "ranks_to" 4 Jw:=mk A.f2 A.g ["world", "chosen", "through", "goal"] Hz ["ranks", "rank", "fresh", "room", "owner"] ["ranked_next"] [0,1,2,3,4,5,6,7] [] [0] fun X S I hp=>
 (aT (rQ (vs':=[8]) (cs':=[]) (lo':=[]) (gs':=[]) S true 4 .leaf 8 rfl rfl rfl rfl (by kernel_rfl) (by kernel_rfl) (by kernel_rfl) (fE (aU (aj S 0) aH)) (fun _ _ _=>dU) (fun Y1 S1 F1=>zk) (fun _=>rfl)) (aT (bP S false 5 aH) (aT (bP S false 6 (aj S 3)) (aT (Ea 1000 hp (lU (aj S 6) (fun _=>rfl)) (aT (Am S 7 rfl rfl hp (fE (aj S 6)) (fF (pD S 4 rfl rfl (aj S 5) (aj S 7) rfl rfl rfl (fun _=>rfl))) (fun _=>rfl)) (aT (jL S 5 rfl rfl aH) (fF (bP S false 6 (AC S 0 rfl rfl (I.c (gQ A)) (aL (aj S 0) (aL (aj S 1) (aL (aj S 2) (aD (aj S 4))))) (dB rfl) rfl)))))) (bz (gG S 4 rfl rfl))))))
theorem eO:DefOk P w K mg base 1 "is_rising" 1 GJ:=mk A.f3 A.g ["entries"] nq ["k"] ["len", "range", "all"] [0] [0] [0,1,2] fun X S I hp=>
 (bz (rA S 2 rfl rfl I.e.n1 (aD (gH [0,1] [0] [] S 1 (rZ S 1 rfl rfl I.e.n3 (aL aH (aD (dW S 0 I.e.n2 (aD (aj S 0))))) (IP rfl rfl) (cS rfl)) (fun _ _ _=>dU) (fun Y1 S1 F1=>have I:=F1.i I;(et (qb I.r) (aU (aj S1 0) (Gu (aj S1 1) aH)) (aU (aj S1 0) (aj S1 1)))))) (dB rfl) rfl))
theorem kz:DefOk P w K mg base 2 "are_marks" 1 GG:=mk A.f4 A.g ["entries"] nq ["entry"] ["LETTERS", "all", "is_rising"] [0] [] [1,2] fun X S I hp=>
 (bz (ze (rA S 1 rfl rfl I.e.n1 (aD (gH [1] [] [0] S 1 (fE (aj S 0)) (fun _ _ _=>dU) (fun Y1 S1 F1=>have I:=F1.i I;(et (cG I.r) (aj S1 1) (cE S1 0 rfl rfl I.e.h0))))) (dB rfl) rfl) (zg (bf S 2 (I.c (eO A)) (aD (aj S 0))))))
theorem ky:DefOk P w K mg base 2 "are_rooms" 2 Jr:=mk A.f5 A.g ["entries", "size"] lL ["entry"] ["all", "is_rising"] [0,1] [1] [0,1] fun X S I hp=>
 (bz (ze (rA S 0 rfl rfl I.e.n1 (aD (gH [1,2] [1] [] S 2 (fE (aj S 0)) (fun _ _ _=>dU) (fun Y1 S1 F1=>have I:=F1.i I;(zl (EL I.r) (qb I.r) aH (aj S1 2) (aj S1 1) (by with_unfolding_all rfl))))) (dB rfl) rfl) (zg (bf S 1 (I.c (eO A)) (aD (aj S 0))))))
theorem kx:DefOk P w K mg base 3 "are_steps" 2 GH:=mk A.f6 A.g ["entries", "size"] lL [] ["len", "are_rooms"] [0,1] [] [0,1] fun X S I hp=>
 (bz (ze (et (xx I.r) (dW S 0 I.e.n2 (aD (aj S 0))) aH) (zg (bf S 1 (I.c (ky A)) (aL (aj S 0) (aD (aj S 1)))))))
theorem mJ:DefOk P w K mg base 4 "is_world" 3 GM:=mk A.f7 A.g ["owners", "marks", "steps"] vU ["size", "owner", "row"] ["len", "MOST_ROOMS", "PLAYERS", "all", "are_marks", "are_steps"] [0,1,2,3] [3] [0,1,3] fun X S I hp=>
 (aT (bP S false 3 (dW S 0 I.e.n2 (aD (aj S 0)))) (aT (dQ (wj (wg (cc (qb I.r) (aj S 3) aH) (wg (cc (xx I.r) (aj S 3) (cE S 1 rfl rfl I.e.h1)) (wg (cc (BD I.r) (dW S 0 I.e.n2 (aD (aj S 1))) (aj S 3)) (D0 (cc (BD I.r) (dW S 0 I.e.n2 (aD (aj S 2))) (aj S 3))))))) (bz vN) dS) (aT (dQ (zf (lU (rA S 3 rfl rfl I.e.n1 (aD (gH [4] [] [2] S 4 (fE (aj S 0)) (fun _ _ _=>dU) (fun Y1 S1 F1=>have I:=F1.i I;(et (cG I.r) (aj S1 4) (cE S1 2 rfl rfl I.e.h2))))) (dB rfl) rfl) (fun _=>rfl))) (bz vN) dS) (bz (ze (rA S 3 rfl rfl I.e.n1 (aD (gH [5] [] [4] S 5 (fE (aj S 1)) (fun _ _ _=>dU) (fun Y2 S2 F2=>have I:=F2.i I;(bf S2 4 (I.c (kz A)) (aD (aj S2 5)))))) (dB rfl) rfl) (zg (rA S 3 rfl rfl I.e.n1 (aD (gH [3,5] [3] [5] S 5 (fE (aj S 2)) (fun _ _ _=>dU) (fun Y3 S3 F3=>have I:=F3.i I;(bf S3 5 (I.c (kx A)) (aL (aj S3 5) (aD (aj S3 3))))))) (dB rfl) rfl)))))))
theorem GZ:DefOk P w K mg base 5 "check_world" 1 Aq:=mk A.f8 A.g ["world"] nq [] ["is_world"] [0] [] [0] fun X S I hp=>
 (fF (dQ (zf (lU (bf S 0 (I.c (mJ A)) (aL (aU (aj S 0) aH) (aL (aU (aj S 0) aH) (aD (aU (aj S 0) aH))))) (fun _=>rfl))) (fF Gk) dS))
theorem Jx:DefOk P w K mg base 1 "parts_of" 1 lV:=mk A.f9 A.g ["sentence"] nq [] [] [0] [] [] fun X S I hp=>
 (bz (DR (cc (bU I.r) (aU (aj S 0) aH) dR) (ff vR) (r9 (aj S 0) aH)))
theorem ku:DefOk P w K mg base 1 "is_formed" 1 wq:=mk A.f10 A.g ["some"] nq [] ["isinstance", "tuple", "len", "str", "LETTERS", "PARTS"] [0] [] [0,1,2,3,4,5] fun X S I hp=>
 (aT (dQ (wj (wg (zf (lU (jN S 0 1 rfl rfl rfl rfl rfl pb I.e.n4 I.e.n5 (aj S 0) (dB rfl) (dB rfl) rfl) (fun _=>rfl))) (wg (cc (bU I.r) (dW S 2 I.e.n2 (aD (aj S 0))) aH) (D0 (zf (lU (jN S 0 3 rfl rfl rfl rfl rfl Fq I.e.n4 I.e.n6 (aU (aj S 0) aH) (dB rfl) (dB rfl) rfl) (fun _=>rfl))))))) (bz vN) dS) (aT (dQ (cc (bU I.r) (aU (aj S 0) aH) dR) (bz (ze (et (bU I.r) (dW S 2 I.e.n2 (aD (aj S 0))) aH) (zg (et (cG I.r) (aU (aj S 0) aH) (cE S 4 rfl rfl I.e.h0))))) dS) (bz (ze (fJ S 5 rfl rfl I.e.t0 (aU (aj S 0) aH)) (zg (et (bU I.r) (dW S 2 I.e.n2 (aD (aj S 0))) (nG aH (pI S 5 rfl rfl I.e.t0 (aU (aj S 0) aH) (fun _ _=>rfl)))))))))
theorem fT:DefOk P w K mg base 2 "parts_of_all" 1 G7:=mk A.f11 A.g ["sentences"] nq ["found", "sentence"] ["parts_of"] [0,1,2] [] [0] fun X S I hp=>
 (aT (bP S true 1 (nH .leaf vR)) (aT (Am S 2 rfl rfl hp (fE (aj S 0)) (fF (jK S 1 rfl rfl (bf S 0 (I.c (Jx A)) (aD (aj S 2))) (cS rfl) rfl rfl rfl rfl)) (fun _=>rfl)) (bz (gG S 1 rfl rfl))))
theorem ko:DefOk P w K mg base 3 "layers_of" 1 Js:=mk A.f12 A.g ["some"] nq ["layers", "layer", "many", "each"] ["len", "MOST_WORDS", "MOST_DEPTH", "is_formed", "all", "parts_of_all"] [0,1,2,3] [] [0,1,2,4,5] fun X S I hp=>
 (aT (bP S true 1 (nH .leaf vR)) (aT (bP S false 2 (nH .leaf (aD (aj S 0)))) (aT (bP S false 3 aH) (aT (Ea 1000 hp (lU (aj S 2) (fun _=>rfl)) (aT (jL S 3 rfl rfl (dW S 0 I.e.n2 (aD (aj S 2)))) (aT (dQ (wj (wg (cc (xx I.r) (aj S 3) (cE S 1 rfl rfl I.e.h3)) (wg (cc (bU I.r) (dW S 0 I.e.n2 (aD (aj S 1))) (cE S 2 rfl rfl I.e.h4)) (D0 (zf (lU (rA S 4 rfl rfl I.e.n1 (aD (gH [4] [] [3] S 4 (fE (aj S 2)) (fun _ _ _=>dU) (fun Y1 S1 F1=>have I:=F1.i I;(bf S1 3 (I.c (ku A)) (aD (aj S1 4)))))) (dB rfl) rfl) (fun _=>rfl))))))) (bz zk) dS) (aT (Ap S 1 rfl rfl (aj S 2) (cS rfl) rfl rfl rfl rfl) (fF (bP S false 2 (bf S 5 (I.c (fT A)) (aD (aj S 2))))))))) (bz (gG S 1 rfl rfl))))))
theorem d5:DefOk P w K mg base 4 "checked_layers" 1 JF:=mk A.f13 A.g ["sentence"] nq ["layers"] ["layers_of"] [0,1] [] [0] fun X S I hp=>
 (aT (bP S false 1 (bf S 0 (I.c (ko A)) (aD (aj S 0)))) (aT (dQ (cc (BF I.r) (aj S 1) zk) (fF Gk) dS) (bz (aj S 1))))
theorem d6:DefOk P w K mg base 5 "check_sentence" 1 JE:=mk A.f14 A.g ["sentence"] nq [] ["checked_layers"] [0] [] [0] fun X S I hp=>
 (fF (wo (bf S 0 (I.c (d5 A)) (aD (aj S 0))) rfl))
theorem gR:DefOk P w K mg base 1 "other_rooms" 2 GY:=mk A.f15 A.g ["world", "rooms"] lL ["room"] ["len", "range"] [0,1] [1] [0,1] fun X S I hp=>
 (bz (gH [1,2] [1] [] S 2 (dC S 1 rfl rfl I.e.n3 (aD (dW S 0 I.e.n2 (aD (aU (aj S 0) aH)))) (cS rfl)) (fun Y1 S1 F1=>have I:=F1.i I;Do (cc (Ah I.r) (aj S1 2) (aj S1 1))) (fun Y1 S1 F1=>have I:=F1.i I;(aj S1 2))))
theorem dq:DefOk P w K mg base 2 "through_and_goal" 3 Dw:=mk A.f16 A.g ["world", "sentence", "parts"] vU [] ["UNTILS", "len", "list", "range", "other_rooms"] [0,1,2] [] [0,1,2,3,4] fun X S I hp=>
 (aT (dQ (cc (cG I.r) (aU (aj S 1) aH) (cE S 0 rfl rfl I.e.h5)) (bz (ff (aL (aU (aj S 2) aH) (aD (aU (aj S 2) aH))))) dS) (bz (ff (aL (fK S 2 3 rfl rfl I.e.n7 rfl rfl I.e.n3 (aD (dW S 1 I.e.n2 (aD (aU (aj S 0) aH)))) (cS rfl) (cS rfl)) (aD (bf S 4 (I.c (gR A)) (aL (aj S 0) (aD (aU (aj S 2) aH)))))))))
theorem mI:DefOk P w K mg base 4 "ranks_of" 3 As:=mk A.f17 A.g ["world", "sentence", "parts"] vU ["word", "both", "owner"] ["UNTILS", "ALWAYS", "through_and_goal", "BY_SOME_STEP", "ranks_to"] [0,1,2,3,4] [3] [0,1,2,4] fun X S I hp=>
 (aT (bP S false 3 (aU (aj S 1) aH)) (aT (dQ (wj (Gv (cc (Ah I.r) (aj S 3) (cE S 0 rfl rfl I.e.h5)) (GB (cc (Ah I.r) (aj S 3) (cE S 1 rfl rfl I.e.h6))))) (bz zk) dS) (aT (bP S false 4 (bf S 2 (I.c (dq A)) (aL (aj S 0) (aL (aj S 1) (aD (aj S 2)))))) (bz (bf S 4 (I.c (mH A)) (aL (aj S 0) (aL (gH [3,5] [3] [3] S 5 (fE (aU (aj S 0) aH)) (fun _ _ _=>dU) (fun Y1 S1 F1=>have I:=F1.i I;(et (cG I.r) (aj S1 3) (cE S1 3 rfl rfl I.e.h7)))) (aL (aU (aj S 4) aH) (aD (aU (aj S 4) aH))))))))))
theorem mM:DefOk P w K mg base 2 "holds_at" 5 GK:=mk A.f18 A.g ["world", "sentence", "parts", "ranks", "room"] LG ["word", "here", "rooms", "there"] ["UNTILS", "ALWAYS", "all", "any", "BY_SOME_STEP", "is_led"] [0,1,2,3,4,5,6] [2,4] [0,1,2,3,4,5] fun X S I hp=>
 (aT (bP S false 5 (aU (aj S 1) aH)) (aT (dQ (cc (bU I.r) (aj S 5) dR) (bz vN) dS) (aT (dQ (cc (bU I.r) (aj S 5) dR) (bz (et (cG I.r) (aU (aj S 1) aH) (aU (aU (aj S 0) aH) (aj S 4)))) dS) (aT (dQ (cc (cG I.r) (aj S 5) (cE S 0 rfl rfl I.e.h5)) (bz (et (ot I.r) (aU (aj S 3) (aj S 4)) zk)) dS) (aT (dQ (cc (cG I.r) (aj S 5) (cE S 1 rfl rfl I.e.h6)) (bz (et (BF I.r) (aU (aj S 3) (aj S 4)) zk)) dS) (aT (rQ (vs':=[4,7]) (cs':=[4]) (lo':=[]) (gs':=[]) S false 6 .leaf 7 rfl rfl rfl rfl (by kernel_rfl) (by kernel_rfl) (by kernel_rfl) (fE (aj S 2)) (fun _ _ _=>dU) (fun Y1 S1 F1=>have I:=F1.i I;(et (cG I.r) (aj S1 4) (aj S1 7))) (fun _=>rfl)) (aT (dQ (cc (bU I.r) (aj S 5) dR) (bz (rV (aU (aj S 6) aH))) dS) (aT (dQ (wj (wg (cc (bU I.r) (aj S 5) dR) (D0 (cc (bU I.r) (aj S 5) dR)))) (bz (DR (cc (bU I.r) (aj S 5) dR) (rA S 2 rfl rfl I.e.n1 (aD (aj S 6)) (dB rfl) rfl) (jO S 3 rfl rfl I.e.n0 (aD (aj S 6)) (dB rfl) rfl))) dS) (bz (bf S 5 (I.c (kq A)) (aL (et (cG I.r) (aj S 5) (cE S 4 rfl rfl I.e.h7)) (aD (gH [2,8] [2] [] S 8 (fE (aU (aU (aj S 0) aH) (aj S 4))) (fun _ _ _=>dU) (fun Y2 S2 F2=>have I:=F2.i I;(et (cG I.r) (aj S2 8) (aU (aj S2 2) aH))))))))))))))))
theorem mG:DefOk P w K mg base 3 "rooms_by" 4 GN:=mk A.f19 A.g ["world", "sentence", "parts", "ranks"] Hz ["room"] ["len", "range", "holds_at"] [0,1,2,3] [0,1,2,3] [0,1] fun X S I hp=>
 (bz (gH [0,1,2,3,4] [0,1,2,3] [2] S 4 (dC S 1 rfl rfl I.e.n3 (aD (dW S 0 I.e.n2 (aD (aU (aj S 0) aH)))) (cS rfl)) (fun Y1 S1 F1=>have I:=F1.i I;Do (lU (bf S1 2 (I.c (mM A)) (aL (aj S1 0) (aL (aj S1 1) (aL (aj S1 2) (aL (aj S1 3) (aD (aj S1 4))))))) (fun _=>rfl))) (fun Y1 S1 F1=>have I:=F1.i I;(aj S1 4))))
theorem qk (n:Nat):DefOk P w K mg base (4+n) "judged" 2 (Ak n):=by
 induction n with
 | zero=>exact Lz A.f20 lL
 | succ n ih=>exact mk (k:=4+n) A.f20 A.g ["world", "sentence"] lL ["parts", "part"] ["parts_of", "judged", "ranks_of", "rooms_by"] [0,1,2] [0] [0,2,3] fun X S I hp=>
  (aT (rQ (vs':=[0,3]) (cs':=[0]) (lo':=[]) (gs':=[1]) S false 2 .leaf 3 rfl rfl rfl rfl (by kernel_rfl) (by kernel_rfl) (by kernel_rfl) (jI (bf S 0 (I.c (Jx A)) (aD (aj S 1)))) (fun _ _ _=>dU) (fun Y1 S1 F1=>have I:=F1.i I;(bf S1 1 (I.c ih) (aL (aj S1 0) (aD (aj S1 3))))) (fun _=>rfl)) (bz (bf S 3 (I.c (mG A)) (aL (aj S 0) (aL (aj S 1) (aL (aj S 2) (aD (bf S 2 (I.c (mI A)) (aL (aj S 0) (aL (aj S 1) (aD (aj S 2))))))))))))
theorem um:DefOk P w K mg base 34 "judged" 2 DW:=qk A 30
theorem iG:DefOk P w K mg base 1 "goes_on" 2 Gy:=mk A.f21 A.g ["world", "way"] lL ["rooms", "k", "room"] ["len", "all", "range"] [0,1,2] [0,2] [0,1,2] fun X S I hp=>
 (aT (bP S false 2 (Gr (Gr (aU (aj S 1) aH) (aU (aj S 1) aH)) (Dq (aU (aj S 1) aH) aH))) (aT (dQ (wj (wg (zf (lU (aU (aj S 1) aH) (fun _=>rfl))) (D0 (zf (lU (rA S 1 rfl rfl I.e.n1 (aD (gH [0,4] [0] [0] S 4 (fE (aj S 2)) (fun _ _ _=>dU) (fun Y1 S1 F1=>have I:=F1.i I;(zl (EL I.r) (qb I.r) aH (aj S1 4) (dW S1 0 I.e.n2 (aD (aU (aj S1 0) aH))) (by with_unfolding_all rfl))))) (dB rfl) rfl) (fun _=>rfl)))))) (bz vN) dS) (bz (rA S 1 rfl rfl I.e.n1 (aD (gH [0,2,3] [0,2] [] S 3 (rZ S 2 rfl rfl I.e.n3 (aL aH (aD (dW S 0 I.e.n2 (aD (aj S 2))))) (IP rfl rfl) (cS rfl)) (fun _ _ _=>dU) (fun Y2 S2 F2=>have I:=F2.i I;(et (cG I.r) (aU (aj S2 2) (aj S2 3)) (aU (aU (aj S2 0) aH) (aU (aj S2 2) (Gu (aj S2 3) aH))))))) (dB rfl) rfl))))
theorem uo:DefOk P w K mg base 6 "is_way" 2 IH:=mk A.f22 A.g ["world", "way"] lL [] ["check_world", "goes_on"] [0,1] [] [0,1] fun X S I hp=>
 (aT (wo (bf S 0 (I.c (GZ A)) (aD (aj S 0))) rfl) (bz (bf S 1 (I.c (iG A)) (aL (aj S 0) (aD (aj S 1))))))
theorem eP:DefOk P w K mg base 2 "check_way" 2 GI:=mk A.f23 A.g ["world", "way"] lL [] ["goes_on"] [0,1] [] [0] fun X S I hp=>
 (fF (dQ (zf (lU (bf S 0 (I.c (iG A)) (aL (aj S 0) (aD (aj S 1)))) (fun _=>rfl))) (fF Gk) dS))
theorem qo:DefOk P w K mg base 1 "room_of" 2 Je:=mk A.f24 A.g ["way", "place"] lL ["many"] ["len"] [0,1,2] [] [0] fun X S I hp=>
 (aT (bP S false 2 (dW S 0 I.e.n2 (aD (aU (aj S 0) aH)))) (bz (DR (cc (qb I.r) (aj S 1) (aj S 2)) (aU (aU (aj S 0) aH) (aj S 1)) (aU (aU (aj S 0) aH) (rB (Gu (aj S 1) (aj S 2)) (dW S 0 I.e.n2 (aD (aU (aj S 0) aH))))))))
theorem mL:DefOk P w K mg base 1 "is_round" 2 GL:=mk A.f25 A.g ["ring", "many"] lL [] ["len"] [0,1] [] [0] fun X S I hp=>
 (bz (ze (et (bU I.r) (rB (dW S 0 I.e.n2 (aD (aj S 0))) (aj S 1)) aH) (zg (et (bU I.r) (jM (aj S 0) (aj S 1)) (Dq (aj S 0) (wm (aj S 1)))))))
theorem jh:DefOk P w K mg base 2 "once_round" 1 Jz:=mk A.f26 A.g ["ring"] nq ["many"] ["len", "range", "is_round"] [0] [0] [0,1] fun X S I hp=>
 (bz (Dq (aj S 0) (aU (gH [0,1] [0] [2] S 1 (rZ S 1 rfl rfl I.e.n3 (aL aH (aD (nG (dW S 0 I.e.n2 (aD (aj S 0))) aH))) (IP rfl rfl) (cS rfl)) (fun Y1 S1 F1=>have I:=F1.i I;Do (lU (bf S1 2 (I.c (mL A)) (aL (aj S1 0) (aD (aj S1 1)))) (fun _=>rfl))) (fun Y1 S1 F1=>have I:=F1.i I;(aj S1 1))) aH)))
theorem xS:DefOk P w K mg base 6 "short" 2 F9:=mk A.f27 A.g ["world", "way"] lL ["front", "ring"] ["check_world", "check_way", "list", "once_round"] [0,1,2,3] [] [0,1,2,3] fun X S I hp=>
 (aT (wo (bf S 0 (I.c (GZ A)) (aD (aj S 0))) rfl) (aT (wo (bf S 1 (I.c (eP A)) (aL (aj S 0) (aD (aj S 1)))) rfl) (aT (bP S true 2 (ip S 2 rfl rfl I.e.n7 (aU (aj S 1) aH) (cS rfl))) (aT (bP S true 3 (bf S 3 (I.c (jh A)) (aD (aU (aj S 1) aH)))) (aT (Ea 1000 hp (wj (Gv (lU (aj S 2) (fun _=>rfl)) (GB (cc (bU I.r) (aU (aj S 2) (wm aH)) (aU (aj S 3) (wm aH)))))) (fF (pE S true 2 3 rfl rfl rfl rfl (Dq (aj S 3) (wm aH)) (cS rfl) rfl rfl rfl))) (bz (ff (aL (gG S 2 rfl rfl) (aD (gG S 3 rfl rfl))))))))))
theorem ji:DefOk P w K mg base 6 "check_kind" 1 Jy:=mk A.f28 A.g ["sentence"] nq [] ["check_sentence", "OF_SOME", "OF_ALL"] [0] [] [0,1,2] fun X S I hp=>
 (aT (wo (bf S 0 (I.c (d6 A)) (aD (aj S 0))) rfl) (fF (dQ (wj (Gv (cc (Ah I.r) (aU (aj S 0) aH) (cE S 1 rfl rfl I.e.h8)) (GB (cc (Ah I.r) (aU (aj S 0) aH) (cE S 2 rfl rfl I.e.h9))))) (fF Gk) dS)))
theorem mK:DefOk P w K mg base 1 "is_until" 3 Jv:=mk A.f29 A.g ["rooms", "first", "second"] vU ["room"] [] [0,1,2,3] [] [] fun X S I hp=>
 (aT (Am S 3 rfl rfl hp (fE (aj S 0)) (aT (dQ (cc (cG I.r) (aj S 3) (aj S 2)) (bz vN) dS) (fF (dQ (cc (Ah I.r) (aj S 3) (aj S 1)) (bz vN) dS))) (fun _=>rfl)) (bz vN))
theorem gW:DefOk P w K mg base 2 "is_so_along" 3 JB:=mk A.f30 A.g ["way", "word", "parts"] vU ["rooms", "room"] ["UNTILS", "is_until", "ALWAYS", "all", "room_of"] [0,1,2,3] [2] [0,1,2,3,4] fun X S I hp=>
 (aT (bP S false 3 (Gr (aU (aj S 0) aH) (aU (aj S 0) aH))) (aT (dQ (cc (cG I.r) (aj S 1) (cE S 0 rfl rfl I.e.h5)) (bz (bf S 1 (I.c (mK A)) (aL (aj S 3) (aL (aU (aj S 2) aH) (aD (aU (aj S 2) aH)))))) dS) (aT (dQ (cc (cG I.r) (aj S 1) (cE S 2 rfl rfl I.e.h6)) (bz (rA S 3 rfl rfl I.e.n1 (aD (gH [2,4] [2] [] S 4 (fE (aj S 3)) (fun _ _ _=>dU) (fun Y1 S1 F1=>have I:=F1.i I;(et (cG I.r) (aj S1 4) (aU (aj S1 2) aH))))) (dB rfl) rfl)) dS) (bz (et (cG I.r) (bf S 4 (I.c (qo A)) (aL (aj S 0) (aD aH))) (aU (aj S 2) aH))))))
theorem Jt:DefOk P w K mg base 35 "way_shows" 3 D8:=mk A.f31 A.g ["world", "sentence", "way"] vU ["parts", "part"] ["check_world", "check_kind", "check_way", "parts_of", "judged", "is_so_along", "OF_SOME"] [0,1,2,3] [0] [0,1,2,3,5,6] fun X S I hp=>
 (aT (wo (bf S 0 (I.c (GZ A)) (aD (aj S 0))) rfl) (aT (wo (bf S 1 (I.c (ji A)) (aD (aj S 1))) rfl) (aT (wo (bf S 2 (I.c (eP A)) (aL (aj S 0) (aD (aj S 2)))) rfl) (aT (rQ (vs':=[0,4]) (cs':=[0]) (lo':=[]) (gs':=[4]) S false 3 .leaf 4 rfl rfl rfl rfl (by kernel_rfl) (by kernel_rfl) (by kernel_rfl) (jI (bf S 3 (I.c (Jx A)) (aD (aj S 1)))) (fun _ _ _=>dU) (fun Y1 S1 F1=>have I:=F1.i I;(bf S1 4 (I.c (um A)) (aL (aj S1 0) (aD (aj S1 4))))) (fun _=>rfl)) (bz (et (bU I.r) (bf S 5 (I.c (gW A)) (aL (aj S 2) (aL (aU (aj S 1) aH) (aD (aj S 3))))) (et (cG I.r) (aU (aj S 1) aH) (cE S 6 rfl rfl I.e.h8))))))))
theorem fU:DefOk P w K mg base 1 "numbered" 1 rP:=match A.f32 with | ⟨_,_,hm,F⟩=>kn F hm (HM F nq) A.g.n2
theorem qp:DefOk P w K mg base 1 "look_of" 3 GA:=mk A.f33 A.g ["world", "room", "owned"] vU ["marks"] ["tuple"] [0,1,2,3] [] [0] fun X S I hp=>
 (aT (bP S false 3 (fI S 0 rfl rfl I.e.n5 (aU (aU (aj S 0) aH) (aj S 1)) (cS rfl))) (bz (DR (lU (aj S 2) (fun _=>rfl)) (ff (aL (aj S 3) (aD (aU (aU (aj S 0) aH) (aj S 1))))) (ff (aD (aj S 3))))))
theorem cB:DefOk P w K mg base 1 "classes_ahead" 2 Du:=mk A.f34 A.g ["numbers", "steps"] lL ["there"] ["sorted", "set"] [0,1] [0] [0,1] fun X S I hp=>
 (bz (i7 S 0 1 rfl rfl I.e.n8 rfl rfl I.e.n9 (aD (gH [0,2] [0] [] S 2 (fE (aj S 1)) (fun _ _ _=>dU) (fun Y1 S1 F1=>(aU (aj S1 0) (aj S1 2))))) (cS rfl) (cS rfl)))
theorem bY:DefOk P w K mg base 2 "parted_by_steps" 2 Au:=mk A.f35 A.g ["world", "numbers"] lL ["room", "steps"] ["enumerate", "classes_ahead", "tuple", "numbered"] [0,1] [1] [0,3] fun X S I hp=>
 (bz (bf S 3 (I.c (fU A)) (aD (Ef (vs':=[1,2,3]) (cs':=[1]) (lo':=[]) (gs':=[1,2]) S .leaf 2 3 0 rfl rfl rfl rfl rfl I.e.n10 (by kernel_rfl) (by kernel_rfl) (aU (aj S 0) aH) (cS rfl) (fun _ _ _=>dU) (fun Y1 S1 F1=>have I:=F1.i I;(ff (aL (aU (aj S1 1) (aj S1 2)) (aD (fI S1 2 rfl rfl I.e.n5 (bf S1 1 (I.c (cB A)) (aL (aj S1 1) (aD (aj S1 3)))) (cS rfl)))))) (fun _=>rfl)))))
theorem fq:DefOk P w K mg base 3 "class_numbers" 2 G6:=mk A.f36 A.g ["world", "owned"] lL ["numbers", "parted", "room"] ["len", "range", "look_of", "numbered", "parted_by_steps"] [0,1,2,3] [0,1] [0,1,3,4] fun X S I hp=>
 (aT (bP S false 2 (bf S 3 (I.c (fU A)) (aD (gH [0,1,4] [0,1] [2] S 4 (dC S 1 rfl rfl I.e.n3 (aD (dW S 0 I.e.n2 (aD (aU (aj S 0) aH)))) (cS rfl)) (fun _ _ _=>dU) (fun Y1 S1 F1=>have I:=F1.i I;(bf S1 2 (I.c (qp A)) (aL (aj S1 0) (aL (aj S1 4) (aD (aj S1 1)))))))))) (aT (bP S false 3 (bf S 4 (I.c (bY A)) (aL (aj S 0) (aD (aj S 2))))) (aT (Ea 1000 hp (cc (BD I.r) (aj S 3) (aj S 2)) (aT (bP S false 2 (aj S 3)) (fF (bP S false 3 (bf S 4 (I.c (bY A)) (aL (aj S 0) (aD (aj S 2)))))))) (bz (aj S 2)))))
theorem qq:DefOk P w K mg base 1 "grouped" 1 Gz:=mk A.f37 A.g ["numbers"] nq ["groups", "room", "number"] ["max", "range", "enumerate"] [0,1,2,3] [] [0,1,2] fun X S I hp=>
 (aT (rQ (vs':=[3]) (cs':=[]) (lo':=[]) (gs':=[]) S true 1 (.lst .leaf) 3 rfl rfl rfl rfl (by kernel_rfl) (by kernel_rfl) (by kernel_rfl) (dC S 1 rfl rfl I.e.n3 (aD (nG (pJ S 0 rfl rfl I.e.n11 (aD (aj S 0)) (dB rfl) rfl) aH)) (cS rfl)) (fun _ _ _=>dU) (fun Y1 S1 F1=>(nH .leaf vR)) (fun _=>rfl)) (aT (pG S 2 3 2 rfl rfl rfl rfl rfl rfl I.e.n10 hp (aj S 0) (cS rfl) (fF (lX S 1 rfl rfl (aj S 3) (aj S 2) (fun _ _=>rfl) (cS rfl) rfl rfl rfl rfl)) (fun _=>rfl)) (bz (gG S 1 rfl rfl))))
theorem gU:DefOk P w K mg base 6 "least_world" 2 JC:=mk A.f38 A.g ["world", "owned"] lL ["numbers", "least", "owners", "marks", "steps", "rooms", "room"] ["check_world", "class_numbers", "grouped", "list", "classes_ahead"] [0,1,2,3,4,5,6] [0,2] [0,1,2] fun X S I hp=>
 (aT (wo (bf S 0 (I.c (GZ A)) (aD (aj S 0))) rfl) (aT (bP S false 2 (bf S 1 (I.c (fq A)) (aL (aj S 0) (aD (aj S 1))))) (aT (rQ (vs':=[7]) (cs':=[]) (lo':=[]) (gs':=[]) S false 3 .leaf 7 rfl rfl rfl rfl (by kernel_rfl) (by kernel_rfl) (by kernel_rfl) (fE (bf S 2 (I.c (qq A)) (aD (aj S 2)))) (fun _ _ _=>dU) (fun Y1 S1 F1=>(aU (aj S1 7) aH)) (fun _=>rfl)) (aT (rQ (vs':=[0,8]) (cs':=[0]) (lo':=[]) (gs':=[]) S false 4 .leaf 8 rfl rfl rfl rfl (by kernel_rfl) (by kernel_rfl) (by kernel_rfl) (fE (aj S 3)) (fun _ _ _=>dU) (fun Y2 S2 F2=>(aU (aU (aj S2 0) aH) (aj S2 8))) (fun _=>rfl)) (aT (rQ (vs':=[0,8]) (cs':=[0]) (lo':=[]) (gs':=[3]) S false 5 .leaf 8 rfl rfl rfl rfl (by kernel_rfl) (by kernel_rfl) (by kernel_rfl) (fE (aj S 3)) (fun _ _ _=>dU) (fun Y3 S3 F3=>have I:=F3.i I;(ip S3 3 rfl rfl I.e.n7 (aU (aU (aj S3 0) aH) (aj S3 8)) (cS rfl))) (fun _=>rfl)) (aT (rQ (vs':=[0,2,8]) (cs':=[0,2]) (lo':=[]) (gs':=[4]) S false 6 .leaf 8 rfl rfl rfl rfl (by kernel_rfl) (by kernel_rfl) (by kernel_rfl) (fE (aj S 3)) (fun _ _ _=>dU) (fun Y4 S4 F4=>have I:=F4.i I;(bf S4 4 (I.c (cB A)) (aL (aj S4 2) (aD (aU (aU (aj S4 0) aH) (aj S4 8)))))) (fun _=>rfl)) (bz (ff (aL (ff (aL (aj S 4) (aL (aj S 5) (aD (aj S 6))))) (aD (aj S 2)))))))))))
theorem Ar:DefOk P w K mg base 1 "_law_cell_at" 2 nF:=mk A.f39 A.g ["script", "k"] lL [] ["len"] [0,1] [] [0] fun X S I hp=>
 (aT (dQ (cc (qb I.r) (aj S 1) (dW S 0 I.e.n2 (aD (aj S 0)))) (bz (aU (aj S 0) (aj S 1))) dS) (bz aH))
theorem nE:DefOk P w K mg base 1 "_law_draw" 3 bZ:=mk A.f40 A.g ["cell", "k", "bound"] vU ["stir", "left", "j"] ["range"] [0,1,2,3,4,5] [] [0] fun X S I hp=>
 (aT (dQ (cc (Ki I.r) (aj S 0) (rU aH aH)) (aT (bP S false 4 (aj S 0)) (aT (Am S 5 rfl rfl hp (dC S 0 rfl rfl I.e.n3 (aD (aj S 1)) (cS rfl)) (fF (bP S false 4 (jJ (aj S 4) (aj S 2)))) (fun _=>rfl)) (bz (rB (aj S 4) (aj S 2))))) dS) (aT (bP S false 3 (rB (DZ (nG (nG (rB (aj S 0) aH) (DZ aH (aj S 1))) aH) aH) aH)) (aT (bP S false 3 (rB (nG (nG (DZ (aj S 3) (aj S 3)) (DZ aH (aj S 1))) aH) aH)) (bz (rB (jJ (rB (DZ (aj S 3) aH) aH) aH) (aj S 2))))))
theorem jj:DefOk P w K mg base 2 "_law_world" 3 m__law_world:=mk A.f41 A.g ["script", "at", "most"] vU ["many", "owners", "marks", "steps", "room", "cell", "row", "there", "mark"] ["_law_cell_at", "range", "_law_draw", "int"] [0,1,2,3,4,5,6,7,8,9] [3,8] [0,1,2] fun X S I hp=>
 (aT (bP S false 3 (nG aH (rB (bf S 0 (I.c (Ar A)) (aL (aj S 0) (aD (aj S 1)))) (aj S 2)))) (aT (bP S true 4 (nH .leaf vR)) (aT (bP S true 5 (nH .leaf vR)) (aT (bP S true 6 (nH .leaf vR)) (aT (Am S 7 rfl rfl hp (dC S 1 rfl rfl I.e.n3 (aD (aj S 3)) (cS rfl)) (aT (bP S false 8 (bf S 0 (I.c (Ar A)) (aL (aj S 0) (aD (nG (nG (aj S 1) aH) (aj S 7)))))) (aT (Ap S 4 rfl rfl (bf S 2 (I.c (nE A)) (aL (aj S 8) (aL aH (aD aH)))) (cS rfl) rfl rfl rfl rfl) (aT (Ap S 5 rfl rfl (gH [8,11] [8] [2] S 11 (pB (by kernel_rfl)) (fun Y1 S1 F1=>have I:=F1.i I;Do (cc (bU I.r) (bf S1 2 (I.c (nE A)) (aL (aj S1 8) (aL (nG aH (pH (aj S1 11) (cS rfl) rfl)) (aD aH)))) aH)) (fun Y1 S1 F1=>have I:=F1.i I;(aj S1 11))) (cS rfl) rfl rfl rfl rfl) (aT (rQ (vs':=[3,8,10]) (cs':=[3,8]) (lo':=[]) (gs':=[2,3]) S false 9 .leaf 10 rfl rfl rfl rfl (by kernel_rfl) (by kernel_rfl) (by kernel_rfl) (dC S 1 rfl rfl I.e.n3 (aD (aj S 3)) (cS rfl)) (fun Y2 S2 F2=>have I:=F2.i I;Do (cc (bU I.r) (bf S2 2 (I.c (nE A)) (aL (aj S2 8) (aL (nG aH (aj S2 10)) (aD (nG aH (se S2 3 rfl rfl I.e.n12 (aD (et (xx I.r) (aj S2 3) aH)) (dB rfl) rfl)))))) aH)) (fun Y2 S2 F2=>have I:=F2.i I;(aj S2 10)) (fun _=>rfl)) (aT (dQ (cc (bU I.r) (aj S 9) (nH .leaf vR)) (fF (bP S false 9 (nH .leaf (aD (bf S 2 (I.c (nE A)) (aL (aj S 8) (aL (nG aH (aj S 3)) (aD (aj S 3))))))))) dS) (fF (Ap S 6 rfl rfl (aj S 9) (cS rfl) rfl rfl rfl rfl))))))) (fun _=>rfl)) (bz (ff (aL (gG S 4 rfl rfl) (aL (gG S 5 rfl rfl) (aD (gG S 6 rfl rfl)))))))))))
theorem mN:DefOk P w K mg base 2 "_law_way" 4 Jl:=mk A.f42 A.g ["world", "cell", "room", "size"] Hz ["rooms", "k", "places", "at", "steps"] ["range", "_law_draw", "len"] [0,1,2,3,4,5,6,7,8] [4] [0,1,2] fun X S I hp=>
 (aT (bP S true 4 (nH .leaf (aD (aj S 2)))) (aT (Am S 5 rfl rfl hp (dC S 0 rfl rfl I.e.n3 (aD (aj S 3)) (cS rfl)) (aT (bP S false 8 (aU (aU (aj S 0) aH) (aU (aj S 4) (wm aH)))) (fF (Ap S 4 rfl rfl (aU (aj S 8) (rB (bf S 1 (I.c (nE A)) (aL (aj S 1) (aL (aj S 5) (aD aH)))) (dW S 2 I.e.n2 (aD (aj S 8))))) (cS rfl) rfl rfl rfl rfl))) (fun _=>rfl)) (aT (Ea 100 hp (cc (Ah I.r) (aU (aj S 4) (wm aH)) (Dq (aj S 4) (wm aH))) (aT (bP S false 8 (aU (aU (aj S 0) aH) (aU (aj S 4) (wm aH)))) (fF (Ap S 4 rfl rfl (aU (aj S 8) (rB (bf S 1 (I.c (nE A)) (aL (aj S 1) (aL (dW S 2 I.e.n2 (aD (aj S 4))) (aD aH)))) (dW S 2 I.e.n2 (aD (aj S 8))))) (cS rfl) rfl rfl rfl rfl)))) (aT (rQ (vs':=[4,5]) (cs':=[4]) (lo':=[]) (gs':=[]) S false 6 .leaf 5 rfl rfl rfl rfl (by kernel_rfl) (by kernel_rfl) (by kernel_rfl) (dC S 0 rfl rfl I.e.n3 (aD (Gu (dW S 2 I.e.n2 (aD (aj S 4))) aH)) (cS rfl)) (fun Y1 S1 F1=>have I:=F1.i I;Do (cc (bU I.r) (aU (aj S1 4) (aj S1 5)) (aU (aj S1 4) (wm aH)))) (fun Y1 S1 F1=>have I:=F1.i I;(aj S1 5)) (fun _=>rfl)) (aT (bP S false 7 (aU (aj S 6) (rB (bf S 1 (I.c (nE A)) (aL (aj S 1) (aL aH (aD aH)))) (dW S 2 I.e.n2 (aD (aj S 6)))))) (bz (ff (aL (Dq (aj S 4) (aj S 7)) (aD (lY (aj S 4) (aj S 7)))))))))))
theorem jk:DefOk P w K mg base 2 "_law_timed" 3 Ed:=mk A.f43 A.g ["cell", "one", "other"] vU ["kind"] ["_law_draw"] [0,1,2,3] [] [0] fun X S I hp=>
 (aT (bP S false 3 (aU (nH .leaf (aL dR (aL dR (aL dR (aL dR (aL dR (aD dR))))))) (bf S 0 (I.c (nE A)) (aL (aj S 0) (aL aH (aD aH)))))) (aT (dQ (cc (EM I.r) dR (aj S 3)) (bz (ff (aL (aj S 3) (aL (aj S 1) (aD (aj S 2)))))) dS) (bz (ff (aL (aj S 3) (aD (aj S 1)))))))
theorem eQ:DefOk P w K mg base 2 "_law_part" 1 D7:=mk A.f44 A.g ["cell"] nq ["one", "other", "some"] ["_law_draw"] [0,1,2,3] [] [0] fun X S I hp=>
 (aT (bP S false 1 (ff (aL dR (aD (aU dR (bf S 0 (I.c (nE A)) (aL (aj S 0) (aL aH (aD aH))))))))) (aT (bP S false 2 (ff (aL dR (aD (aU dR (bf S 0 (I.c (nE A)) (aL (aj S 0) (aL aH (aD aH))))))))) (aT (bP S false 3 (nH .leaf (aL (aj S 1) (aL (ff (aL dR (aD (aj S 1)))) (aL (ff (aL dR (aL (aj S 1) (aD (ff (aL dR (aD (aj S 2)))))))) (aL (ff (aL dR (aL (aj S 1) (aD (aj S 2))))) (aL (ff (aL dR (aD (aj S 1)))) (aD (ff (aD dR)))))))))) (bz (aU (Gr (aj S 3) (nH .leaf (aL (ff (aL dR (aD (aj S 2)))) (aL (aj S 1) (aD (ff (aL dR (aD (ff (aD dR)))))))))) (bf S 0 (I.c (nE A)) (aL (aj S 0) (aL aH (aD aH)))))))))
theorem o_law {fa:Addr} (hfa:mg "law"=some (.ref fa)):∃fd:FuncData,(∀(s:Shared) (v:Value),BindsTo s fd ⟨[v],[]⟩ [("script",v)])/\∀base:Heap,K.In base->base.Ns mainGlobals mg->dw P w K mg base nB 36 fa fd ["script"] (pN K 1 uE):=Ly A.f45 A.g "script" nq hfa ["world", "cell", "way", "sentence", "mine", "told", "one", "other", "small", "places", "room"] ["_law_world", "_law_cell_at", "len", "_law_draw", "_law_way", "_law_part", "_law_timed", "least_world", "is_way", "way_shows", "short"] [0,1,2,3,4,5,6,7,8,9,10] [10] [0,1,2,3,4,5,6,7,8,9,10] fun base X S I hp=>
 (aT (bP S false 1 (bf S 0 (I.c (jj A)) (aL (aj S 0) (aL aH (aD aH))))) (aT (bP S false 2 (bf S 1 (I.c (Ar A)) (aL (aj S 0) (aD aH)))) (aT (bP S false 3 (bf S 4 (I.c (mN A)) (aL (aj S 1) (aL (bf S 1 (I.c (Ar A)) (aL (aj S 0) (aD aH))) (aL (bf S 3 (I.c (nE A)) (aL (aj S 2) (aL aH (aD (dW S 2 I.e.n2 (aD (aU (aj S 1) aH))))))) (aD (bf S 3 (I.c (nE A)) (aL (aj S 2) (aL aH (aD aH)))))))))) (aT (pF S 7 8 rfl rfl rfl rfl rfl rfl (by decide +kernel) rfl rfl rfl (aL (bf S 5 (I.c (eQ A)) (aD (bf S 1 (I.c (Ar A)) (aL (aj S 0) (aD aH))))) (aD (bf S 5 (I.c (eQ A)) (aD (bf S 1 (I.c (Ar A)) (aL (aj S 0) (aD aH))))))) rfl) (aT (bP S false 4 (bf S 6 (I.c (jk A)) (aL (bf S 1 (I.c (Ar A)) (aL (aj S 0) (aD aH))) (aL (aj S 7) (aD (aj S 8)))))) (aT (pC S 9 10 rfl rfl rfl rfl (bf S 7 (I.c (gU A)) (aL (aj S 1) (aD (et (bU I.r) (bf S 3 (I.c (nE A)) (aL (aj S 2) (aL aH (aD aH)))) aH)))) rfl rfl) (rY 9 (aT (bP S false 5 (ff (aL (gH [10,11] [10] [] S 11 (fE (aU (aj S 3) aH)) (fun _ _ _=>dU) (fun Y1 S1 F1=>(aU (aj S1 10) (aj S1 11)))) (aD (gH [10,11] [10] [] S 11 (fE (aU (aj S 3) aH)) (fun _ _ _=>dU) (fun Y2 S2 F2=>(aU (aj S2 10) (aj S2 11)))))))) (aT (dQ (cc (BE I.r) (bf S 8 (I.c (uo A)) (aL (aj S 9) (aD (aj S 5)))) vN) (bz vN) dS) (aT (bP S false 6 (bf S 9 (I.c (Jt A)) (aL (aj S 1) (aL (aj S 4) (aD (aj S 3)))))) (bz (ze (et (bU I.r) (bf S 9 (I.c (Jt A)) (aL (aj S 9) (aL (aj S 4) (aD (aj S 5))))) (aj S 6)) (zg (et (bU I.r) (bf S 9 (I.c (Jt A)) (aL (aj S 9) (aL (aj S 4) (aD (bf S 10 (I.c (xS A)) (aL (aj S 9) (aD (aj S 5)))))))) (aj S 6)))))))))))))))
end
end KQ
open PySem PySem.W PyProof.Rows
def PySem.W.Fast.tw8968992691810951361:=0
def PySem.W.Fast.tw1023058612346664225:=0
def PySem.W.Fast.tw5166355464277353004:=0
def PySem.W.Fast.tw16653015439010922257:=0
def PySem.W.Fast.tw1502799478024305589:=0
def PySem.W.Fast.tw16488904491859035126:=0
def PySem.W.Fast.tw2437782912098315895:=0
def PySem.W.Fast.tw16224415263436432057:=0
def PySem.W.Fast.tw12834998166679709147:=0
def PySem.W.Fast.tw869412257421739453:=0
def PySem.W.Fast.tw10451098439602265821:=0
def PySem.W.Fast.tw14755076017409643838:=0
def PySem.W.Fast.tw15198525045115736798:=0
def PySem.W.Fast.tw6803392047385450464:=0
def PySem.W.Fast.tw80440411815889742:=0
def PySem.W.Fast.tw14100833556419914886:=0
def PySem.W.Fast.tw11970017773172809336:=0
def PySem.W.Fast.tw4291080767752432923:=0
def PySem.W.Fast.tw2510344312276962250:=0
def PySem.W.Fast.tw12508617020953661709:=0
def PySem.W.Fast.tw15065833575991660560:=0
def PySem.W.Fast.tw17667278908209887999:=0
def PySem.W.Fast.tw254092821871156623:=0
def PySem.W.Fast.tw3787540616328661637:=0
def PySem.W.Fast.tw17722175220158420778:=0
def PySem.W.Fast.tw14604215274159404834:=0
def PySem.W.Fast.tw5705198151964350296:=0
def PySem.W.Fast.tw4426946991049111242:=0
def PySem.W.Fast.tw1996814329872471248:=0
def PySem.W.Fast.tw808174341602467025:=0
def PySem.W.Fast.tw1625399087960434531:=0
def PySem.W.Fast.tw11150014710540955953:=0
def PySem.W.Fast.tw17725533996122648265:=0
def PySem.W.Fast.tw10600327350867677865:=0
def PySem.W.Fast.tw1045127177846604339:=0
def PySem.W.Fast.tw8616006210198060515:=0
def PySem.W.Fast.tw3540900100935555172:=0
def PySem.W.Fast.tw18345118404253223318:=0
set_option maxRecDepth 100000 in
set_option maxHeartbeats 0 in
theorem PySem.Challenge.cw_foreseehall_k89_whole_ways_in_least_worl_holds : PySem.Challenge.rw_foreseehall_k89_whole_ways_in_least_worl.Holds := by
 w_on;o_law;k_head;(case hw=>w_witness2)
 k_fill
 refine T.walkG (j:=36) (l:=PySem.Challenge.rw_foreseehall_k89_whole_ways_in_least_worl) KQ.law_true ⟨rfl,by decide,by decide⟩ rfl rfl (fun w h Y=>PySem.W.kIn_of Y) ?F
 case F=>
  intro w mg fa h KX G hmg;refine' KQ.o_law (.mk (.mk (T.gn KX G ?z0) (T.gn KX G ?z1) (T.gn KX G ?z2) (T.gn KX G ?z3) (T.gn KX G ?z4) (T.gn KX G ?z5) (T.gn KX G ?z6) (T.gn KX G ?z7) (T.gn KX G ?z8) (T.gn KX G ?z9) (T.gn KX G ?z10) (T.gn KX G ?z11) (T.gn KX G ?z12) (T.gt KX G ?e0 ?q0 ?v0) (T.gi KX G ?e1) (T.gt KX G ?e2 ?q2 ?v2) (T.gi KX G ?e3) (T.gi KX G ?e4) (T.gt KX G ?e5 ?q5 ?v5) (T.gt KX G ?e6 ?q6 ?v6) (T.gt KX G ?e7 ?q7 ?v7) (T.gt KX G ?e8 ?q8 ?v8) (T.gt KX G ?e9 ?q9 ?v9) (T.gd KX G ?x0 ?y0 ?w0)) (T.ft KX G ?a0 ?l0 ?c0 ?k0) (T.ft KX G ?a1 ?l1 ?c1 ?k1) (T.ft KX G ?a2 ?l2 ?c2 ?k2) (T.ft KX G ?a3 ?l3 ?c3 ?k3) (T.ft KX G ?a4 ?l4 ?c4 ?k4) (T.ft KX G ?a5 ?l5 ?c5 ?k5) (T.ft KX G ?a6 ?l6 ?c6 ?k6) (T.ft KX G ?a7 ?l7 ?c7 ?k7) (T.ft KX G ?a8 ?l8 ?c8 ?k8) (T.ft KX G ?a9 ?l9 ?c9 ?k9) (T.ft KX G ?a10 ?l10 ?c10 ?k10) (T.ft KX G ?a11 ?l11 ?c11 ?k11) (T.ft KX G ?a12 ?l12 ?c12 ?k12) (T.ft KX G ?a13 ?l13 ?c13 ?k13) (T.ft KX G ?a14 ?l14 ?c14 ?k14) (T.ft KX G ?a15 ?l15 ?c15 ?k15) (T.ft KX G ?a16 ?l16 ?c16 ?k16) (T.ft KX G ?a17 ?l17 ?c17 ?k17) (T.ft KX G ?a18 ?l18 ?c18 ?k18) (T.ft KX G ?a19 ?l19 ?c19 ?k19) (T.ft KX G ?a20 ?l20 ?c20 ?k20) (T.ft KX G ?a21 ?l21 ?c21 ?k21) (T.ft KX G ?a22 ?l22 ?c22 ?k22) (T.ft KX G ?a23 ?l23 ?c23 ?k23) (T.ft KX G ?a24 ?l24 ?c24 ?k24) (T.ft KX G ?a25 ?l25 ?c25 ?k25) (T.ft KX G ?a26 ?l26 ?c26 ?k26) (T.ft KX G ?a27 ?l27 ?c27 ?k27) (T.ft KX G ?a28 ?l28 ?c28 ?k28) (T.ft KX G ?a29 ?l29 ?c29 ?k29) (T.ft KX G ?a30 ?l30 ?c30 ?k30) (T.ft KX G ?a31 ?l31 ?c31 ?k31) (T.ft KX G ?a32 ?l32 ?c32 ?k32) (T.ft KX G ?a33 ?l33 ?c33 ?k33) (T.ft KX G ?a34 ?l34 ?c34 ?k34) (T.ft KX G ?a35 ?l35 ?c35 ?k35) (T.ft KX G ?a36 ?l36 ?c36 ?k36) (T.ft KX G ?a37 ?l37 ?c37 ?k37) (T.ft KX G ?a38 ?l38 ?c38 ?k38) (T.ft KX G ?a39 ?l39 ?c39 ?k39) (T.ft KX G ?a40 ?l40 ?c40 ?k40) (T.ft KX G ?a41 ?l41 ?c41 ?k41) (T.ft KX G ?a42 ?l42 ?c42 ?k42) (T.ft KX G ?a43 ?l43 ?c43 ?k43) (T.ft KX G ?a44 ?l44 ?c44 ?k44) (T.ft KX G ?a45 ?l45 ?c45 ?k45)) hmg
  case a0|l0|c0|k0|a1|l1|c1|k1|a2|l2|c2|k2|a3|l3|c3|k3|a4|l4|c4|k4|a5|l5|c5|k5|a6|l6|c6|k6|a7|l7|c7|k7|a8|l8|c8|k8|a9|l9|c9|k9|a10|l10|c10|k10|a11|l11|c11|k11|a12|l12|c12|k12|a13|l13|c13|k13|a14|l14|c14|k14|a15|l15|c15|k15|a16|l16|c16|k16|a17|l17|c17|k17|a18|l18|c18|k18|a19|l19|c19|k19|a20|l20|c20|k20|a21|l21|c21|k21|a22|l22|c22|k22|a23|l23|c23|k23|a24|l24|c24|k24|a25|l25|c25|k25|a26|l26|c26|k26|a27|l27|c27|k27|a28|l28|c28|k28|a29|l29|c29|k29|a30|l30|c30|k30|a31|l31|c31|k31|a32|l32|c32|k32|a33|l33|c33|k33|a34|l34|c34|k34|a35|l35|c35|k35|a36|l36|c36|k36|a37|l37|c37|k37|a38|l38|c38|k38|a39|l39|c39|k39|a40|l40|c40|k40|a41|l41|c41|k41|a42|l42|c42|k42|a43|l43|c43|k43|a44|l44|c44|k44|a45|l45|c45|k45|z0|z1|z2|z3|z4|z5|z6|z7|z8|z9|z10|z11|z12|e0|q0=>k_is
  case v0=>kernel_rfl
  case e1|e2|q2=>k_is
  case v2=>kernel_rfl
  case e3|e4|e5|q5=>k_is
  case v5=>kernel_rfl
  case e6|q6=>k_is
  case v6=>kernel_rfl
  case e7|q7=>k_is
  case v7=>kernel_rfl
  case e8|q8=>k_is
  case v8=>kernel_rfl
  case e9|q9=>k_is
  case v9=>kernel_rfl
  case x0|y0=>k_is
  case w0=>kernel_rfl
